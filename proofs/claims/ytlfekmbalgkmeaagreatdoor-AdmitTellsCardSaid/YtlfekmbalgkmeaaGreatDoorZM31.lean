import Derived.Test.YtlfekmbalgkmeaaGreatDoorZM12
import Derived.Test.YtlfekmbalgkmeaaGreatDoorZM10
import Derived.Test.YtlfekmbalgkmeaaGreatDoorZM30
import Derived.Test.YtlfekmbalgkmeaaGreatDoorZM29
import Derived.Test.YtlfekmbalgkmeaaGreatDoorZM2
import Derived.Conc.LoneSelect
import Derived.KernelRfl
import Derived.Lib.Hide
import Derived.Test.YtlfekmbalgkmeaaGreatDoorZM28
import Derived.Test.YtlfekmbalgkmeaaGreatDoorZM4
import Derived.BigQuiet
set_option linter.unusedSimpArgs false
set_option linter.unnecessarySimpa false
set_option linter.unusedVariables false
set_option maxRecDepth 100000
set_option maxHeartbeats 16000000
namespace Go.Proofs.YtlfekmbalgkmeaaGreatDoor
open Go Go.RowKit
def HandA(S:List Shp)(m:Int)(C:List (List Int))(e:Int):Prop:=
 (m<usedP S/\C= []/\e=171)\/(usedP S<=m/\ ∃L er,PlcA (lightP S) (m - usedP S) L er/\((er=0/\C=atP (usedP S) 0 S L/\e=0)\/(er≠0/\C= []/\e=171)))
theorem handA_is(S:List Shp)(m:Int): ∃C e,HandA S m C e:=by
 by_cases h:m<usedP S
 ·exact⟨_,_,.inl ⟨h,rfl,rfl⟩⟩
 ·obtain ⟨L,er,hP⟩:=plcA_is (lightP S) (m - usedP S)
  by_cases h0:er=0
  ·exact⟨_,_,.inr ⟨by omega,L,er,hP,.inl ⟨h0,rfl,rfl⟩⟩⟩
  ·exact⟨_,_,.inr ⟨by omega,L,er,hP,.inr ⟨h0,rfl,rfl⟩⟩⟩
theorem HandA.ways{S:List Shp}{m:Int}{C:List (List Int)}{e:Int}(h:HandA S m C e):e=0\/(e=171/\C= []):=by
 rcases h with⟨_,h1,h2⟩|⟨_,_,_,_,⟨_,_,h2⟩|⟨_,h1,h2⟩⟩
 ·exact .inr ⟨h2,h1⟩
 ·exact .inl h2
 ·exact .inr ⟨h2,h1⟩
def MayA(n:Nat)(m:Int):Prop:=n<=8/\1<=m/\m<=8
noncomputable def shpsT (Ts:List Task):List Shp:=Ts.map shapeT
theorem shpsT_len(Ts:List Task):(shpsT Ts).length=Ts.length:=by simp[shpsT]
def AdmA(Ts:List Task)(m:Int)(S:List Shp)(C:List (List Int))(e:Int):Prop:=
 (¬MayA Ts.length m/\S= []/\C= []/\e=170)\/
 (MayA Ts.length m/\fstX (Ts.map lowX)≠0/\S= []/\C= []/\e=fstX (Ts.map lowX))\/
 (MayA Ts.length m/\fstX (Ts.map lowX)=0/\fstX ((shpsT Ts).map faultS)≠0/\S= []/\C= []/\e=fstX ((shpsT Ts).map faultS))\/
 (MayA Ts.length m/\fstX (Ts.map lowX)=0/\fstX ((shpsT Ts).map faultS)=0/\HandA (shpsT Ts) m C e/\S=if e=0 then shpsT Ts else [])
theorem admA_is(Ts:List Task)(m:Int): ∃S C e,AdmA Ts m S C e:=by
 by_cases h1:MayA Ts.length m
 ·by_cases h2: fstX (Ts.map lowX) = 0
  ·by_cases h3: fstX ((shpsT Ts).map faultS) = 0
   ·obtain ⟨C,e,hH⟩:=handA_is (shpsT Ts) m
    exact⟨_,C,e,.inr (.inr (.inr ⟨h1,h2,h3,hH,rfl⟩))⟩
   ·exact⟨_,_,_,.inr (.inr (.inl ⟨h1,h2,h3,rfl,rfl,rfl⟩))⟩
  ·exact⟨_,_,_,.inr (.inl ⟨h1,h2,rfl,rfl,rfl⟩)⟩
 ·exact⟨_,_,_,.inl ⟨h1,rfl,rfl,rfl⟩⟩
theorem shapes_good{Ts:List Task}(h:fstX ((shpsT Ts).map faultS)=0): ∀s∈shpsT Ts,faultS s=0:=fun s hs=>fstX_zero.mp h _ (List.mem_map.mpr ⟨s,hs,rfl⟩)
structure AdmOk(Ts:List Task)(m:Int)(S:List Shp)(C:List (List Int))(L:List Int):Prop where
 may:MayA Ts.length m
 low:fstX (Ts.map lowX)=0
 eq:S=shpsT Ts
 good: ∀s∈S,faultS s=0
 used:usedP S<=m
 plc:PlcA (lightP S) (m - usedP S) L 0
 at_:C=atP (usedP S) 0 S L
theorem AdmA.zero{Ts:List Task}{m:Int}{S:List Shp}{C:List (List Int)}{e:Int}(h:AdmA Ts m S C e)(h0:e=0): ∃L,AdmOk Ts m S C L:=by
 subst h0;rcases h with⟨_,_,_,h⟩|⟨_,h,_,_,h'⟩|⟨_,_,h,_,_,h'⟩|⟨h1,h2,h3,h4,h5⟩
 ·cases h
 ·exact absurd h'.symm h
 ·exact absurd h'.symm h
 ·rw [if_pos rfl] at h5
  rcases h4 with⟨_,_,h⟩|⟨h6,L,er,hP,⟨h7,h8,_⟩|⟨_,_,h⟩⟩
  ·cases h
  ·subst h7
   exact⟨L,h1,h2,h5,by rw[h5];exact shapes_good h3,by rw[h5];exact h6,by rw[h5];exact hP,by rw[h5];exact h8⟩
  ·cases h
theorem AdmA.non{Ts:List Task}{m:Int}{S:List Shp}{C:List (List Int)}{e:Int}(h:AdmA Ts m S C e)(h0:e≠0):S= []/\C= []:=by
 rcases h with⟨_,h,h',_⟩|⟨_,_,h,h',_⟩|⟨_,_,_,h,h',_⟩|⟨h1,h2,h3,h4,h5⟩
 ·exact⟨h,h'⟩
 ·exact⟨h,h'⟩
 ·exact⟨h,h'⟩
 ·rw [if_neg h0] at h5
  rcases h4.ways with h|h
  ·exact absurd h h0
  ·exact⟨h5,h.2⟩
theorem AdmOk.is{Ts:List Task}{m:Int}{S:List Shp}{C:List (List Int)}{L:List Int}(h:AdmOk Ts m S C L):AdmA Ts m S C 0:=by
 refine .inr (.inr (.inr ⟨h.may,h.low,?_,?_,?_⟩))
 ·rw [<- h.eq]
  exact fstX_zero.mpr fun x hx=>by
   obtain⟨s,hs,rfl⟩:=List.mem_map.mp hx;exact h.good s hs
 ·rw [<- h.eq]
  exact .inr ⟨h.used,L,0,h.plc,.inl ⟨rfl,h.at_,rfl⟩⟩
 ·rw[if_pos rfl];exact h.eq
theorem PlcA.len{es:List Shp}{m:Int}{L:List Int}(h:PlcA es m L 0):L.length=es.length/\ ∀a∈L,0<=a/\a<m:=by
 obtain⟨_,_,_,_,hR⟩:=h.zero rfl;exact⟨hR.len,hR.at_⟩
theorem atP_at{u nx:Int}{S:List Shp}{L:List Int}{i:Nat}{s:Shp}(h:S[i]? =some s):
  (atP u nx S L)[i]? =some (if heavyS s=true then upto (nx+usedP (S.take i)) (coresS s).toNat else [u+(L.drop (lightP (S.take i)).length).headD 0]):=by
 have hl:=(List.getElem?_eq_some_iff.mp h).1
 conv=>lhs;rw[list_cut h]
 rw[atP_app];have h1:(atP u nx (S.take i) L).length=i:=by rw[atP_len,List.length_take];omega
 rw[List.getElem?_append_right (by omega),h1,Nat.sub_self]
 simp only[atP]
 split<;>rfl
theorem usedP_take{S:List Shp}(h: ∀s∈S,faultS s=0)(i:Nat):0<=usedP (S.take i)/\usedP (S.take i)<=usedP S:=by
 have h1:=usedP_pos (S:=S.take i) fun s hs=>h s (List.mem_of_mem_take hs)
 have h2:=usedP_pos (S:=S.drop i) fun s hs=>h s (List.mem_of_mem_drop hs)
 have h3:=usedP_app (S.take i) (S.drop i);rw[List.take_append_drop]at h3;omega
theorem usedP_next{S:List Shp}{i:Nat}{s:Shp}(h:S[i]? =some s):usedP (S.take (i+1))=usedP (S.take i)+if heavyS s=true then coresS s else 0:=by
 rw[take_one h,usedP_app];simp only[usedP];omega
theorem headD_mem{L:List Int}(h:L≠ []):L.headD 0∈L:=by
 cases L with
 |nil=>exact absurd rfl h
 |cons a L=>simp
theorem light_before{S:List Shp}{i:Nat}{s:Shp}(h:S[i]? =some s)(hh:heavyS s=false):(lightP (S.take i)).length<(lightP S).length:=by
 have h1:lightP S=lightP (S.take i)++lightP (s::S.drop (i+1)):=by
  conv=>lhs;rw[list_cut h]
  rw[lightP_app]
 rw[h1,List.length_append,lightP_cons,hh];simp
section
variable {Ts: List Task} {m: Int} {S: List Shp} {C: List (List Int)} {L: List Int}
theorem AdmOk.suit(h:AdmOk Ts m S C L){i:Nat}{s:Shp}{c:List Int}(hs:S[i]? =some s)(hc:C[i]? =some c):SuitQ m s c:=by
  have hg:=h.good s (List.mem_of_getElem? hs)
  obtain⟨p1,p2,p3,p4,p5⟩:=coresS_pos hg;obtain⟨l1,l2⟩:=h.plc.len;have hu:=usedP_take h.good i;have hu2:=usedP_take h.good (i+1);rw[usedP_next hs]at hu2;rw[h.at_,atP_at hs]at hc;cases hh:heavyS s with
  | true =>
    rw[hh,if_pos rfl]at hc hu2;obtain rfl:=Option.some.inj hc;have:=h.used;exact⟨hg,by rw[upto_len];omega,Rise.upto (by omega) (by omega)⟩
  | false =>
    rw[hh,if_neg (by simp)]at hc
    obtain rfl:=Option.some.inj hc;obtain⟨q1,q2⟩:=p4 hh;have hlt:=light_before hs hh;have hne:L.drop (lightP (S.take i)).length≠ []:=fun q=>by
      have:=congrArg List.length q;simp at this;omega
    have:=l2 _ (List.mem_of_mem_drop (headD_mem hne));have hu3:=usedP_pos h.good;exact⟨hg,by rw[q1];rfl,by omega,by omega,trivial⟩
theorem cntH_atP(u:Int): ∀(S:List Shp) (nx:Int) (L:List Int) (k:Int),(∀s∈S,faultS s=0)->cntH S (atP u nx S L) k<=1/\(k<nx->cntH S (atP u nx S L) k=0)/\(nx+usedP S<=k->cntH S (atP u nx S L) k=0)
  | [],_,_,_,_=>⟨by simp[atP,cntH],by simp[atP,cntH],by simp[atP,cntH]⟩
  | s :: S, nx, L, k, h => by
    have hg:=h s (List.mem_cons_self ..);obtain⟨p1,p2,p3,p4,p5⟩:=coresS_pos hg;have hS:=usedP_pos (S:=S) fun x hx=>h x (List.mem_cons_of_mem _ hx)
    cases hh:heavyS s with
    | true =>
      obtain⟨i1,i2,i3⟩:=cntH_atP u S (nx+coresS s) L k fun x hx=>h x (List.mem_cons_of_mem _ hx)
      simp only[atP,hh,if_true,cntH,usedP,true_and,upto_mem]
      by_cases q:nx<=k/\k<nx+((coresS s).toNat:Int)
      · rw[if_pos q];have:=i2 (by omega)
        exact⟨by omega,fun _=>by omega,fun _=>by omega⟩
      · rw[if_neg q];exact⟨by omega,fun _=>by have:=i2 (by omega);omega,fun _=>by have:=i3 (by omega);omega⟩
    | false =>
      obtain⟨i1,i2,i3⟩:=cntH_atP u S nx L.tail k fun x hx=>h x (List.mem_cons_of_mem _ hx)
      simp only[atP,hh,if_false,cntH,usedP,Bool.false_eq_true,false_and];exact⟨by omega,fun _=>by have:=i2 (by omega);omega,fun _=>by have:=i3 (by omega);omega⟩
theorem onL_atP(u:Int): ∀(S:List Shp) (nx:Int) (L:List Int) (k:Int),(∀s∈S,faultS s=0)->L.length=(lightP S).length->onL S (atP u nx S L) k=if u<=k then onP (lightP S) L (k - u)else onL S (atP u nx S L) k
  | S, nx, L, k, h, hl => by
    split
    · rename_i hk
      induction S generalizing nx L with
      |nil=>simp[atP,onL,lightP,onP]
      | cons s S ih =>
        have hg:=h s (List.mem_cons_self ..);obtain⟨p1,p2,p3,p4,p5⟩:=coresS_pos hg;cases hh:heavyS s with
        | true =>
          rw[lightP_cons,hh,if_pos rfl]at hl⊢;have hn: ¬LightS s:=fun q=>by have:=q.2;have:=p5 hh;omega
          simp only[atP,hh,if_true,onL];rw[if_neg (fun q=>hn q.1)]
          exact ih _ _ (fun x hx=>h x (List.mem_cons_of_mem _ hx)) hl
        | false =>
          rw[lightP_cons,hh,if_neg (by simp)]at hl⊢
          have hL:=(p4 hh).2;cases L with
          |nil=>simp at hl
          | cons a L =>
            simp only[atP,hh,if_false,Bool.false_eq_true,onL,onP,List.headD_cons,List.tail_cons,List.mem_singleton];have:=ih nx L (fun x hx=>h x (List.mem_cons_of_mem _ hx)) (by simpa using hl)
            by_cases q:a=k - u
            · rw[if_pos ⟨hL,by omega⟩,if_pos q,this]
            · rw[if_neg (fun z=>q (by have:=z.2;omega)),if_neg q,this]
    · rfl
theorem onL_low(u:Int): ∀(S:List Shp) (nx:Int) (L:List Int) (k:Int),(∀s∈S,faultS s=0)->(∀a∈L,0<=a)->k<u->onL S (atP u nx S L) k= []
  | [],_,_,_,_,_,_=>by simp[atP,onL]
  | s :: S, nx, L, k, h, hl, hk => by
    have hg:=h s (List.mem_cons_self ..);obtain⟨p1,p2,p3,p4,p5⟩:=coresS_pos hg;cases hh:heavyS s with
    | true =>
      have hn: ¬LightS s:=fun q=>by have:=q.2;have:=p5 hh;omega
      simp only[atP,hh,if_true,onL];rw[if_neg (fun q=>hn q.1)]
      exact onL_low u S _ _ _ (fun x hx=>h x (List.mem_cons_of_mem _ hx)) hl hk
    | false =>
      simp only[atP,hh,if_false,Bool.false_eq_true,onL,List.mem_singleton];have h0:0<=L.headD 0:=by
        cases L with
        |nil=>simp
        |cons a L=>simpa using hl a (by simp)
      rw[if_neg (fun q=>by have:=q.2;omega)]
      exact onL_low u S _ _ _ (fun x hx=>h x (List.mem_cons_of_mem _ hx)) (fun a ha=>hl a (List.mem_of_mem_tail ha)) hk
theorem AdmOk.right(h:AdmOk Ts m S C L):RightQ S C m:=by
 obtain⟨l1,l2⟩:=h.plc.len;have hu:=usedP_pos h.good;refine⟨⟨h.may.2.1,h.may.2.2⟩,?_,?_,fun i s c hs hc=>h.suit hs hc,fun k k0 km=> ?_⟩
 ·rw[h.eq,shpsT_len];exact h.may.1
 ·rw[h.at_,atP_len]
 ·obtain ⟨c1,c2,c3⟩:=cntH_atP (usedP S) S 0 L k h.good
  rw[h.at_]
  by_cases hk:usedP S<=k
  ·have c0:=c3 (by omega)
   refine⟨c1,fun q=>by omega,?_⟩
   rw[onL_atP _ S 0 L k h.good l1,if_pos hk];obtain⟨_,_,_,_,hR⟩:=h.plc.zero rfl;exact hR.fit (k - usedP S) (by omega) (by omega)
  ·have e:=onL_low (usedP S) S 0 L k h.good (fun a ha => (l2 a ha).1) (by omega)
   exact⟨c1,fun _=>e,by rw[e];exact fit_nil⟩
theorem AdmOk.len(h:AdmOk Ts m S C L):S.length=Ts.length/\C.length=Ts.length/\Ts.length<=8:=by
 refine⟨by rw[h.eq,shpsT_len],?_,h.may.1⟩
 rw[h.at_,atP_len,h.eq,shpsT_len]
theorem AdmOk.behind(h:AdmOk Ts m S C L){k:Int}(hk:onL S C k≠ []):usedP S<=k:=by
 obtain⟨l1,l2⟩:=h.plc.len
 by_cases q:usedP S<=k
 ·exact q
 ·rw [h.at_] at hk
  exact absurd (onL_low (usedP S) S 0 L k h.good (fun a ha=>(l2 a ha).1) (by omega)) hk
theorem AdmOk.more(h:AdmOk Ts m S C L)(h8:m<8):AdmOk Ts (m+1) S C L:=by
 refine⟨⟨h.may.1,by have:=h.may.2.1;omega,by omega⟩,h.low,h.eq,h.good,by have:=h.used;omega,?_,h.at_⟩
 have hu:=usedP_pos h.good;have:=h.plc.more (by omega)
 rw[show m+1 - usedP S=m - usedP S+1 by omega]
 exact this
theorem AdmA.more{e:Int}{S':List Shp}{C':List (List Int)}{e':Int}(h:AdmA Ts m S C e)(h':AdmA Ts (m+1) S' C' e')(h1:1<=m)(h8:m<8)(one: ∀{S1 S2:List Shp} {C1 C2:List (List Int)} {e1 e2:Int},AdmA Ts (m+1) S1 C1 e1->AdmA Ts (m+1) S2 C2 e2->S1=S2/\C1=C2/\e1=e2):
  (e=0->e'=0/\S=S'/\C=C')/\(e≠0->e=171\/e=e'):=by
 constructor
 ·intro h0
  obtain⟨L,hL⟩:=h.zero h0;obtain⟨a,b,c⟩:=one (hL.more h8).is h';exact⟨c.symm,a,b⟩
 ·intro h0
  rcases h with⟨q,_,_,_⟩|⟨q,q2,_,_,q3⟩|⟨q,q2,q3,_,_,q4⟩|⟨q,q2,q3,q4,_⟩
  ·right
   refine(one (.inl ⟨fun z=>q ⟨z.1,h1,by omega⟩,rfl,rfl,rfl⟩) h').2.2.symm▸ ?_
   assumption
  ·right
   have:=(one (.inr (.inl ⟨⟨q.1,by omega,by omega⟩,q2,rfl,rfl,rfl⟩)) h').2.2
   rw[q3,this]
  ·right
   have:=(one (.inr (.inr (.inl ⟨⟨q.1,by omega,by omega⟩,q2,q3,rfl,rfl,rfl⟩))) h').2.2
   rw[q4,this]
  ·left
   rcases q4.ways with h|h
   ·exact absurd h h0
   ·exact h.1
end
theorem PlcA.one_{es:List Shp}{m:Int}{L L':List Int}{e e':Int}(h:PlcA es m L e)(h':PlcA es m L' e'):L=L'/\e=e':=by
 rcases h with⟨q,rfl,rfl⟩|⟨q1,q2,q3,R,hR,rfl,rfl⟩<;>rcases h' with⟨p,rfl,rfl⟩|⟨p1,p2,p3,R',hR',rfl,rfl⟩
 ·exact⟨rfl,rfl⟩
 ·exact absurd ⟨p1,p2,p3⟩ q
 ·exact absurd ⟨q1,q2,q3⟩ p
 ·obtain rfl:=hR.same hR'
  exact⟨rfl,rfl⟩
theorem HandA.one_{S:List Shp}{m:Int}{C C':List (List Int)}{e e':Int}(h:HandA S m C e)(h':HandA S m C' e'):C=C'/\e=e':=by
 rcases h with⟨q,rfl,rfl⟩|⟨q,L,er,hP,hq⟩<;>rcases h' with⟨p,rfl,rfl⟩|⟨p,L',er',hP',hp⟩
 ·exact⟨rfl,rfl⟩
 ·omega
 ·omega
 ·obtain ⟨rfl,rfl⟩:=hP.one_ hP'
  rcases hq with⟨a,rfl,rfl⟩|⟨a,rfl,rfl⟩<;>rcases hp with⟨b,rfl,rfl⟩|⟨b,rfl,rfl⟩
  ·exact⟨rfl,rfl⟩
  ·exact absurd a b
  ·exact absurd b a
  ·exact⟨rfl,rfl⟩
theorem AdmA.one_{Ts:List Task}{m:Int}{S1 S2:List Shp}{C1 C2:List (List Int)}{e1 e2:Int}(h:AdmA Ts m S1 C1 e1)(h':AdmA Ts m S2 C2 e2):S1=S2/\C1=C2/\e1=e2:=by
 rcases h with⟨q,rfl,rfl,rfl⟩|⟨q,q2,rfl,rfl,rfl⟩|⟨q,q2,q3,rfl,rfl,rfl⟩|⟨q,q2,q3,q4,rfl⟩<;>
  rcases h' with⟨p,rfl,rfl,rfl⟩|⟨p,p2,rfl,rfl,rfl⟩|⟨p,p2,p3,rfl,rfl,rfl⟩|⟨p,p2,p3,p4,rfl⟩
 all_goals first|exact⟨rfl,rfl,rfl⟩|exact absurd p q|exact absurd q p|exact absurd p2 q2|exact absurd q2 p2|exact absurd p3 q3|exact absurd q3 p3|skip
 obtain⟨rfl,rfl⟩:=q4.one_ p4;exact⟨rfl,rfl,rfl⟩
theorem AdmA.enough{Ts:List Task}{m:Int}{S:List Shp}{C:List (List Int)}{e:Int}(h:AdmA Ts m S C e)(h8:Ts.length<=8)(h1:1<=m/\m<=8):
  ((fstX (Ts.map lowX)≠0\/fstX ((shpsT Ts).map faultS)≠0)->e≠0)/\(fstX (Ts.map lowX)=0->fstX ((shpsT Ts).map faultS)=0->e=0\/e=171/\m<usedP (shpsT Ts)+(lightP (shpsT Ts)).length):=by
 rcases h with⟨q,_,_,_⟩|⟨q,q2,_,_,q4⟩|⟨q,q2,q3,_,_,q4⟩|⟨q,q2,q3,q4,_⟩
 ·exact absurd ⟨h8,h1.1,h1.2⟩ q
 ·exact⟨fun _=>by rw[q4];exact q2,fun p=>absurd p q2⟩
 ·exact⟨fun _=>by rw[q4];exact q3,fun _ p=>absurd p q3⟩
 ·refine ⟨fun p => by rcases p with p | p <;> contradiction,fun _ _ => ?_⟩
  have hg:=shapes_good q3;have hM:MayE (lightP (shpsT Ts)):=lightP_may (by rw[shpsT_len];exact h8) hg
  have hu:=usedP_pos hg;rcases q4 with⟨a,_,b⟩|⟨a,L,er,hP,⟨_,_,b⟩|⟨b,_,c⟩⟩
  ·exact .inr ⟨b,by omega⟩
  ·exact .inl b
  ·right
   refine⟨c,?_⟩
   have h2:=(hP.enough hM (by omega) (by omega)).2
   by_cases z:((lightP (shpsT Ts)).length:Int)<=m - usedP (shpsT Ts)
   ·exact absurd (h2 z) b
   ·omega
def Tks(w:World)(A:Option Addr)(l:List (Sh×Task)):Prop:=
 0<l.length-> ∃b off,A=some ⟨b,off,none⟩/\b<w.heap.size/\ ∀k x,l[k]? =some x->
  (w.cell? ⟨b,off + k * 6,none⟩ = some (.int .i64 x.2.period) /\ w.cell? ⟨b,off + k * 6 + 1,none⟩ = some (.int .i64 x.2.deadline)) /\ w.cell? ⟨b,off + k * 6 + 2,none⟩ = some (.slice x.1.P x.1.np x.1.pc) /\
   w.cell? ⟨b,off+k * 6+3,none⟩=some (.slice x.1.E x.1.ne x.1.ec)/\w.cell? ⟨b,off+k * 6+4,none⟩=some (.slice x.1.F x.1.nf x.1.fc)/\w.cell? ⟨b,off+k * 6+5,none⟩=some (.slice x.1.R x.1.nr x.1.rc)
theorem Tks.at_{w:World}{A:Option Addr}{l:List (Sh×Task)}{k:Nat}(h:Tks w A l)(hk:k<l.length):
  ∃b off P np pc E ne ec F nf fc R nr rc T,A=some ⟨b,off,none⟩/\b<w.heap.size/\l[k]? =some (⟨P,np,pc,E,ne,ec,F,nf,fc,R,nr,rc⟩,T)/\w.cell? ⟨b,off+k * 6,none⟩=some (.int .i64 T.period)/\w.cell? ⟨b,off+k * 6+1,none⟩=some (.int .i64 T.deadline)/\w.cell? ⟨b,off+k * 6+2,none⟩=some (.slice P np pc)/\
   w.cell? ⟨b,off+k * 6+3,none⟩=some (.slice E ne ec)/\w.cell? ⟨b,off+k * 6+4,none⟩=some (.slice F nf fc)/\w.cell? ⟨b,off+k * 6+5,none⟩=some (.slice R nr rc):=by
 obtain⟨b,off,e,hb,hc⟩:=h (by omega)
 have he:l[k]? =some l[k]:=List.getElem?_eq_getElem hk
 obtain⟨⟨c0,c1⟩,c2,c3,c4,c5⟩:=hc k _ he;obtain⟨x,hx⟩: ∃x,x=l[k]:=⟨_,rfl⟩;rw[<-hx]at he c0 c1 c2 c3 c4 c5;clear hx;obtain⟨⟨P,np,pc,E,ne,ec,F,nf,fc,R,nr,rc⟩,T⟩:=x;exact⟨b,off,P,np,pc,E,ne,ec,F,nf,fc,R,nr,rc,T,e,hb,he,c0,c1,c2,c3,c4,c5⟩
theorem Tks.via{w w':World}{A:Option Addr}{l:List (Sh×Task)}(h:Tks w A l)(hb:Below w.heap.size w w'):Tks w' A l:=fun hn=>by
 obtain⟨b,off,e,hlt,hc⟩:=h hn;refine⟨b,off,e,Nat.lt_of_lt_of_le hlt hb.size,fun k x hx=> ?_⟩
 obtain⟨⟨c0,c1⟩,c2,c3,c4,c5⟩:=hc k x hx;exact⟨⟨(hb.cell (p:=⟨_,_,_⟩) hlt).trans c0,(hb.cell (p:=⟨_,_,_⟩) hlt).trans c1⟩,(hb.cell (p:=⟨_,_,_⟩) hlt).trans c2,(hb.cell (p:=⟨_,_,_⟩) hlt).trans c3,(hb.cell (p:=⟨_,_,_⟩) hlt).trans c4,(hb.cell (p:=⟨_,_,_⟩) hlt).trans c5⟩
structure IsTs(w:World)(A:Option Addr)(l:List (Sh×Task)):Prop where
 tks:Tks w A l
 each: ∀x∈l,IsD w x.1 x.2
theorem IsTs.via{w w':World}{A:Option Addr}{l:List (Sh×Task)}(h:IsTs w A l)(hb:Below w.heap.size w w'):IsTs w' A l:=⟨h.tks.via hb,fun x hx=>(h.each x hx).below hb⟩
def Lol(w:World)(B:Nat)(A:Option Addr)(t:List (List Int)):Prop:=
 0<t.length-> ∃b off,A=some ⟨b,off,none⟩/\b<B/\ ∀k r,t[k]? =some r-> ∃A1 c1,w.cell? ⟨b,off+k,none⟩=some (.slice A1 r.length c1)/\Ints w B A1 r/\(A1=none->r.length=0/\c1=0)
theorem Lol.at_{w:World}{B:Nat}{A:Option Addr}{t:List (List Int)}{k:Nat}(h:Lol w B A t)(hk:k<t.length):
  ∃b off r A1 n1 c1,A=some ⟨b,off,none⟩/\b<B/\t[k]? =some r/\r.length=n1/\w.cell? ⟨b,off+k,none⟩=some (.slice A1 n1 c1)/\Ints w B A1 r/\(A1=none->n1=0/\c1=0):=by
 obtain⟨b,off,e,hb,hc⟩:=h (by omega)
 have he:t[k]? =some t[k]:=List.getElem?_eq_getElem hk
 obtain⟨A1,c1,h1,h2,h3⟩:=hc k _ he;exact⟨b,off,t[k],A1,_,c1,e,hb,he,rfl,h1,h2,h3⟩
theorem Lol.keep{w w':World}{B:Nat}{A:Option Addr}{t:List (List Int)}(h:Lol w B A t)(hk: ∀p:Addr,p.block<B->w'.cell? p=w.cell? p):Lol w' B A t:=fun hn=>by
 obtain⟨b,off,e,hb,hc⟩:=h hn;refine⟨b,off,e,hb,fun k x hx=> ?_⟩
 obtain⟨A1,c1,h1,h2,h3⟩:=hc k x hx;exact⟨A1,c1,(hk _ hb).trans h1,h2.keep hk,h3⟩
theorem Lol.more{w:World}{B B':Nat}{A:Option Addr}{t:List (List Int)}(h:Lol w B A t)(hB:B<=B'):Lol w B' A t:=fun hn=>by
 obtain⟨b,off,e,hb,hc⟩:=h hn;refine⟨b,off,e,by omega,fun k x hx=> ?_⟩
 obtain⟨A1,c1,h1,h2,h3⟩:=hc k x hx;exact⟨A1,c1,h1,h2.more hB,h3⟩
theorem Lol.below{w w':World}{B:Nat}{A:Option Addr}{t:List (List Int)}(h:Lol w B A t)(hb:Below B w w'):Lol w' B A t:=h.keep fun _ hp=>hb.cell hp
theorem Lol.via{w w':World}{A:Option Addr}{t:List (List Int)}(h:Lol w w.heap.size A t)(hb:Below w.heap.size w w'):Lol w' w'.heap.size A t:=(h.below hb).more hb.size
theorem Lol.nil_(w:World)(B:Nat)(A:Option Addr):Lol w B A []:=fun h=>absurd h (by simp)
structure IsPl(w:World)(A:Option Addr)(n c:Nat)(G:Option Addr)(m d:Nat)(S:List Shp)(C:List (List Int)):Prop where
 l1:S.length=n
 l2:C.length=m
 shp:Shps w w.heap.size A S
 lol:Lol w w.heap.size G C
 z1:A=none->n=0/\c=0
 z2:G=none->m=0/\d=0
theorem IsPl.via{w w':World}{A:Option Addr}{n c:Nat}{G:Option Addr}{m d:Nat}{S:List Shp}{C:List (List Int)}(h:IsPl w A n c G m d S C)(hb:Below w.heap.size w w'):IsPl w' A n c G m d S C:=
 ⟨h.l1,h.l2,h.shp.via hb,h.lol.via hb,h.z1,h.z2⟩
structure FewP(S:List Shp)(C:List (List Int)):Prop where
 f1:S.length<=20
 f2:C.length<=20
 f3: ∀r∈C,r.length<=12
theorem IsPl.nil(w:World):IsPl w none 0 0 none 0 0 [] []:=⟨rfl,rfl,Shps.nil _ _ _,Lol.nil_ _ _ _,fun _=>⟨rfl,rfl⟩,fun _=>⟨rfl,rfl⟩⟩
def pairT(l:List (Sh×Task)):List Task:=l.map Prod.snd
theorem pairT_len(l:List (Sh×Task)):(pairT l).length=l.length:=by simp[pairT]
theorem pairT_at{l:List (Sh×Task)}{k:Nat}{x:Sh×Task}(h:l[k]? =some x):(pairT l)[k]? =some x.2:=by simp[pairT,h]
end Go.Proofs.YtlfekmbalgkmeaaGreatDoor
namespace Go.Proofs.YtlfekmbalgkmeaaGreatDoor
open Go Go.RowKit Go.Conc
section
variable {P: Program} {Q Q1: Goroutine -> World -> Prop}
theorem lone_then{g:Goroutine}{w:World}(h:LoneTo P Q1 g w)(hn: ∀g' w',Q1 g' w'->LoneTo P Q g' w'):LoneTo P Q g w:=by
 obtain⟨g1,w1,hs,hq⟩:=h;obtain⟨g2,w2,hs2,hq2⟩:=hn _ _ hq;exact⟨g2,w2,Steps.trans hs hs2,hq2⟩
theorem lone_code{c:Code}{R:Act->World->Prop}{a:Act}{w:World}{b:Frame}{k:List Item}{cs:List Frame}
  (h:c.wp P (fun e a' w'=>e= .normal/\R a' w') a w) (hn: ∀a' w',R a' w'->LoneTo P Q (G (b.at a' k) cs) w'):LoneTo P Q (G (b.at a (.code c::k)) cs) w:=by
 obtain⟨e,a',w',⟨rfl,hR⟩,harr⟩:=h b k cs;obtain⟨g2,w2,hs2,hq2⟩:=hn _ _ hR;exact⟨g2,w2,Steps.trans harr hs2,hq2⟩
theorem lone_loop{body:Code}{b:Frame}{k:List Item}{cs:List Frame}(I:Nat->Act->World->Prop)
    (h: ∀n a w,I n a w->LoneTo P (fun g' w'=>(∃m a',m<n/\g'=G (b.at a' (.inLoop body::k)) cs/\I m a' w')\/LoneTo P Q g' w') (G (b.at a (.code body:: .inLoop body::k)) cs) w)
    {n:Nat} {a:Act} {w:World} (h0:I n a w):LoneTo P Q (G (b.at a (.code (.loop body)::k)) cs) w:=by
  have key: ∀n a w,I n a w->LoneTo P Q (G (b.at a (.code body:: .inLoop body::k)) cs) w:=by
    intro n
    induction n using Nat.strongRecOn with
    | ind n ih =>
      intro a w hI;refine lone_then (h n a w hI) ?_
      rintro g' w' (⟨m,a',hm,rfl,hI'⟩|hq)
      · refine LoneTo.step (g':=G (b.at a' (.code body:: .inLoop body::k)) cs) (w':=w') ?_ (ih m hm a' w' hI')
        exact step_solo_go rfl (stepG_inLoop (P:=P) (main:=true))
      · exact hq
  refine LoneTo.step (g':=G (b.at a (.code body:: .inLoop body::k)) cs) (w':=w) ?_ (key n a w h0)
  exact step_solo_go rfl (stepG_loop (P:=P) (main:=true))
end
def ChanI(w:World)(c cap:Nat)(zs:List Int)(closed:Bool):Prop:=∃ s r,w.heap[c]? =some (.chan cap (zs.map (Value.int .i64)).toArray closed s r false)
theorem ChanI.lt{w:World}{c cap:Nat}{zs:List Int}{closed:Bool}(h:ChanI w c cap zs closed):c<w.heap.size:=by
 obtain⟨s,r,h⟩:=h;exact(Array.getElem?_eq_some_iff.1 h).1
theorem ChanI.below{w w':World}{c cap B:Nat}{zs:List Int}{closed:Bool}(h:ChanI w c cap zs closed)(hb:Below B w w')(hc:c<B):ChanI w' c cap zs closed:=by
 obtain⟨s,r,h⟩:=h;exact⟨s,r,by rw[hb.block c hc];exact h⟩
theorem chan_set(w:World){c cap:Nat}(hc:c<w.heap.size)(zs:List Int)(closed:Bool)(s r:Nat):ChanI (w.setChan c cap (zs.map (Value.int .i64)).toArray closed s r false) c cap zs closed:=
 ⟨s,r,heap_setChan w c cap _ closed s r false hc⟩
structure Turn1(c:Nat)(w w':World):Prop where
 os:w'.os=w.os
 tape:w'.tape=w.tape
 output:w'.output=w.output
 size:w.heap.size<=w'.heap.size
 block: ∀k,k<w.heap.size->k≠c->w'.heap[k]? =w.heap[k]?
theorem Turn1.refl(c:Nat)(w:World):Turn1 c w w:=⟨rfl,rfl,rfl,Nat.le_refl _,fun _ _ _=>rfl⟩
theorem Turn1.trans{c:Nat}{a b d:World}(h:Turn1 c a b)(k:Turn1 c b d):Turn1 c a d:=
 ⟨k.os.trans h.os,k.tape.trans h.tape,k.output.trans h.output,Nat.le_trans h.size k.size,fun i hi hc=>(k.block i (Nat.lt_of_lt_of_le hi h.size) hc).trans (h.block i hi hc)⟩
theorem Turn1.of{c:Nat}{w w':World}(h:Below w.heap.size w w'):Turn1 c w w':=⟨h.os,h.tape,h.output,h.size,fun k hk _=>h.block k hk⟩
theorem Turn1.more{c:Nat}{w w1 w2:World}(h:Turn1 c w w1)(k:Below w.heap.size w1 w2):Turn1 c w w2:=
 ⟨k.os.trans h.os,k.tape.trans h.tape,k.output.trans h.output,Nat.le_trans h.size k.size,fun i hi hc=>(k.block i hi).trans (h.block i hi hc)⟩
theorem Turn1.below{c B:Nat}{w w':World}(h:Turn1 c w w')(hB:B<=w.heap.size)(hc:B<=c):Below B w w':=⟨h.os,h.tape,h.output,h.size,fun k hk=>h.block k (by omega) (by omega)⟩
theorem Turn1.setChan{c cap:Nat}{buf:Array Value}{cl:Bool}{s r:Nat}{tm:Bool}{w w':World}(h:Turn1 c w w'):Turn1 c w (w'.setChan c cap buf cl s r tm):=
 ⟨h.os,h.tape,h.output,by rw[size_setChan];exact h.size,fun k hk hc=>by
  have:=h.block k hk hc;rw[<-this];simp only[World.setChan];rw[Array.getElem?_setIfInBounds_ne (by omega)]⟩
theorem OwnI.chan{w:World}{base c cap:Nat}{v:Value}{zs:List Int}{buf:Array Value}{cl:Bool}{s r:Nat}{tm:Bool}(h:OwnI w base v zs)(hc:c<base):OwnI (w.setChan c cap buf cl s r tm) base v zs:=by
 refine⟨h.1,?_⟩
 rcases h.2 with hn|⟨g,cap',cur,rfl,hg,hgg,rest⟩
 ·exact .inl hn
 ·refine .inr ⟨g,cap',cur,rfl,hg,?_,rest⟩
  simp only[World.setChan];rw[Array.getElem?_setIfInBounds_ne (by omega)]
  exact hgg
end Go.Proofs.YtlfekmbalgkmeaaGreatDoor
namespace Go.Proofs.YtlfekmbalgkmeaaGreatDoor
open Go Go.RowKit
theorem amay_any(m:Int)(w:World):Calls Tryz.prog 33 #[.int .i64 m] w fun e w'=>e= .returned (.bool (decide (1<=m/\m<=8)))/\w=w':=by
 by_cases h0:1<=m
 ·by_cases h8: m <= 8
  ·rw [decide_eq_true ⟨h0,h8⟩]
   go_enter Tryz.func33,Tryz.ntmps33;go_wp2;go_ret;exact⟨rfl,rfl⟩
  ·rw [decide_eq_false (fun q => h8 q.2)]
   go_enter Tryz.func33,Tryz.ntmps33;go_wp2;go_ret;exact⟨rfl,rfl⟩
 ·rw [decide_eq_false (fun q => h0 q.1)]
  go_enter Tryz.func33,Tryz.ntmps33;go_wp2;go_ret;exact⟨rfl,rfl⟩
def RowS(g:Nat)(es:List Shp)(w:World):Prop:=RowV g 44 (flatS es) w
theorem flatS_set: ∀(es:List Shp) (k:Nat) (s:Shp),k<es.length->(((((flatS es).set (k * 5) (.int .i64 s.t)).set (k * 5+1) (.int .i64 s.l)).set (k * 5+2) (.int .i64 s.m)).set (k * 5+3) (.int .i64 s.d)).set (k * 5+4) (.int .i64 s.p)=flatS (es.set k s)
  | [],k,s,h=>by simp at h
  |e::es,0,s,_=>rfl
  | e :: es, k + 1, s, h => by
    have ih:=flatS_set es k s (by simpa using h)
    rw[List.set_cons_succ,flatS_cons e (es.set k s),<-ih,flatS_cons];have hp: ∀(P L:List Value) (i:Nat) (v:Value),P.length=5->(P++L).set (i+5) v=P++L.set i v:=fun P L i v hP=>by
      rw[List.set_append_right _ _ (by omega)]
      congr 2
      omega
    have hc:(shpC e).length=5:=rfl;rw[show(k+1) * 5=k * 5+5 by omega,show k * 5+5+1=k * 5+1+5 by omega,show k * 5+5+2=k * 5+2+5 by omega,show k * 5+5+3=k * 5+3+5 by omega,show k * 5+5+4=k * 5+4+5 by omega]
    rw[hp _ _ _ _ hc,hp _ _ _ _ hc,hp _ _ _ _ hc,hp _ _ _ _ hc,hp _ _ _ _ hc]
theorem RowS.set{g:Nat}{es:List Shp}{w:World}(h:RowS g es w){k:Nat}(hk:k<es.length)(s:Shp):
  RowS g (es.set k s) (((((w.setCell ⟨g,k * 5,none⟩ (.int .i64 s.t)).setCell ⟨g,k * 5+1,none⟩ (.int .i64 s.l)).setCell ⟨g,k * 5+2,none⟩ (.int .i64 s.m)).setCell ⟨g,k * 5+3,none⟩ (.int .i64 s.d)).setCell ⟨g,k * 5+4,none⟩ (.int .i64 s.p)):=by
 have h1:=((((RowV.set h (k * 5) (.int .i64 s.t)).set (k * 5+1) (.int .i64 s.l)).set (k * 5+2) (.int .i64 s.m)).set (k * 5+3) (.int .i64 s.d)).set (k * 5+4) (.int .i64 s.p);rw[flatS_set es k s hk]at h1;exact h1
theorem RowS.cells{g:Nat}{es:List Shp}{w:World}(h:RowS g es w){k:Nat}(hk:k<es.length): ∃t l m d p,es[k]? =some ⟨t,l,m,d,p⟩/\w.cell? ⟨g,k * 5,none⟩=some (.int .i64 t)/\w.cell? ⟨g,k * 5+1,none⟩=some (.int .i64 l)/\w.cell? ⟨g,k * 5+2,none⟩=some (.int .i64 m)/\w.cell? ⟨g,k * 5+3,none⟩=some (.int .i64 d)/\w.cell? ⟨g,k * 5+4,none⟩=some (.int .i64 p):=by
 have he:es[k]? =some es[k]:=List.getElem?_eq_getElem hk
 have q:=flatS_at he;exact⟨es[k].t,es[k].l,es[k].m,es[k].d,es[k].p,he,RowV.cell h (by have:=q 0 (by omega);simpa[shpC]using this),RowV.cell h (by have:=q 1 (by omega);simpa[shpC]using this),RowV.cell h (by have:=q 2 (by omega);simpa[shpC]using this),RowV.cell h (by have:=q 3 (by omega);simpa[shpC]using this),RowV.cell h (by have:=q 4 (by omega);simpa[shpC]using this)⟩
theorem RowS.shps{g:Nat}{es:List Shp}{w:World}(h:RowS g es w):Shps w w.heap.size (some ⟨g,0,none⟩) es:=fun hn=>by
 refine⟨g,0,rfl,RowV.lt h,fun k e he=> ?_⟩
 have q:=flatS_at he;rw[Nat.zero_add];exact⟨⟨RowV.cell h (by have:=q 0 (by omega);simpa[shpC]using this),RowV.cell h (by have:=q 1 (by omega);simpa[shpC]using this)⟩,RowV.cell h (by have:=q 2 (by omega);simpa[shpC]using this),RowV.cell h (by have:=q 3 (by omega);simpa[shpC]using this),RowV.cell h (by have:=q 4 (by omega);simpa[shpC]using this)⟩
def zS:Shp:=⟨0,0,0,0,0⟩
theorem made_shapes: ∀n:Nat,n<=8->madeCells (Value.agg #[.int .i64 0,.int .i64 0,.int .i64 0,.int .i64 0,.int .i64 0]).cells (n * 5)=(flatS (List.replicate n zS)).toArray
 |0,_=>by kernel_rfl
 |1,_=>by kernel_rfl
 |2,_=>by kernel_rfl
 |3,_=>by kernel_rfl
 |4,_=>by kernel_rfl
 |5,_=>by kernel_rfl
 |6,_=>by kernel_rfl
 |7,_=>by kernel_rfl
 |8,_=>by kernel_rfl
 |n+9,h=>absurd h (by omega)
theorem make_shapes(n:Nat)(hn:n<=8)(W:World):(Instr.makeSlice 25 (.int .i64 n) (.int .i64 n)).run Tryz.prog W= .ok (.slice (some ⟨W.heap.size,0,none⟩) n n) (W.alloc (.cells (flatS (List.replicate n zS)).toArray 44)):=by
 obtain⟨j0,hj0,hy0,hy1,hy2⟩:=shape_info;have h:=run_make (P:=Tryz.prog) W 25 44 j0 (.agg #[.int .i64 0,.int .i64 0,.int .i64 0,.int .i64 0,.int .i64 0]) Tryz.underlying25 hj0 hy0 .i64 .i64 n n (by omega) (by omega) (by rw[hy2];omega) (by omega)
 rw[hy1]at h;have e:=made_shapes n hn;rw[Int.toNat_natCast]at h;rw[e]at h;exact h
theorem ccores_any(s:Shp)(w:World)(hT:DTab w):Calls Tryz.prog 31 #[s.val] w
  fun e w'=>e= .returned (.tuple #[.int .i64 (coresS s),.int .i64 (faultS s)])/\Below w.heap.size w w':=by
 have TT:=Lib.hid (fun W (b:Below w.heap.size w W)=>(clcheck_any s W (hT.via b)))
 clear hT;have B:=Lib.hid (Rwk.start w [(44,[.int .i64 s.t,.int .i64 s.l,.int .i64 s.m,.int .i64 s.d,.int .i64 s.p])])
 by_cases hs:s.Ok
 ·rw [chkS_ok hs] at TT
  by_cases hd:s.d<s.t
  ·have e1: coresS s = coresH s:=by unfold coresS; rw [if_neg (fun q => q hs),if_pos hd]
   have e2:faultS s=faultH s:=by unfold faultS;rw[if_neg (fun q=>q hs),if_pos hd]
   have K1:=Lib.hid (fun W=>task_heavy s W hd)
   have K2:=Lib.hid (fun W=>heavy_any s W hs hd)
   rw[e1,e2];obtain⟨x,hx⟩: ∃x,x=coresH s:=⟨_,rfl⟩;obtain⟨y,hy⟩: ∃x,x=faultH s:=⟨_,rfl⟩;rw[<-hx,<-hy]at K2⊢;clear e1 e2 hx hy hs hd;obtain⟨t,l,m,d,p⟩:=s;unfold Shp.val at TT K1 K2⊢;unfold toldV at K2;dsimp only at TT K1 K2 B⊢;go_enter Tryz.func31,Tryz.ntmps31;go_wp2_with fail;refine(TT.out _ B.out.bel).mono ?_
   rintro e w1 ⟨rfl,b⟩;have B:=Lib.hid (B.out.next b);clear b TT;obtain⟨⟨c0,c1⟩,c2,c3,c4⟩:=shp_cells (s:=⟨t,l,m,d,p⟩) B.out;dsimp only at c0 c1 c2 c3 c4;go_wp2_with fail;refine(K1.out _).mono ?_
   rintro e w2 ⟨rfl,b⟩;have B:=Lib.hid (B.out.next b);clear b c0 c1 c2 c3 c4 K1;go_wp2_with fail;refine(K2.out _).mono ?_
   rintro e w3 ⟨rfl,b⟩;have B:=Lib.hid (B.out.next b);clear b K2;go_wp2_with fail
   go_quiet (fail)
   go_wp2;go_ret2
   exact⟨rfl,((B.out.alloc _).drew _).bel⟩
  ·have e1: coresS s = 1:=by unfold coresS; rw [if_neg (fun q => q hs),if_neg hd]
   have e2:faultS s=0:=by unfold faultS;rw[if_neg (fun q=>q hs),if_neg hd]
   have K1:=Lib.hid (fun W=>task_light s W (by omega))
   have K2:=Lib.hid (fun W=>light_any s W)
   rw[e1,e2];clear e1 e2 hs hd;obtain⟨t,l,m,d,p⟩:=s;unfold Shp.val at TT K1 K2⊢;unfold toldV at K2;dsimp only at TT K1 K2 B⊢;go_enter Tryz.func31,Tryz.ntmps31;go_wp2_with fail;refine(TT.out _ B.out.bel).mono ?_
   rintro e w1 ⟨rfl,b⟩;have B:=Lib.hid (B.out.next b);clear b TT;obtain⟨⟨c0,c1⟩,c2,c3,c4⟩:=shp_cells (s:=⟨t,l,m,d,p⟩) B.out;dsimp only at c0 c1 c2 c3 c4;go_wp2_with fail;refine(K1.out _).mono ?_
   rintro e w2 ⟨rfl,b⟩;have B:=Lib.hid (B.out.next b);clear b c0 c1 c2 c3 c4 K1;go_wp2_with fail;refine(K2.out _).mono ?_
   rintro e w3 ⟨rfl,b⟩;have B:=Lib.hid (B.out.next b);clear b K2;go_wp2_with fail
   go_quiet (fail)
   go_wp2;go_ret2
   exact⟨rfl,((B.out.alloc _).drew _).bel⟩
 ·have e1: coresS s = 0:=if_pos hs
  have e2:faultS s=140:=if_pos hs;rw[chkS_no hs]at TT;rw[e1,e2];clear e1 e2 hs;obtain⟨t,l,m,d,p⟩:=s;unfold Shp.val at TT⊢;dsimp only at TT B⊢;go_enter Tryz.func31,Tryz.ntmps31;go_wp2_with fail;refine(TT.out _ B.out.bel).mono ?_
  rintro e w1 ⟨rfl,b⟩;have B:=Lib.hid (B.out.next b);clear b;go_wp2;go_ret2;exact⟨rfl,B.out.bel⟩
end Go.Proofs.YtlfekmbalgkmeaaGreatDoor
