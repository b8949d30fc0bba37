import Derived.Test.YtlfekmbalgkmeaaGreatDoorZM38
set_option linter.unusedSimpArgs false
set_option linter.unnecessarySimpa false
set_option linter.unusedVariables false
set_option maxRecDepth 100000
set_option maxHeartbeats 8000000
namespace Go.Proofs.YtlfekmbalgkmeaaGreatDoor
open Go Go.RowKit
def FewTs(l:List (Sh×Task)):Prop:=l.length<=12/\ ∀x∈l,FewD x.2
theorem fewts_any{A:Option Addr}{n c:Nat}{l:List (Sh×Task)}(wf:World)(hn:l.length=n)(h:InTs wf A l)(r:Bool)(hr:r=true↔FewTs l):
    Calls Tryz.prog 10 #[.slice A n c] wf fun e w'=>e= .returned (.bool r)/\Below wf.heap.size wf w':=by
  have HTs:=Lib.hid (fun W (b:Below wf.heap.size wf W)=>h.via b)
  have HN:=Lib.hid hn;have HR:=Lib.hid hr;clear hn h hr;go_enter Tryz.func10,Tryz.ntmps10;go_wp2;go_loopw [3] (fun i wr=> ∃j:Nat,j<=n/\j<=13/\i= .int .i64 j/\Hid (∀x∈l.take j,FewD x.2)/\Hid (Below wf.heap.size wf wr)) (fun i _=>13 - (intOf i).toNat)
  case atStart=>exact⟨0,Nat.zero_le _,by omega,rfl,Lib.hid (fun x hx=>by simp at hx),Lib.hid (Below.refl _ _)⟩
  case round=>
    obtain⟨j,hj,hj13,rfl,HF,HB⟩:=hrel
    by_cases hlt:j<n
    · have d1:decide ((j:Int)<(n:Int))=true:=decide_eq_true (by omega)
      have d2:decide (j<n)=true:=decide_eq_true hlt
      by_cases h13:j<13
      · have d3:decide ((j:Int)<13)=true:=decide_eq_true (by omega)
        have d4:decide (j<13)=true:=decide_eq_true h13;have hts:=HTs.out wr HB.out;obtain⟨b,off,P,np,pc,E,ne,ec,Fu,nf,fc,R,nr,rc,T,rfl,hbg,hek,c0,c1,c2,c3,c4,c5⟩:=hts.1.at_ (k:=j) (by rw[HN.out];exact hlt)
        obtain⟨rf,hrf⟩: ∃rf:Bool,rf=true↔FewD T:=by
          by_cases z:FewD T
          · exact⟨true,fun _=>z,fun _=>rfl⟩
          · exact⟨false,fun q=>Bool.noConfusion q,fun q=>absurd q z⟩
        have KF:=Lib.hid (dfew_any ⟨P,np,pc,E,ne,ec,Fu,nf,fc,R,nr,rc⟩ T T.period T.deadline rf hrf wr (hts.2 _ (List.mem_of_getElem? hek)).t)
        have HRF:=Lib.hid hrf;have HEK:=Lib.hid hek;unfold Sh.arg at KF;dsimp only at KF;clear hts hek hrf;go_wp2_with fail;refine KF.out.mono ?_
        rintro e w1 ⟨rfl,b1⟩;have HB1:=Lib.hid (HB.out.trans (b1.mono HB.out.size));clear b1 KF;cases rf with
        | true =>
          go_wp2;go_roundw
          case rel=>exact⟨j+1,by omega,by omega,by go_num,Lib.hid (fun x hx=>by
            rw[take_one HEK.out]at hx;rcases List.mem_append.mp hx with z|z
            · exact HF.out x z
            · rw[List.mem_singleton.mp z];exact HRF.out.mp (by trivial)),HB1⟩
          case measure=>simp[intOf];omega
        | false =>
          have HF0:=Lib.hid (show r=false by
            cases r with
            |false=>rfl
            |true=>have:=HRF.out.mpr ((HR.out.mp rfl).2 _ (List.mem_of_getElem? HEK.out));cases this)
          go_wp2;refine bodyPost_ret (v:= .bool false) ?_ rfl ⟨by rw[HF0.out],HB1.out⟩
          simp[results,Tryz.results10,go_sem]
      · have d3:decide ((j:Int)<13)=false:=decide_eq_false (by omega)
        have d4:decide (j<13)=false:=decide_eq_false h13;have d5:decide ((n:Int)<=12)=false:=decide_eq_false (by omega)
        have d6:decide (n<=12)=false:=decide_eq_false (by omega)
        have HF0:=Lib.hid (show r=false by
          cases r with
          |false=>rfl
          |true=>have:=(HR.out.mp rfl).1;rw[HN.out]at this;omega)
        go_wp2;refine bodyPost_ret (v:= .bool false) ?_ rfl ⟨by rw[HF0.out],HB.out⟩
        simp[results,Tryz.results10,go_sem]
    · obtain rfl:j=n:=by omega
      have d1:decide ((j:Int)<(j:Int))=false:=decide_eq_false (by omega)
      have d2:decide (j<j)=false:=decide_eq_false (by omega)
      have hall: ∀x∈l,FewD x.2:=fun x hx=>HF.out x (by rw[List.take_of_length_le (by rw[HN.out];exact Nat.le_refl _)];exact hx)
      by_cases h12:j<=12
      · have d5:decide ((j:Int)<=12)=true:=decide_eq_true (by omega)
        have d6:decide (j<=12)=true:=decide_eq_true h12;have HF0:=Lib.hid (show r=true from HR.out.mpr ⟨by rw[HN.out];exact h12,hall⟩)
        go_wp2;refine bodyPost_ret (v:= .bool true) ?_ rfl ⟨by rw[HF0.out],HB.out⟩
        simp[results,Tryz.results10,go_sem]
      · have d5:decide ((j:Int)<=12)=false:=decide_eq_false (by omega)
        have d6:decide (j<=12)=false:=decide_eq_false h12;have HF0:=Lib.hid (show r=false by
          cases r with
          |false=>rfl
          |true=>have:=(HR.out.mp rfl).1;rw[HN.out]at this;omega)
        go_wp2;refine bodyPost_ret (v:= .bool false) ?_ rfl ⟨by rw[HF0.out],HB.out⟩
        simp[results,Tryz.results10,go_sem]
end Go.Proofs.YtlfekmbalgkmeaaGreatDoor
