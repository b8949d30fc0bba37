import Derived.Test.YtngdbbligebcbabGreatDoorZM36
import Derived.Test.YtngdbbligebcbabGreatDoorZM37
import Derived.Test.YtngdbbligebcbabGreatDoorZM35
set_option linter.unusedVariables false
set_option linter.unusedSimpArgs false
set_option maxRecDepth 100000
set_option maxHeartbeats 32000000
namespace Go.Proofs.YtngdbbligebcbabGreatDoor
open Go Go.RowKit
def g0x:Gng:=newG 1 2 [] [2]
def a0x:Gng:=calmG 2 g0x [0,0,0,0,0]
def b0x:Gng:=calmG 2 g0x [1,1,1,1,1,1,1,1,1,1]
theorem ax_O:a0x.O= [0,-1]:=by decide
theorem bx_O:b0x.O= [-1,0]:=by decide
theorem ax_n:0<(lenC 2 g0x [0,0,0,0,0]:Int):=by decide
theorem gx_O:g0x.O= [-1,-1]:=by decide
theorem xx_at:((stepG 2 g0x 1).tk 1).at_=1:=by decide
theorem yx_L:leftT a0x.O [2]= [1]:=by decide
theorem yx_D:doneT a0x.O [2]= []:=by decide
theorem wx_l:wantsG 2 g0x= [0,1]:=by decide
theorem tx_l:lenG 1 2 [] [2] []=2:=by decide
theorem gx_0:g0x.O.getD 1 0= -1:=by decide
theorem may_x:May [9] []:=⟨by decide,by simp,fun z hz=>by simp at hz;subst hz;decide,fun e he=>by simp at he,fun e he=>by simp at he,List.nodup_nil,fun a h=>by
 obtain⟨c,h1,_⟩:=h.last;exact absurd h1 (by unfold ed;simp)⟩
theorem form_x:FormOk [9] [2] 2:=⟨rfl,by decide,by decide,by decide⟩
theorem new_x:newE [9] [] [2] (2:Nat)=0:=newE_zero.mpr ⟨may_x,form_x⟩
theorem okg:GOk 1 2 [] [2] g0x/\ ∀c,c<2->(g0x.tk c).at_=0:=GOk.new (by decide) (by decide) (by decide) rfl (by decide)
theorem oka:GOk 1 2 [] [2] a0x/\ ∀c,c<2->(a0x.tk c).at_=0:=by
 obtain⟨h1,_,_,h2⟩:=calm_spec (picks:=[0,0,0,0,0]) okg.1 okg.2;exact⟨h2.ok,(quiet_spec h2.ok h1).1⟩
theorem oky:GOk 1 2 [] [1] (tickG 1 2 [] [2] a0x):=by
 have h:=(oka.1.tick may_x.fits oka.2).1;rw[yx_L]at h;exact h
theorem gang_out{w:World}{base m:Nat}{g:Gng}{L:List Int}{a:GAd}{n:Nat}(h:IsGng w base m g L a)(hn:L.length=n): ∃gO cO AL cL gD cD gT cT gF cF Rv,a=⟨gO,cO,.slice AL n cL,gD,cD,gT,cT,gF,cF,Rv⟩:=by
 obtain⟨AL,cL,hv,_⟩:=h.left.slice;obtain⟨gO,cO,vL,gD,cD,gT,cT,gF,cF,Rv⟩:=a;replace hv:vL= .slice AL L.length cL:=hv;rw[hn]at hv;exact⟨gO,cO,AL,cL,gD,cD,gT,cT,gF,cF,Rv,by rw[hv]⟩
theorem ints_newS(w:World)(zs:List Int):Ints (w.alloc (.cells (zs.map (Value.int .i64)).toArray 3)) (w.alloc (.cells (zs.map (Value.int .i64)).toArray 3)).heap.size (some ⟨w.heap.size,0,none⟩) zs:=fun _=>
 ⟨_,_,rfl,by simp,fun k hk=>by
  rw[World.cell?_alloc_at _ _ _ _ rfl]
  simp[List.getElem?_map,hk]⟩
structure AwS(wf:World)(gd dA:Nat)(rows:List (Nat×Nat×Gng×List Int×GAd))(w:World):Prop where
 bel:Below wf.heap.size wf w
 dag:RowV gd 25 [.slice (some ⟨dA,0,none⟩) 1 1,.slice none 0 0] w
 g:IsG w (some ⟨dA,0,none⟩) 1 1 none 0 0 [9] []
 gs: ∀q base g L a,(q,base,g,L,a)∈rows->RowV q 41 (gangC 2 a) w/\IsGng w base 2 g L a
section
variable {wf w w': World} {gd dA: Nat} {rows: List (Nat × Nat × Gng × List Int × GAd)}
theorem AwS.next(h:AwS wf gd dA rows w)(hb:Below w.heap.size w w'):AwS wf gd dA rows w':=
 ⟨h.bel.trans (hb.mono h.bel.size),h.dag.below hb h.dag.lt,h.g.below hb,fun q b g L a hm=>by
  obtain⟨h1,h2⟩:=h.gs q b g L a hm;exact⟨h1.below hb h1.lt,h2.below hb⟩⟩
theorem AwS.add(h:AwS wf gd dA rows w){base:Nat}{g:Gng}{L:List Int}{a:GAd}(hg:IsGng w base 2 g L a):AwS wf gd dA (rows++ [(w.heap.size,base,g,L,a)]) (w.alloc (.cells (gangC 2 a).toArray 41)):=by
 have h1:=h.next (below_alloc (.cells (gangC 2 a).toArray 41));refine⟨h1.bel,h1.dag,h1.g,fun q b g' L' a' hm=> ?_⟩
 rcases List.mem_append.mp hm with hm|hm
 ·exact h1.gs q b g' L' a' hm
 ·rw [List.mem_singleton] at hm
  injection hm with e1 e2;injection e2 with e2 e3;injection e3 with e3 e4;injection e4 with e4 e5;subst e1 e2 e3 e4 e5;exact⟨RowV.new w _ _,hg.below (below_alloc _)⟩
end
theorem aw_new{wf w:World}{gd dA:Nat}{rows:List (Nat×Nat×Gng×List Int×GAd)}(h:AwS wf gd dA rows w)(dB:Nat)(hI:Ints w w.heap.size (some ⟨dB,0,none⟩) [2]):
  Calls Tryz.prog 13 #[.agg #[.slice (some ⟨dA,0,none⟩) 1 1,.slice none 0 0],.slice (some ⟨dB,0,none⟩) 1 1,.int .i64 2] w fun e w'=> ∃gOg cOg ALg cLg gDg cDg gTg cTg gFg cFg Rvg bs,e= .returned (.tuple #[.agg #[.slice (some ⟨gOg,0,none⟩) 2 cOg,.slice ALg 1 cLg,.slice (some ⟨gDg,0,none⟩) 2 cDg,.slice (some ⟨gTg,0,none⟩) 2 cTg,.slice (some ⟨gFg,0,none⟩) 2 cFg],.int .i64 0])/\IsGng w' bs 2 g0x [2] ⟨gOg,cOg,.slice ALg 1 cLg,gDg,cDg,gTg,cTg,gFg,cFg,Rvg⟩/\AwS wf gd dA rows w':=by
 refine(snew_yes (nc:=1) (m:=2) (need:=[2]) (nn:=1) w h.g.tab h.g rfl (by decide) hI (fun q=>by cases q) new_x).mono ?_
 rintro e w' ⟨a',he,hg,hb⟩;obtain⟨gO,cO,AL,cL,gD,cD,gT,cT,gF,cF,Rv,rfl⟩:=gang_out (n:=1) hg rfl;exact⟨gO,cO,AL,cL,gD,cD,gT,cT,gF,cF,Rv,_,he,hg,h.next hb⟩
theorem aw_calm{wf w:World}{gd dA:Nat}{rows:List (Nat×Nat×Gng×List Int×GAd)}(h:AwS wf gd dA rows w)(dB:Nat)(hI:Ints w w.heap.size (some ⟨dB,0,none⟩) [0,0,0,0,0]){gOg cOg:Nat}{ALg:Option Addr}{cLg gDg cDg gTg cTg gFg cFg:Nat}{Rvg:Nat->Value}{bsg:Nat}(hg:IsGng w bsg 2 g0x [2] ⟨gOg,cOg,.slice ALg 1 cLg,gDg,cDg,gTg,cTg,gFg,cFg,Rvg⟩):
  Calls Tryz.prog 18 #[.agg #[.slice (some ⟨dA,0,none⟩) 1 1,.slice none 0 0],.agg #[.slice (some ⟨gOg,0,none⟩) 2 cOg,.slice ALg 1 cLg,.slice (some ⟨gDg,0,none⟩) 2 cDg,.slice (some ⟨gTg,0,none⟩) 2 cTg,.slice (some ⟨gFg,0,none⟩) 2 cFg],.slice (some ⟨dB,0,none⟩) 5 5] w fun e w'=> ∃gOa cOa ALa cLa gDa cDa gTa cTa gFa cFa Rva bs,e= .returned (.tuple #[.agg #[.slice (some ⟨gOa,0,none⟩) 2 cOa,.slice ALa 1 cLa,.slice (some ⟨gDa,0,none⟩) 2 cDa,.slice (some ⟨gTa,0,none⟩) 2 cTa,.slice (some ⟨gFa,0,none⟩) 2 cFa],.int .i64 (lenC 2 g0x [0,0,0,0,0]:Nat),.int .i64 0])/\IsGng w' bs 2 a0x [2] ⟨gOa,cOa,.slice ALa 1 cLa,gDa,cDa,gTa,cTa,gFa,cFa,Rva⟩/\AwS wf gd dA rows w':=by
 refine(gcalm_any (W:=[9]) (picks:=[0,0,0,0,0]) (nP:=5) (cP:=5) w okg.1 okg.2 hg.r h.g.tab h.g may_x rfl (by decide) hI).mono ?_
 rintro e w' ⟨a',he,hg,hb⟩;obtain⟨gO,cO,AL,cL,gD,cD,gT,cT,gF,cF,Rv,rfl⟩:=gang_out (n:=1) hg rfl;exact⟨gO,cO,AL,cL,gD,cD,gT,cT,gF,cF,Rv,_,he,hg,h.next hb⟩
theorem aw_calm2{wf w:World}{gd dA:Nat}{rows:List (Nat×Nat×Gng×List Int×GAd)}(h:AwS wf gd dA rows w)(dB:Nat)(hI:Ints w w.heap.size (some ⟨dB,0,none⟩) [1,1,1,1,1,1,1,1,1,1]){gOg cOg:Nat}{ALg:Option Addr}{cLg gDg cDg gTg cTg gFg cFg:Nat}{Rvg:Nat->Value}{bsg:Nat}(hg:IsGng w bsg 2 g0x [2] ⟨gOg,cOg,.slice ALg 1 cLg,gDg,cDg,gTg,cTg,gFg,cFg,Rvg⟩):
  Calls Tryz.prog 18 #[.agg #[.slice (some ⟨dA,0,none⟩) 1 1,.slice none 0 0],.agg #[.slice (some ⟨gOg,0,none⟩) 2 cOg,.slice ALg 1 cLg,.slice (some ⟨gDg,0,none⟩) 2 cDg,.slice (some ⟨gTg,0,none⟩) 2 cTg,.slice (some ⟨gFg,0,none⟩) 2 cFg],.slice (some ⟨dB,0,none⟩) 10 10] w fun e w'=> ∃gOb cOb ALb cLb gDb cDb gTb cTb gFb cFb Rvb bs,e= .returned (.tuple #[.agg #[.slice (some ⟨gOb,0,none⟩) 2 cOb,.slice ALb 1 cLb,.slice (some ⟨gDb,0,none⟩) 2 cDb,.slice (some ⟨gTb,0,none⟩) 2 cTb,.slice (some ⟨gFb,0,none⟩) 2 cFb],.int .i64 (lenC 2 g0x [1,1,1,1,1,1,1,1,1,1]:Nat),.int .i64 0])/\IsGng w' bs 2 b0x [2] ⟨gOb,cOb,.slice ALb 1 cLb,gDb,cDb,gTb,cTb,gFb,cFb,Rvb⟩/\AwS wf gd dA rows w':=by
 refine(gcalm_any (W:=[9]) (picks:=[1,1,1,1,1,1,1,1,1,1]) (nP:=10) (cP:=10) w okg.1 okg.2 hg.r h.g.tab h.g may_x rfl (by decide) hI).mono ?_
 rintro e w' ⟨a',he,hg,hb⟩;obtain⟨gO,cO,AL,cL,gD,cD,gT,cT,gF,cF,Rv,rfl⟩:=gang_out (n:=1) hg rfl;exact⟨gO,cO,AL,cL,gD,cD,gT,cT,gF,cF,Rv,_,he,hg,h.next hb⟩
theorem aw_step{wf w:World}{gd dA:Nat}{rows:List (Nat×Nat×Gng×List Int×GAd)}(h:AwS wf gd dA rows w){gOg cOg:Nat}{ALg:Option Addr}{cLg gDg cDg gTg cTg gFg cFg:Nat}{Rvg:Nat->Value}{bsg:Nat}(hg:IsGng w bsg 2 g0x [2] ⟨gOg,cOg,.slice ALg 1 cLg,gDg,cDg,gTg,cTg,gFg,cFg,Rvg⟩):
  Calls Tryz.prog 24 #[.agg #[.slice (some ⟨dA,0,none⟩) 1 1,.slice none 0 0],.agg #[.slice (some ⟨gOg,0,none⟩) 2 cOg,.slice ALg 1 cLg,.slice (some ⟨gDg,0,none⟩) 2 cDg,.slice (some ⟨gTg,0,none⟩) 2 cTg,.slice (some ⟨gFg,0,none⟩) 2 cFg],.int .i64 1] w fun e w'=> ∃gOx cOx ALx cLx gDx cDx gTx cTx gFx cFx Rvx bs,e= .returned (.tuple #[.agg #[.slice (some ⟨gOx,0,none⟩) 2 cOx,.slice ALx 1 cLx,.slice (some ⟨gDx,0,none⟩) 2 cDx,.slice (some ⟨gTx,0,none⟩) 2 cTx,.slice (some ⟨gFx,0,none⟩) 2 cFx],.int .i64 0])/\IsGng w' bs 2 (stepG 2 g0x 1) [2] ⟨gOx,cOx,.slice ALx 1 cLx,gDx,cDx,gTx,cTx,gFx,cFx,Rvx⟩/\AwS wf gd dA rows w':=by
 refine(gstep_any (W:=[9]) (c:=1) w okg.1 (by decide) gx_0 hg.r h.g.tab h.g may_x).mono ?_
 rintro e w' ⟨a',he,hg,hb⟩;obtain⟨gO,cO,AL,cL,gD,cD,gT,cT,gF,cF,Rv,rfl⟩:=gang_out (n:=1) hg rfl;exact⟨gO,cO,AL,cL,gD,cD,gT,cT,gF,cF,Rv,_,he,hg,h.next hb⟩
theorem aw_tick{wf w:World}{gd dA:Nat}{rows:List (Nat×Nat×Gng×List Int×GAd)}(h:AwS wf gd dA rows w){gOa cOa:Nat}{ALa:Option Addr}{cLa gDa cDa gTa cTa gFa cFa:Nat}{Rva:Nat->Value}{bsa:Nat}(ha:IsGng w bsa 2 a0x [2] ⟨gOa,cOa,.slice ALa 1 cLa,gDa,cDa,gTa,cTa,gFa,cFa,Rva⟩):
  Calls Tryz.prog 26 #[.agg #[.slice (some ⟨dA,0,none⟩) 1 1,.slice none 0 0],.agg #[.slice (some ⟨gOa,0,none⟩) 2 cOa,.slice ALa 1 cLa,.slice (some ⟨gDa,0,none⟩) 2 cDa,.slice (some ⟨gTa,0,none⟩) 2 cTa,.slice (some ⟨gFa,0,none⟩) 2 cFa]] w fun e w'=> ∃gOy cOy ALy cLy gDy cDy gTy cTy gFy cFy Rvy bs A5 c5,e= .returned (.tuple #[.agg #[.slice (some ⟨gOy,0,none⟩) 2 cOy,.slice ALy 1 cLy,.slice (some ⟨gDy,0,none⟩) 2 cDy,.slice (some ⟨gTy,0,none⟩) 2 cTy,.slice (some ⟨gFy,0,none⟩) 2 cFy],.slice A5 0 c5,.int .i64 0])/\IsGng w' bs 2 (tickG 1 2 [] [2] a0x) [1] ⟨gOy,cOy,.slice ALy 1 cLy,gDy,cDy,gTy,cTy,gFy,cFy,Rvy⟩/\AwS wf gd dA rows w':=by
 refine(gtick_any (W:=[9]) w oka.1 oka.2 ha.r h.g.tab h.g may_x).mono ?_
 rintro e w' ⟨a',A5,c5,he,hg,hb⟩;rw[yx_L]at hg;rw[yx_D]at he;obtain⟨gO,cO,AL,cL,gD,cD,gT,cT,gF,cF,Rv,rfl⟩:=gang_out (n:=1) hg rfl;exact⟨gO,cO,AL,cL,gD,cD,gT,cT,gF,cF,Rv,_,A5,c5,he,hg,h.next hb⟩
theorem aw_run{wf w:World}{gd dA:Nat}{rows:List (Nat×Nat×Gng×List Int×GAd)}(h:AwS wf gd dA rows w)(dB:Nat)(hI:Ints w w.heap.size (some ⟨dB,0,none⟩) [2]):
  Calls Tryz.prog 9 #[.agg #[.slice (some ⟨dA,0,none⟩) 1 1,.slice none 0 0],.slice (some ⟨dB,0,none⟩) 1 1,.int .i64 2,.slice none 0 0] w fun e w'=> ∃T tc n,e= .returned (.tuple #[.slice T 2 tc,.int .i64 n,.int .i64 0])/\AwS wf gd dA rows w':=by
 refine(srun_yes (nc:=1) (m:=2) (need:=[2]) (nn:=1) (picks:=[]) (nP:=0) (cP:=0) w h.g.tab h.g rfl (by decide) hI (fun q=>by cases q) rfl (by decide) (Ints.nil_ _ _ _) (Nat.le_refl _) new_x (by decide)).mono ?_
 rintro e w' ⟨v,he,⟨T,tc,hv,_⟩,hb⟩;have hl:(traceG ([9]:List Int).length 2 [] [2] []).length=2:=by
  show(traceG 1 2 [] [2] []).length=2
  unfold traceG;rw[rowsF_len,tx_l]
 rw[hl]at hv;rw[hv]at he;exact⟨T,tc,_,he,h.next hb⟩
theorem aw_bad{wf w:World}{gd dA:Nat}{rows:List (Nat×Nat×Gng×List Int×GAd)}(h:AwS wf gd dA rows w){gOg cOg:Nat}{ALg:Option Addr}{cLg gDg cDg gTg cTg gFg cFg:Nat}{Rvg:Nat->Value}{bsg:Nat}(hg:IsGng w bsg 2 g0x [2] ⟨gOg,cOg,.slice ALg 1 cLg,gDg,cDg,gTg,cTg,gFg,cFg,Rvg⟩):
  Calls Tryz.prog 24 #[.agg #[.slice (some ⟨dA,0,none⟩) 1 1,.slice none 0 0],.agg #[.slice (some ⟨gOg,0,none⟩) 2 cOg,.slice ALg 1 cLg,.slice (some ⟨gDg,0,none⟩) 2 cDg,.slice (some ⟨gTg,0,none⟩) 2 cTg,.slice (some ⟨gFg,0,none⟩) 2 cFg],.int .i64 2] w fun e w'=>e= .returned (.tuple #[.agg #[.slice none 0 0,.slice none 0 0,.slice none 0 0,.slice none 0 0,.slice none 0 0],.int .i64 131])/\AwS wf gd dA rows w':=
 (gstep_bad (W:=[9]) (c:=2) w okg.1 (Nat.le_refl _) (by decide) hg.r h.g.tab h.g may_x).mono fun e w' ⟨he,hb⟩=>⟨he,h.next hb⟩
theorem aw_wants{wf w:World}{gd dA:Nat}{rows:List (Nat×Nat×Gng×List Int×GAd)}(h:AwS wf gd dA rows w){gOg cOg:Nat}{ALg:Option Addr}{cLg gDg cDg gTg cTg gFg cFg:Nat}{Rvg:Nat->Value}{bsg:Nat}(hg:IsGng w bsg 2 g0x [2] ⟨gOg,cOg,.slice ALg 1 cLg,gDg,cDg,gTg,cTg,gFg,cFg,Rvg⟩):
  Calls Tryz.prog 20 #[.agg #[.slice (some ⟨dA,0,none⟩) 1 1,.slice none 0 0],.agg #[.slice (some ⟨gOg,0,none⟩) 2 cOg,.slice ALg 1 cLg,.slice (some ⟨gDg,0,none⟩) 2 cDg,.slice (some ⟨gTg,0,none⟩) 2 cTg,.slice (some ⟨gFg,0,none⟩) 2 cFg]] w fun e w'=> ∃A c,e= .returned (.slice A 2 c)/\Ints w' w'.heap.size A [0,1]/\AwS wf gd dA rows w':=by
 refine(gwants_any (W:=[9]) w okg.1 hg.r (by decide) h.g.tab h.g may_x rfl).mono ?_
 rintro e w' ⟨A,c,he,ho,hb⟩;rw[wx_l]at he ho;exact⟨A,c,he,ho.ints,h.next hb⟩
theorem aw_ints{wf w:World}{gd dA:Nat}{rows:List (Nat×Nat×Gng×List Int×GAd)}(h:AwS wf gd dA rows w){A1 A2:Option Addr}{c1 c2 n:Nat}{xs ys:List Int}(hn:xs.length=n)(hn2:ys.length=n)(hl:n<=1000)(h1:Ints w w.heap.size A1 xs)(h2:Ints w w.heap.size A2 ys)(he:xs=ys):
  Calls Tryz.prog 27 #[.slice A1 n c1,.slice A2 n c2] w fun e w'=>e= .returned (.bool true)/\AwS wf gd dA rows w':=by
 have C:=ints_any w.heap.size A1 A2 c1 c2 xs ys w (by omega) (by omega) h1 h2
 rw[hn,hn2,decide_eq_true he]at C;exact C.mono fun e w' ⟨he,N,hw⟩=>⟨he,h.next (by rw[hw];exact below_drewN (Below.refl _ _) N)⟩
theorem aw_check{wf w:World}{gd dA:Nat}{rows:List (Nat×Nat×Gng×List Int×GAd)}(h:AwS wf gd dA rows w){gOy cOy:Nat}{ALy:Option Addr}{cLy gDy cDy gTy cTy gFy cFy:Nat}{Rvy:Nat->Value}{bsy:Nat}(hy:IsGng w bsy 2 (tickG 1 2 [] [2] a0x) [1] ⟨gOy,cOy,.slice ALy 1 cLy,gDy,cDy,gTy,cTy,gFy,cFy,Rvy⟩):
  Calls Tryz.prog 23 #[.agg #[.slice (some ⟨dA,0,none⟩) 1 1,.slice none 0 0],.agg #[.slice (some ⟨gOy,0,none⟩) 2 cOy,.slice ALy 1 cLy,.slice (some ⟨gDy,0,none⟩) 2 cDy,.slice (some ⟨gTy,0,none⟩) 2 cTy,.slice (some ⟨gFy,0,none⟩) 2 cFy]] w fun e w'=>e= .returned (.int .i64 0)/\AwS wf gd dA rows w':=
 (gcheck_any (W:=[9]) w oky hy.r (by decide) h.g.tab h.g may_x rfl).mono fun e w' ⟨he,hb⟩=>⟨he,h.next hb⟩
theorem aw_same{wf w:World}{gd dA:Nat}{rows:List (Nat×Nat×Gng×List Int×GAd)}(h:AwS wf gd dA rows w){gOg cOg:Nat}{ALg:Option Addr}{cLg gDg cDg gTg cTg gFg cFg:Nat}{Rvg:Nat->Value}{bsg:Nat}(hg:IsGng w bsg 2 g0x [2] ⟨gOg,cOg,.slice ALg 1 cLg,gDg,cDg,gTg,cTg,gFg,cFg,Rvg⟩):
  Calls Tryz.prog 28 #[.agg #[.slice (some ⟨gOg,0,none⟩) 2 cOg,.slice ALg 1 cLg,.slice (some ⟨gDg,0,none⟩) 2 cDg,.slice (some ⟨gTg,0,none⟩) 2 cTg,.slice (some ⟨gFg,0,none⟩) 2 cFg],.agg #[.slice (some ⟨gOg,0,none⟩) 2 cOg,.slice ALg 1 cLg,.slice (some ⟨gDg,0,none⟩) 2 cDg,.slice (some ⟨gTg,0,none⟩) 2 cTg,.slice (some ⟨gFg,0,none⟩) 2 cFg]] w fun e w'=>e= .returned (.bool true)/\AwS wf gd dA rows w':=
 (same_self w hg (by decide) (by decide) (fun j hj=>okg.1.rl j hj)).mono fun e w' ⟨he,hb⟩=>⟨he,h.next hb⟩
theorem aw_not{wf w:World}{gd dA:Nat}{rows:List (Nat×Nat×Gng×List Int×GAd)}(h:AwS wf gd dA rows w){gOg cOg:Nat}{ALg:Option Addr}{cLg gDg cDg gTg cTg gFg cFg:Nat}{Rvg:Nat->Value}{bsg:Nat}(hg:IsGng w bsg 2 g0x [2] ⟨gOg,cOg,.slice ALg 1 cLg,gDg,cDg,gTg,cTg,gFg,cFg,Rvg⟩){gOa cOa:Nat}{ALa:Option Addr}{cLa gDa cDa gTa cTa gFa cFa:Nat}{Rva:Nat->Value}{bsa:Nat}(ha:IsGng w bsa 2 a0x [2] ⟨gOa,cOa,.slice ALa 1 cLa,gDa,cDa,gTa,cTa,gFa,cFa,Rva⟩):
  Calls Tryz.prog 28 #[.agg #[.slice (some ⟨gOg,0,none⟩) 2 cOg,.slice ALg 1 cLg,.slice (some ⟨gDg,0,none⟩) 2 cDg,.slice (some ⟨gTg,0,none⟩) 2 cTg,.slice (some ⟨gFg,0,none⟩) 2 cFg],.agg #[.slice (some ⟨gOa,0,none⟩) 2 cOa,.slice ALa 1 cLa,.slice (some ⟨gDa,0,none⟩) 2 cDa,.slice (some ⟨gTa,0,none⟩) 2 cTa,.slice (some ⟨gFa,0,none⟩) 2 cFa]] w fun e w'=>e= .returned (.bool false)/\AwS wf gd dA rows w':=
 (same_not w hg ha (by decide) (by decide) (by decide) (by rw[gx_O,ax_O];decide)).mono fun e w' ⟨he,hb⟩=>⟨he,h.next hb⟩
theorem awakeS_any(wf:World)(hT:DTab wf):Calls Tryz.prog 6 #[] wf fun e w'=>e= .returned (.bool true)/\Below wf.heap.size wf w':=by
 obtain⟨w1,hw1⟩: ∃x,x=(wf.alloc (.cells #[.int .i64 9] 3)).alloc (.cells #[.slice (some ⟨wf.heap.size,0,none⟩) 1 1,.slice none 0 0] 25):=⟨_,rfl⟩;obtain⟨gd,hgd⟩: ∃x,x=wf.heap.size+1:=⟨_,rfl⟩;obtain⟨dA,hdA⟩: ∃x,x=wf.heap.size:=⟨_,rfl⟩;have hb1:Below wf.heap.size wf w1:=by rw[hw1];exact(below_alloc _).trans ((below_alloc _).mono (by simp))
 have S1:Hid (AwS wf gd dA [] w1):=Lib.hid (by
  refine⟨hb1,?_,?_,fun q b g L a hm=>absurd hm (by simp)⟩
  ·have h:=RowV.new (wf.alloc (.cells #[.int .i64 9] 3)) 25 [.slice (some ⟨wf.heap.size,0,none⟩) 1 1,.slice none 0 0]
   rw[hw1,hgd,hdA]
   simpa using h
  ·refine ⟨rfl,rfl,by decide,by decide,?_,fun h => absurd h (by simp),(fun q => by cases q),fun _ => ⟨rfl,rfl⟩,hT.via hb1⟩
   rw[hdA];have h:=(ints_newS wf [9]).below (below_alloc (w:=wf.alloc (.cells ([9].map (Value.int .i64)).toArray 3)) (.cells #[.slice (some ⟨wf.heap.size,0,none⟩) 1 1,.slice none 0 0] 25));have h2:=h.more (B':=w1.heap.size) (by rw[hw1];simp)
   rw[hw1];rw[hw1]at h2;exact h2)
 have HW1:=Lib.hid hw1;have HGD:=Lib.hid hgd;have HDA:=Lib.hid hdA;clear hT hw1 hgd hdA hb1;go_enter Tryz.func6,Tryz.ntmps6;go_upto_region 2 with fail;rw[<-HW1.out,<-HGD.out,<-HDA.out];have d0:=S1.out.dag.cell (j:=0) rfl;have d1:=S1.out.dag.cell (j:=1) rfl;go_wp2_with fail;refine(aw_new (S1.out.next (below_alloc (.cells #[.int .i64 2] 3))) _ (ints_newS _ [2])).mono ?_
 rintro e w2 ⟨gOg,cOg,ALg,cLg,gDg,cDg,gTg,cTg,gFg,cFg,Rvg,bsg,rfl,hg,hS⟩;have S2:=Lib.hid (hS.add hg);obtain⟨qg,hqg⟩: ∃x,x=w2.heap.size:=⟨_,rfl⟩;obtain⟨w3,hw3⟩: ∃x,x=w2.alloc (.cells #[.slice (some ⟨gOg,0,none⟩) 2 cOg,.slice ALg 1 cLg,.slice (some ⟨gDg,0,none⟩) 2 cDg,.slice (some ⟨gTg,0,none⟩) 2 cTg,.slice (some ⟨gFg,0,none⟩) 2 cFg] 41):=⟨_,rfl⟩;replace S2:Hid (AwS wf gd dA [(qg,bsg,g0x,[2],⟨gOg,cOg,.slice ALg 1 cLg,gDg,cDg,gTg,cTg,gFg,cFg,Rvg⟩)] w3):=Lib.hid (by rw[hw3,hqg];exact S2.out)
 have HQ3:=Lib.hid hqg;have HW3:=Lib.hid hw3;clear hS hg hqg hw3 d0 d1 S1;go_upto_region 3 with fail;rw[<-HW3.out,<-HQ3.out];obtain⟨na,hna⟩: ∃x,x=lenC 2 g0x [0,0,0,0,0]:=⟨_,rfl⟩;have hnp:decide ((0:Int)<(na:Int))=true:=by rw[hna];exact decide_eq_true ax_n
 have hnp2:decide (0<na)=true:=by rw[hna];exact decide_eq_true (by have:=ax_n;omega)
 have HNA:=Lib.hid hna;clear hna;have d0:=S2.out.dag.cell (j:=0) rfl;have d1:=S2.out.dag.cell (j:=1) rfl;have g0:w3.cell? ⟨qg,0,none⟩=some (.slice (some ⟨gOg,0,none⟩) 2 cOg):=(S2.out.gs _ _ _ _ _ (by simp):RowV qg _ _ _/\IsGng _ bsg 2 g0x [2] ⟨gOg,cOg,.slice ALg 1 cLg,gDg,cDg,gTg,cTg,gFg,cFg,Rvg⟩).1.cell (j:=0) rfl
 have g1:w3.cell? ⟨qg,1,none⟩=some (.slice ALg 1 cLg):=(S2.out.gs _ _ _ _ _ (by simp):RowV qg _ _ _/\IsGng _ bsg 2 g0x [2] ⟨gOg,cOg,.slice ALg 1 cLg,gDg,cDg,gTg,cTg,gFg,cFg,Rvg⟩).1.cell (j:=1) rfl
 have g2:w3.cell? ⟨qg,2,none⟩=some (.slice (some ⟨gDg,0,none⟩) 2 cDg):=(S2.out.gs _ _ _ _ _ (by simp):RowV qg _ _ _/\IsGng _ bsg 2 g0x [2] ⟨gOg,cOg,.slice ALg 1 cLg,gDg,cDg,gTg,cTg,gFg,cFg,Rvg⟩).1.cell (j:=2) rfl
 have g3:w3.cell? ⟨qg,3,none⟩=some (.slice (some ⟨gTg,0,none⟩) 2 cTg):=(S2.out.gs _ _ _ _ _ (by simp):RowV qg _ _ _/\IsGng _ bsg 2 g0x [2] ⟨gOg,cOg,.slice ALg 1 cLg,gDg,cDg,gTg,cTg,gFg,cFg,Rvg⟩).1.cell (j:=3) rfl
 have g4:w3.cell? ⟨qg,4,none⟩=some (.slice (some ⟨gFg,0,none⟩) 2 cFg):=(S2.out.gs _ _ _ _ _ (by simp):RowV qg _ _ _/\IsGng _ bsg 2 g0x [2] ⟨gOg,cOg,.slice ALg 1 cLg,gDg,cDg,gTg,cTg,gFg,cFg,Rvg⟩).1.cell (j:=4) rfl
 go_wp2_with fail;refine(aw_calm (S2.out.next (below_alloc (.cells #[.int .i64 0,.int .i64 0,.int .i64 0,.int .i64 0,.int .i64 0] 3))) _ (ints_newS _ [0,0,0,0,0]) ((S2.out.gs _ _ _ _ _ (by simp):RowV qg _ _ _/\IsGng _ bsg 2 g0x [2] ⟨gOg,cOg,.slice ALg 1 cLg,gDg,cDg,gTg,cTg,gFg,cFg,Rvg⟩).2.below (below_alloc _))).mono ?_
 rintro e w4a ⟨gOa,cOa,ALa,cLa,gDa,cDa,gTa,cTa,gFa,cFa,Rva,bsa,rfl,hg,hS⟩;have S3:=Lib.hid (hS.add hg);obtain⟨qa,hq⟩: ∃x,x=w4a.heap.size:=⟨_,rfl⟩;obtain⟨w4,hw⟩: ∃x,x=w4a.alloc (.cells #[.slice (some ⟨gOa,0,none⟩) 2 cOa,.slice ALa 1 cLa,.slice (some ⟨gDa,0,none⟩) 2 cDa,.slice (some ⟨gTa,0,none⟩) 2 cTa,.slice (some ⟨gFa,0,none⟩) 2 cFa] 41):=⟨_,rfl⟩;replace S3:Hid (AwS wf gd dA [(qg,bsg,g0x,[2],⟨gOg,cOg,.slice ALg 1 cLg,gDg,cDg,gTg,cTg,gFg,cFg,Rvg⟩),(qa,bsa,a0x,[2],⟨gOa,cOa,.slice ALa 1 cLa,gDa,cDa,gTa,cTa,gFa,cFa,Rva⟩)] w4):=Lib.hid (by rw[hw,hq];exact S3.out)
 have HQa:=Lib.hid hq;have HW4:=Lib.hid hw;clear hS hg hq hw d0 d1 g0 g1 g2 g3 g4 S2;go_upto_region 4 with fail;rw[<-HW4.out,<-HQa.out];have d0:=S3.out.dag.cell (j:=0) rfl;have d1:=S3.out.dag.cell (j:=1) rfl;have g0:w4.cell? ⟨qg,0,none⟩=some (.slice (some ⟨gOg,0,none⟩) 2 cOg):=(S3.out.gs _ _ _ _ _ (by simp):RowV qg _ _ _/\IsGng _ bsg 2 g0x [2] ⟨gOg,cOg,.slice ALg 1 cLg,gDg,cDg,gTg,cTg,gFg,cFg,Rvg⟩).1.cell (j:=0) rfl
 have g1:w4.cell? ⟨qg,1,none⟩=some (.slice ALg 1 cLg):=(S3.out.gs _ _ _ _ _ (by simp):RowV qg _ _ _/\IsGng _ bsg 2 g0x [2] ⟨gOg,cOg,.slice ALg 1 cLg,gDg,cDg,gTg,cTg,gFg,cFg,Rvg⟩).1.cell (j:=1) rfl
 have g2:w4.cell? ⟨qg,2,none⟩=some (.slice (some ⟨gDg,0,none⟩) 2 cDg):=(S3.out.gs _ _ _ _ _ (by simp):RowV qg _ _ _/\IsGng _ bsg 2 g0x [2] ⟨gOg,cOg,.slice ALg 1 cLg,gDg,cDg,gTg,cTg,gFg,cFg,Rvg⟩).1.cell (j:=2) rfl
 have g3:w4.cell? ⟨qg,3,none⟩=some (.slice (some ⟨gTg,0,none⟩) 2 cTg):=(S3.out.gs _ _ _ _ _ (by simp):RowV qg _ _ _/\IsGng _ bsg 2 g0x [2] ⟨gOg,cOg,.slice ALg 1 cLg,gDg,cDg,gTg,cTg,gFg,cFg,Rvg⟩).1.cell (j:=3) rfl
 have g4:w4.cell? ⟨qg,4,none⟩=some (.slice (some ⟨gFg,0,none⟩) 2 cFg):=(S3.out.gs _ _ _ _ _ (by simp):RowV qg _ _ _/\IsGng _ bsg 2 g0x [2] ⟨gOg,cOg,.slice ALg 1 cLg,gDg,cDg,gTg,cTg,gFg,cFg,Rvg⟩).1.cell (j:=4) rfl
 go_wp2_with fail;refine(aw_calm2 (S3.out.next (below_alloc (.cells #[.int .i64 1,.int .i64 1,.int .i64 1,.int .i64 1,.int .i64 1,.int .i64 1,.int .i64 1,.int .i64 1,.int .i64 1,.int .i64 1] 3))) _ (ints_newS _ [1,1,1,1,1,1,1,1,1,1]) ((S3.out.gs _ _ _ _ _ (by simp):RowV qg _ _ _/\IsGng _ bsg 2 g0x [2] ⟨gOg,cOg,.slice ALg 1 cLg,gDg,cDg,gTg,cTg,gFg,cFg,Rvg⟩).2.below (below_alloc _))).mono ?_
 rintro e w5a ⟨gOb,cOb,ALb,cLb,gDb,cDb,gTb,cTb,gFb,cFb,Rvb,bsb,rfl,hg,hS⟩;have S4:=Lib.hid (hS.add hg);obtain⟨qb,hq⟩: ∃x,x=w5a.heap.size:=⟨_,rfl⟩;obtain⟨w5,hw⟩: ∃x,x=w5a.alloc (.cells #[.slice (some ⟨gOb,0,none⟩) 2 cOb,.slice ALb 1 cLb,.slice (some ⟨gDb,0,none⟩) 2 cDb,.slice (some ⟨gTb,0,none⟩) 2 cTb,.slice (some ⟨gFb,0,none⟩) 2 cFb] 41):=⟨_,rfl⟩;replace S4:Hid (AwS wf gd dA [(qg,bsg,g0x,[2],⟨gOg,cOg,.slice ALg 1 cLg,gDg,cDg,gTg,cTg,gFg,cFg,Rvg⟩),(qa,bsa,a0x,[2],⟨gOa,cOa,.slice ALa 1 cLa,gDa,cDa,gTa,cTa,gFa,cFa,Rva⟩),(qb,bsb,b0x,[2],⟨gOb,cOb,.slice ALb 1 cLb,gDb,cDb,gTb,cTb,gFb,cFb,Rvb⟩)] w5):=Lib.hid (by rw[hw,hq];exact S4.out)
 have HQb:=Lib.hid hq;have HW5:=Lib.hid hw;clear hS hg hq hw d0 d1 g0 g1 g2 g3 g4 S3;go_upto_region 5 with fail;rw[<-HW5.out,<-HQb.out];have d0:=S4.out.dag.cell (j:=0) rfl;have d1:=S4.out.dag.cell (j:=1) rfl;go_wp2_with fail;refine(aw_run (S4.out.next (below_alloc (.cells #[.int .i64 2] 3))) _ (ints_newS _ [2])).mono ?_
 rintro e w6 ⟨T,tc,nr,rfl,hS⟩;have S5:=Lib.hid hS;clear hS d0 d1 S4;go_upto_region 6 with fail;have d0:=S5.out.dag.cell (j:=0) rfl;have d1:=S5.out.dag.cell (j:=1) rfl;have g0:w6.cell? ⟨qg,0,none⟩=some (.slice (some ⟨gOg,0,none⟩) 2 cOg):=(S5.out.gs _ _ _ _ _ (by simp):RowV qg _ _ _/\IsGng _ bsg 2 g0x [2] ⟨gOg,cOg,.slice ALg 1 cLg,gDg,cDg,gTg,cTg,gFg,cFg,Rvg⟩).1.cell (j:=0) rfl
 have g1:w6.cell? ⟨qg,1,none⟩=some (.slice ALg 1 cLg):=(S5.out.gs _ _ _ _ _ (by simp):RowV qg _ _ _/\IsGng _ bsg 2 g0x [2] ⟨gOg,cOg,.slice ALg 1 cLg,gDg,cDg,gTg,cTg,gFg,cFg,Rvg⟩).1.cell (j:=1) rfl
 have g2:w6.cell? ⟨qg,2,none⟩=some (.slice (some ⟨gDg,0,none⟩) 2 cDg):=(S5.out.gs _ _ _ _ _ (by simp):RowV qg _ _ _/\IsGng _ bsg 2 g0x [2] ⟨gOg,cOg,.slice ALg 1 cLg,gDg,cDg,gTg,cTg,gFg,cFg,Rvg⟩).1.cell (j:=2) rfl
 have g3:w6.cell? ⟨qg,3,none⟩=some (.slice (some ⟨gTg,0,none⟩) 2 cTg):=(S5.out.gs _ _ _ _ _ (by simp):RowV qg _ _ _/\IsGng _ bsg 2 g0x [2] ⟨gOg,cOg,.slice ALg 1 cLg,gDg,cDg,gTg,cTg,gFg,cFg,Rvg⟩).1.cell (j:=3) rfl
 have g4:w6.cell? ⟨qg,4,none⟩=some (.slice (some ⟨gFg,0,none⟩) 2 cFg):=(S5.out.gs _ _ _ _ _ (by simp):RowV qg _ _ _/\IsGng _ bsg 2 g0x [2] ⟨gOg,cOg,.slice ALg 1 cLg,gDg,cDg,gTg,cTg,gFg,cFg,Rvg⟩).1.cell (j:=4) rfl
 go_wp2_with fail;refine(aw_step S5.out (S5.out.gs _ _ _ _ _ (by simp):RowV qg _ _ _/\IsGng _ bsg 2 g0x [2] ⟨gOg,cOg,.slice ALg 1 cLg,gDg,cDg,gTg,cTg,gFg,cFg,Rvg⟩).2).mono ?_
 rintro e w7a ⟨gOx,cOx,ALx,cLx,gDx,cDx,gTx,cTx,gFx,cFx,Rvx,bsx,rfl,hg,hS⟩;have S6:=Lib.hid (hS.add hg);obtain⟨qx,hq⟩: ∃x,x=w7a.heap.size:=⟨_,rfl⟩;obtain⟨w7,hw⟩: ∃x,x=w7a.alloc (.cells #[.slice (some ⟨gOx,0,none⟩) 2 cOx,.slice ALx 1 cLx,.slice (some ⟨gDx,0,none⟩) 2 cDx,.slice (some ⟨gTx,0,none⟩) 2 cTx,.slice (some ⟨gFx,0,none⟩) 2 cFx] 41):=⟨_,rfl⟩;replace S6:Hid (AwS wf gd dA [(qg,bsg,g0x,[2],⟨gOg,cOg,.slice ALg 1 cLg,gDg,cDg,gTg,cTg,gFg,cFg,Rvg⟩),(qa,bsa,a0x,[2],⟨gOa,cOa,.slice ALa 1 cLa,gDa,cDa,gTa,cTa,gFa,cFa,Rva⟩),(qb,bsb,b0x,[2],⟨gOb,cOb,.slice ALb 1 cLb,gDb,cDb,gTb,cTb,gFb,cFb,Rvb⟩),(qx,bsx,(stepG 2 g0x 1),[2],⟨gOx,cOx,.slice ALx 1 cLx,gDx,cDx,gTx,cTx,gFx,cFx,Rvx⟩)] w7):=Lib.hid (by rw[hw,hq];exact S6.out)
 have HQx:=Lib.hid hq;have HW7:=Lib.hid hw;clear hS hg hq hw d0 d1 g0 g1 g2 g3 g4 S5;go_upto_region 7 with fail;rw[<-HW7.out,<-HQx.out];have d0:=S6.out.dag.cell (j:=0) rfl;have d1:=S6.out.dag.cell (j:=1) rfl;have a0:w7.cell? ⟨qa,0,none⟩=some (.slice (some ⟨gOa,0,none⟩) 2 cOa):=(S6.out.gs _ _ _ _ _ (by simp):RowV qa _ _ _/\IsGng _ bsa 2 a0x [2] ⟨gOa,cOa,.slice ALa 1 cLa,gDa,cDa,gTa,cTa,gFa,cFa,Rva⟩).1.cell (j:=0) rfl
 have a1:w7.cell? ⟨qa,1,none⟩=some (.slice ALa 1 cLa):=(S6.out.gs _ _ _ _ _ (by simp):RowV qa _ _ _/\IsGng _ bsa 2 a0x [2] ⟨gOa,cOa,.slice ALa 1 cLa,gDa,cDa,gTa,cTa,gFa,cFa,Rva⟩).1.cell (j:=1) rfl
 have a2:w7.cell? ⟨qa,2,none⟩=some (.slice (some ⟨gDa,0,none⟩) 2 cDa):=(S6.out.gs _ _ _ _ _ (by simp):RowV qa _ _ _/\IsGng _ bsa 2 a0x [2] ⟨gOa,cOa,.slice ALa 1 cLa,gDa,cDa,gTa,cTa,gFa,cFa,Rva⟩).1.cell (j:=2) rfl
 have a3:w7.cell? ⟨qa,3,none⟩=some (.slice (some ⟨gTa,0,none⟩) 2 cTa):=(S6.out.gs _ _ _ _ _ (by simp):RowV qa _ _ _/\IsGng _ bsa 2 a0x [2] ⟨gOa,cOa,.slice ALa 1 cLa,gDa,cDa,gTa,cTa,gFa,cFa,Rva⟩).1.cell (j:=3) rfl
 have a4:w7.cell? ⟨qa,4,none⟩=some (.slice (some ⟨gFa,0,none⟩) 2 cFa):=(S6.out.gs _ _ _ _ _ (by simp):RowV qa _ _ _/\IsGng _ bsa 2 a0x [2] ⟨gOa,cOa,.slice ALa 1 cLa,gDa,cDa,gTa,cTa,gFa,cFa,Rva⟩).1.cell (j:=4) rfl
 go_wp2_with fail;refine(aw_tick S6.out (S6.out.gs _ _ _ _ _ (by simp):RowV qa _ _ _/\IsGng _ bsa 2 a0x [2] ⟨gOa,cOa,.slice ALa 1 cLa,gDa,cDa,gTa,cTa,gFa,cFa,Rva⟩).2).mono ?_
 rintro e w8a ⟨gOy,cOy,ALy,cLy,gDy,cDy,gTy,cTy,gFy,cFy,Rvy,bsy,A5,c5,rfl,hg,hS⟩;have S7:=Lib.hid (hS.add hg);obtain⟨qy,hq⟩: ∃x,x=w8a.heap.size:=⟨_,rfl⟩;obtain⟨w8,hw⟩: ∃x,x=w8a.alloc (.cells #[.slice (some ⟨gOy,0,none⟩) 2 cOy,.slice ALy 1 cLy,.slice (some ⟨gDy,0,none⟩) 2 cDy,.slice (some ⟨gTy,0,none⟩) 2 cTy,.slice (some ⟨gFy,0,none⟩) 2 cFy] 41):=⟨_,rfl⟩;replace S7:Hid (AwS wf gd dA [(qg,bsg,g0x,[2],⟨gOg,cOg,.slice ALg 1 cLg,gDg,cDg,gTg,cTg,gFg,cFg,Rvg⟩),(qa,bsa,a0x,[2],⟨gOa,cOa,.slice ALa 1 cLa,gDa,cDa,gTa,cTa,gFa,cFa,Rva⟩),(qb,bsb,b0x,[2],⟨gOb,cOb,.slice ALb 1 cLb,gDb,cDb,gTb,cTb,gFb,cFb,Rvb⟩),(qx,bsx,(stepG 2 g0x 1),[2],⟨gOx,cOx,.slice ALx 1 cLx,gDx,cDx,gTx,cTx,gFx,cFx,Rvx⟩),(qy,bsy,(tickG 1 2 [] [2] a0x),[1],⟨gOy,cOy,.slice ALy 1 cLy,gDy,cDy,gTy,cTy,gFy,cFy,Rvy⟩)] w8):=Lib.hid (by rw[hw,hq];exact S7.out)
 have HQy:=Lib.hid hq;have HW8:=Lib.hid hw;clear hS hg hq hw d0 d1 a0 a1 a2 a3 a4 S6;go_upto_region 8 with fail;rw[<-HW8.out,<-HQy.out];have d0:=S7.out.dag.cell (j:=0) rfl;have d1:=S7.out.dag.cell (j:=1) rfl;have g0:w8.cell? ⟨qg,0,none⟩=some (.slice (some ⟨gOg,0,none⟩) 2 cOg):=(S7.out.gs _ _ _ _ _ (by simp):RowV qg _ _ _/\IsGng _ bsg 2 g0x [2] ⟨gOg,cOg,.slice ALg 1 cLg,gDg,cDg,gTg,cTg,gFg,cFg,Rvg⟩).1.cell (j:=0) rfl
 have g1:w8.cell? ⟨qg,1,none⟩=some (.slice ALg 1 cLg):=(S7.out.gs _ _ _ _ _ (by simp):RowV qg _ _ _/\IsGng _ bsg 2 g0x [2] ⟨gOg,cOg,.slice ALg 1 cLg,gDg,cDg,gTg,cTg,gFg,cFg,Rvg⟩).1.cell (j:=1) rfl
 have g2:w8.cell? ⟨qg,2,none⟩=some (.slice (some ⟨gDg,0,none⟩) 2 cDg):=(S7.out.gs _ _ _ _ _ (by simp):RowV qg _ _ _/\IsGng _ bsg 2 g0x [2] ⟨gOg,cOg,.slice ALg 1 cLg,gDg,cDg,gTg,cTg,gFg,cFg,Rvg⟩).1.cell (j:=2) rfl
 have g3:w8.cell? ⟨qg,3,none⟩=some (.slice (some ⟨gTg,0,none⟩) 2 cTg):=(S7.out.gs _ _ _ _ _ (by simp):RowV qg _ _ _/\IsGng _ bsg 2 g0x [2] ⟨gOg,cOg,.slice ALg 1 cLg,gDg,cDg,gTg,cTg,gFg,cFg,Rvg⟩).1.cell (j:=3) rfl
 have g4:w8.cell? ⟨qg,4,none⟩=some (.slice (some ⟨gFg,0,none⟩) 2 cFg):=(S7.out.gs _ _ _ _ _ (by simp):RowV qg _ _ _/\IsGng _ bsg 2 g0x [2] ⟨gOg,cOg,.slice ALg 1 cLg,gDg,cDg,gTg,cTg,gFg,cFg,Rvg⟩).1.cell (j:=4) rfl
 go_wp2_with fail;refine(aw_bad S7.out (S7.out.gs _ _ _ _ _ (by simp):RowV qg _ _ _/\IsGng _ bsg 2 g0x [2] ⟨gOg,cOg,.slice ALg 1 cLg,gDg,cDg,gTg,cTg,gFg,cFg,Rvg⟩).2).mono ?_
 rintro e w9 ⟨rfl,hS⟩;have S8:=Lib.hid (hS.next (below_alloc (.cells #[.slice none 0 0,.slice none 0 0,.slice none 0 0,.slice none 0 0,.slice none 0 0] 41)));obtain⟨w10,hw10⟩: ∃x,x=w9.alloc (.cells #[.slice none 0 0,.slice none 0 0,.slice none 0 0,.slice none 0 0,.slice none 0 0] 41):=⟨_,rfl⟩;rw[<-hw10]at S8;have S8w:=Lib.hid hS;have a0:w9.cell? ⟨qa,0,none⟩=some (.slice (some ⟨gOa,0,none⟩) 2 cOa):=(S8w.out.gs _ _ _ _ _ (by simp):RowV qa _ _ _/\IsGng _ bsa 2 a0x [2] ⟨gOa,cOa,.slice ALa 1 cLa,gDa,cDa,gTa,cTa,gFa,cFa,Rva⟩).1.cell (j:=0) rfl
 have alt:qa<w9.heap.size:=(S8w.out.gs _ _ _ _ _ (by simp):RowV qa _ _ _/\IsGng _ bsa 2 a0x [2] ⟨gOa,cOa,.slice ALa 1 cLa,gDa,cDa,gTa,cTa,gFa,cFa,Rva⟩).1.lt
 have alt2:qa<w9.heap.size+1:=by omega
 have HW10:=Lib.hid hw10;clear hS hw10 d0 d1 g0 g1 g2 g3 g4 S7
 try rw[<-HNA.out]
 go_wp2_with fail;rw[<-HW10.out]
 have hs10:w10.heap.size=w9.heap.size+1:=by rw[HW10.out];simp
 rw[<-hs10];clear a0 alt alt2 HW10 S8w hs10;refine(aw_ints (S8.out.next (below_alloc (.cells #[.int .i64 0,.int .i64 (-1)] 3))) (xs:=a0x.O) (ys:=[0,-1]) (by simp[ax_O]) rfl (by decide) ((OwnI.ints (show OwnI _ bsa (.slice (some ⟨gOa,0,none⟩) 2 cOa) a0x.O from(S8.out.gs _ _ _ _ _ (by simp):RowV qa _ _ _/\IsGng _ bsa 2 a0x [2] ⟨gOa,cOa,.slice ALa 1 cLa,gDa,cDa,gTa,cTa,gFa,cFa,Rva⟩).2.on)).below (below_alloc _) |>.more (by simp)) (ints_newS _ [0,-1]) ax_O).mono ?_
 rintro e w11 ⟨rfl,hS⟩;have S9:=Lib.hid hS;clear hS S8;have b0:w11.cell? ⟨qb,0,none⟩=some (.slice (some ⟨gOb,0,none⟩) 2 cOb):=(S9.out.gs _ _ _ _ _ (by simp):RowV qb _ _ _/\IsGng _ bsb 2 b0x [2] ⟨gOb,cOb,.slice ALb 1 cLb,gDb,cDb,gTb,cTb,gFb,cFb,Rvb⟩).1.cell (j:=0) rfl
 go_wp2_with fail;refine(aw_ints (S9.out.next (below_alloc (.cells #[.int .i64 (-1),.int .i64 0] 3))) (xs:=b0x.O) (ys:=[-1,0]) (by simp[bx_O]) rfl (by decide) ((OwnI.ints (show OwnI _ bsb (.slice (some ⟨gOb,0,none⟩) 2 cOb) b0x.O from(S9.out.gs _ _ _ _ _ (by simp):RowV qb _ _ _/\IsGng _ bsb 2 b0x [2] ⟨gOb,cOb,.slice ALb 1 cLb,gDb,cDb,gTb,cTb,gFb,cFb,Rvb⟩).2.on)).below (below_alloc _) |>.more (by simp)) (ints_newS _ [-1,0]) bx_O).mono ?_
 clear b0;rintro e w12 ⟨rfl,hS⟩;have S10:=Lib.hid hS;clear hS S9;have x2:w12.cell? ⟨qx,2,none⟩=some (.slice (some ⟨gDx,0,none⟩) 2 cDx):=(S10.out.gs _ _ _ _ _ (by simp):RowV qx _ _ _/\IsGng _ bsx 2 (stepG 2 g0x 1) [2] ⟨gOx,cOx,.slice ALx 1 cLx,gDx,cDx,gTx,cTx,gFx,cFx,Rvx⟩).1.cell (j:=2) rfl
 have x3:w12.cell? ⟨qx,3,none⟩=some (.slice (some ⟨gTx,0,none⟩) 2 cTx):=(S10.out.gs _ _ _ _ _ (by simp):RowV qx _ _ _/\IsGng _ bsx 2 (stepG 2 g0x 1) [2] ⟨gOx,cOx,.slice ALx 1 cLx,gDx,cDx,gTx,cTx,gFx,cFx,Rvx⟩).1.cell (j:=3) rfl
 have x7:w12.cell? ⟨gTx,7,none⟩=some (.int .i64 1):=(S10.out.gs _ _ _ _ _ (by simp):RowV qx _ _ _/\IsGng _ bsx 2 (stepG 2 g0x 1) [2] ⟨gOx,cOx,.slice ALx 1 cLx,gDx,cDx,gTx,cTx,gFx,cFx,Rvx⟩).2.tk (c:=1) (i:=1) (by decide) (by rw[<-xx_at];rfl)
 obtain⟨gLy,rfl⟩: ∃q,ALy=some ⟨q,0,none⟩:=by
  rcases(S10.out.gs _ _ _ _ _ (by simp):RowV qy _ _ _/\IsGng _ bsy 2 (tickG 1 2 [] [2] a0x) [1] ⟨gOy,cOy,.slice ALy 1 cLy,gDy,cDy,gTy,cTy,gFy,cFy,Rvy⟩).2.left.2 with⟨e,h⟩|⟨q,cap,cur,e,_⟩
  ·simp at h
  ·injection e with e1 _ _
   exact⟨q,e1⟩
 have y1:w12.cell? ⟨qy,1,none⟩=some (.slice (some ⟨gLy,0,none⟩) 1 cLy):=(S10.out.gs _ _ _ _ _ (by simp):RowV qy _ _ _/\IsGng _ bsy 2 (tickG 1 2 [] [2] a0x) [1] ⟨gOy,cOy,.slice (some ⟨gLy,0,none⟩) 1 cLy,gDy,cDy,gTy,cTy,gFy,cFy,Rvy⟩).1.cell (j:=1) rfl
 have y9:w12.cell? ⟨gLy,0,none⟩=some (.int .i64 1):=by
  have h:=OwnI.ints (show OwnI _ bsy (.slice (some ⟨gLy,0,none⟩) 1 cLy) [1]from(S10.out.gs _ _ _ _ _ (by simp):RowV qy _ _ _/\IsGng _ bsy 2 (tickG 1 2 [] [2] a0x) [1] ⟨gOy,cOy,.slice (some ⟨gLy,0,none⟩) 1 cLy,gDy,cDy,gTy,cTy,gFy,cFy,Rvy⟩).2.left)
  obtain⟨b,off,e,_,hc⟩:=h (by decide)
  injection e with e;injection e with e1 e2;subst e1 e2;exact hc 0 (by decide)
 have d0:=S10.out.dag.cell (j:=0) rfl;have d1:=S10.out.dag.cell (j:=1) rfl;have g0:w12.cell? ⟨qg,0,none⟩=some (.slice (some ⟨gOg,0,none⟩) 2 cOg):=(S10.out.gs _ _ _ _ _ (by simp):RowV qg _ _ _/\IsGng _ bsg 2 g0x [2] ⟨gOg,cOg,.slice ALg 1 cLg,gDg,cDg,gTg,cTg,gFg,cFg,Rvg⟩).1.cell (j:=0) rfl
 have g1:w12.cell? ⟨qg,1,none⟩=some (.slice ALg 1 cLg):=(S10.out.gs _ _ _ _ _ (by simp):RowV qg _ _ _/\IsGng _ bsg 2 g0x [2] ⟨gOg,cOg,.slice ALg 1 cLg,gDg,cDg,gTg,cTg,gFg,cFg,Rvg⟩).1.cell (j:=1) rfl
 have g2:w12.cell? ⟨qg,2,none⟩=some (.slice (some ⟨gDg,0,none⟩) 2 cDg):=(S10.out.gs _ _ _ _ _ (by simp):RowV qg _ _ _/\IsGng _ bsg 2 g0x [2] ⟨gOg,cOg,.slice ALg 1 cLg,gDg,cDg,gTg,cTg,gFg,cFg,Rvg⟩).1.cell (j:=2) rfl
 have g3:w12.cell? ⟨qg,3,none⟩=some (.slice (some ⟨gTg,0,none⟩) 2 cTg):=(S10.out.gs _ _ _ _ _ (by simp):RowV qg _ _ _/\IsGng _ bsg 2 g0x [2] ⟨gOg,cOg,.slice ALg 1 cLg,gDg,cDg,gTg,cTg,gFg,cFg,Rvg⟩).1.cell (j:=3) rfl
 have g4:w12.cell? ⟨qg,4,none⟩=some (.slice (some ⟨gFg,0,none⟩) 2 cFg):=(S10.out.gs _ _ _ _ _ (by simp):RowV qg _ _ _/\IsGng _ bsg 2 g0x [2] ⟨gOg,cOg,.slice ALg 1 cLg,gDg,cDg,gTg,cTg,gFg,cFg,Rvg⟩).1.cell (j:=4) rfl
 go_wp2_with fail;refine(aw_wants S10.out (S10.out.gs _ _ _ _ _ (by simp):RowV qg _ _ _/\IsGng _ bsg 2 g0x [2] ⟨gOg,cOg,.slice ALg 1 cLg,gDg,cDg,gTg,cTg,gFg,cFg,Rvg⟩).2).mono ?_
 rintro e w13 ⟨Aw,cw,rfl,hi,hS⟩;have S11:=Lib.hid hS;have HI11:=Lib.hid hi;clear hS hi x2 x3 x7 y1 y9 d0 d1 g0 g1 g2 g3 g4 S10;go_wp2_with fail;refine(aw_ints (S11.out.next (below_alloc (.cells #[.int .i64 0,.int .i64 1] 3))) (xs:=[0,1]) (ys:=[0,1]) rfl rfl (by decide) ((HI11.out.below (below_alloc _)).more (by simp)) (ints_newS _ [0,1]) rfl).mono ?_
 rintro e w14 ⟨rfl,hS⟩;have S12:=Lib.hid hS;clear hS S11 HI11;have d0:=S12.out.dag.cell (j:=0) rfl;have d1:=S12.out.dag.cell (j:=1) rfl;have y0:w14.cell? ⟨qy,0,none⟩=some (.slice (some ⟨gOy,0,none⟩) 2 cOy):=(S12.out.gs _ _ _ _ _ (by simp):RowV qy _ _ _/\IsGng _ bsy 2 (tickG 1 2 [] [2] a0x) [1] ⟨gOy,cOy,.slice (some ⟨gLy,0,none⟩) 1 cLy,gDy,cDy,gTy,cTy,gFy,cFy,Rvy⟩).1.cell (j:=0) rfl
 have y1:w14.cell? ⟨qy,1,none⟩=some (.slice (some ⟨gLy,0,none⟩) 1 cLy):=(S12.out.gs _ _ _ _ _ (by simp):RowV qy _ _ _/\IsGng _ bsy 2 (tickG 1 2 [] [2] a0x) [1] ⟨gOy,cOy,.slice (some ⟨gLy,0,none⟩) 1 cLy,gDy,cDy,gTy,cTy,gFy,cFy,Rvy⟩).1.cell (j:=1) rfl
 have y2:w14.cell? ⟨qy,2,none⟩=some (.slice (some ⟨gDy,0,none⟩) 2 cDy):=(S12.out.gs _ _ _ _ _ (by simp):RowV qy _ _ _/\IsGng _ bsy 2 (tickG 1 2 [] [2] a0x) [1] ⟨gOy,cOy,.slice (some ⟨gLy,0,none⟩) 1 cLy,gDy,cDy,gTy,cTy,gFy,cFy,Rvy⟩).1.cell (j:=2) rfl
 have y3:w14.cell? ⟨qy,3,none⟩=some (.slice (some ⟨gTy,0,none⟩) 2 cTy):=(S12.out.gs _ _ _ _ _ (by simp):RowV qy _ _ _/\IsGng _ bsy 2 (tickG 1 2 [] [2] a0x) [1] ⟨gOy,cOy,.slice (some ⟨gLy,0,none⟩) 1 cLy,gDy,cDy,gTy,cTy,gFy,cFy,Rvy⟩).1.cell (j:=3) rfl
 have y4:w14.cell? ⟨qy,4,none⟩=some (.slice (some ⟨gFy,0,none⟩) 2 cFy):=(S12.out.gs _ _ _ _ _ (by simp):RowV qy _ _ _/\IsGng _ bsy 2 (tickG 1 2 [] [2] a0x) [1] ⟨gOy,cOy,.slice (some ⟨gLy,0,none⟩) 1 cLy,gDy,cDy,gTy,cTy,gFy,cFy,Rvy⟩).1.cell (j:=4) rfl
 go_wp2_with fail;refine(aw_check S12.out (S12.out.gs _ _ _ _ _ (by simp):RowV qy _ _ _/\IsGng _ bsy 2 (tickG 1 2 [] [2] a0x) [1] ⟨gOy,cOy,.slice (some ⟨gLy,0,none⟩) 1 cLy,gDy,cDy,gTy,cTy,gFy,cFy,Rvy⟩).2).mono ?_
 rintro e w15 ⟨rfl,hS⟩;have S13:=Lib.hid hS;clear hS d0 d1 y0 y1 y2 y3 y4 S12;have g0:w15.cell? ⟨qg,0,none⟩=some (.slice (some ⟨gOg,0,none⟩) 2 cOg):=(S13.out.gs _ _ _ _ _ (by simp):RowV qg _ _ _/\IsGng _ bsg 2 g0x [2] ⟨gOg,cOg,.slice ALg 1 cLg,gDg,cDg,gTg,cTg,gFg,cFg,Rvg⟩).1.cell (j:=0) rfl
 have g1:w15.cell? ⟨qg,1,none⟩=some (.slice ALg 1 cLg):=(S13.out.gs _ _ _ _ _ (by simp):RowV qg _ _ _/\IsGng _ bsg 2 g0x [2] ⟨gOg,cOg,.slice ALg 1 cLg,gDg,cDg,gTg,cTg,gFg,cFg,Rvg⟩).1.cell (j:=1) rfl
 have g2:w15.cell? ⟨qg,2,none⟩=some (.slice (some ⟨gDg,0,none⟩) 2 cDg):=(S13.out.gs _ _ _ _ _ (by simp):RowV qg _ _ _/\IsGng _ bsg 2 g0x [2] ⟨gOg,cOg,.slice ALg 1 cLg,gDg,cDg,gTg,cTg,gFg,cFg,Rvg⟩).1.cell (j:=2) rfl
 have g3:w15.cell? ⟨qg,3,none⟩=some (.slice (some ⟨gTg,0,none⟩) 2 cTg):=(S13.out.gs _ _ _ _ _ (by simp):RowV qg _ _ _/\IsGng _ bsg 2 g0x [2] ⟨gOg,cOg,.slice ALg 1 cLg,gDg,cDg,gTg,cTg,gFg,cFg,Rvg⟩).1.cell (j:=3) rfl
 have g4:w15.cell? ⟨qg,4,none⟩=some (.slice (some ⟨gFg,0,none⟩) 2 cFg):=(S13.out.gs _ _ _ _ _ (by simp):RowV qg _ _ _/\IsGng _ bsg 2 g0x [2] ⟨gOg,cOg,.slice ALg 1 cLg,gDg,cDg,gTg,cTg,gFg,cFg,Rvg⟩).1.cell (j:=4) rfl
 go_wp2_with fail;refine(aw_same S13.out (S13.out.gs _ _ _ _ _ (by simp):RowV qg _ _ _/\IsGng _ bsg 2 g0x [2] ⟨gOg,cOg,.slice ALg 1 cLg,gDg,cDg,gTg,cTg,gFg,cFg,Rvg⟩).2).mono ?_
 rintro e w16 ⟨rfl,hS⟩;have S14:=Lib.hid hS;clear hS g0 g1 g2 g3 g4 S13;have g0:w16.cell? ⟨qg,0,none⟩=some (.slice (some ⟨gOg,0,none⟩) 2 cOg):=(S14.out.gs _ _ _ _ _ (by simp):RowV qg _ _ _/\IsGng _ bsg 2 g0x [2] ⟨gOg,cOg,.slice ALg 1 cLg,gDg,cDg,gTg,cTg,gFg,cFg,Rvg⟩).1.cell (j:=0) rfl
 have g1:w16.cell? ⟨qg,1,none⟩=some (.slice ALg 1 cLg):=(S14.out.gs _ _ _ _ _ (by simp):RowV qg _ _ _/\IsGng _ bsg 2 g0x [2] ⟨gOg,cOg,.slice ALg 1 cLg,gDg,cDg,gTg,cTg,gFg,cFg,Rvg⟩).1.cell (j:=1) rfl
 have g2:w16.cell? ⟨qg,2,none⟩=some (.slice (some ⟨gDg,0,none⟩) 2 cDg):=(S14.out.gs _ _ _ _ _ (by simp):RowV qg _ _ _/\IsGng _ bsg 2 g0x [2] ⟨gOg,cOg,.slice ALg 1 cLg,gDg,cDg,gTg,cTg,gFg,cFg,Rvg⟩).1.cell (j:=2) rfl
 have g3:w16.cell? ⟨qg,3,none⟩=some (.slice (some ⟨gTg,0,none⟩) 2 cTg):=(S14.out.gs _ _ _ _ _ (by simp):RowV qg _ _ _/\IsGng _ bsg 2 g0x [2] ⟨gOg,cOg,.slice ALg 1 cLg,gDg,cDg,gTg,cTg,gFg,cFg,Rvg⟩).1.cell (j:=3) rfl
 have g4:w16.cell? ⟨qg,4,none⟩=some (.slice (some ⟨gFg,0,none⟩) 2 cFg):=(S14.out.gs _ _ _ _ _ (by simp):RowV qg _ _ _/\IsGng _ bsg 2 g0x [2] ⟨gOg,cOg,.slice ALg 1 cLg,gDg,cDg,gTg,cTg,gFg,cFg,Rvg⟩).1.cell (j:=4) rfl
 have a0:w16.cell? ⟨qa,0,none⟩=some (.slice (some ⟨gOa,0,none⟩) 2 cOa):=(S14.out.gs _ _ _ _ _ (by simp):RowV qa _ _ _/\IsGng _ bsa 2 a0x [2] ⟨gOa,cOa,.slice ALa 1 cLa,gDa,cDa,gTa,cTa,gFa,cFa,Rva⟩).1.cell (j:=0) rfl
 have a1:w16.cell? ⟨qa,1,none⟩=some (.slice ALa 1 cLa):=(S14.out.gs _ _ _ _ _ (by simp):RowV qa _ _ _/\IsGng _ bsa 2 a0x [2] ⟨gOa,cOa,.slice ALa 1 cLa,gDa,cDa,gTa,cTa,gFa,cFa,Rva⟩).1.cell (j:=1) rfl
 have a2:w16.cell? ⟨qa,2,none⟩=some (.slice (some ⟨gDa,0,none⟩) 2 cDa):=(S14.out.gs _ _ _ _ _ (by simp):RowV qa _ _ _/\IsGng _ bsa 2 a0x [2] ⟨gOa,cOa,.slice ALa 1 cLa,gDa,cDa,gTa,cTa,gFa,cFa,Rva⟩).1.cell (j:=2) rfl
 have a3:w16.cell? ⟨qa,3,none⟩=some (.slice (some ⟨gTa,0,none⟩) 2 cTa):=(S14.out.gs _ _ _ _ _ (by simp):RowV qa _ _ _/\IsGng _ bsa 2 a0x [2] ⟨gOa,cOa,.slice ALa 1 cLa,gDa,cDa,gTa,cTa,gFa,cFa,Rva⟩).1.cell (j:=3) rfl
 have a4:w16.cell? ⟨qa,4,none⟩=some (.slice (some ⟨gFa,0,none⟩) 2 cFa):=(S14.out.gs _ _ _ _ _ (by simp):RowV qa _ _ _/\IsGng _ bsa 2 a0x [2] ⟨gOa,cOa,.slice ALa 1 cLa,gDa,cDa,gTa,cTa,gFa,cFa,Rva⟩).1.cell (j:=4) rfl
 go_wp2_with fail;refine(aw_not S14.out (S14.out.gs _ _ _ _ _ (by simp):RowV qg _ _ _/\IsGng _ bsg 2 g0x [2] ⟨gOg,cOg,.slice ALg 1 cLg,gDg,cDg,gTg,cTg,gFg,cFg,Rvg⟩).2 (S14.out.gs _ _ _ _ _ (by simp):RowV qa _ _ _/\IsGng _ bsa 2 a0x [2] ⟨gOa,cOa,.slice ALa 1 cLa,gDa,cDa,gTa,cTa,gFa,cFa,Rva⟩).2).mono ?_
 rintro e w17 ⟨rfl,hS⟩;have S15:=Lib.hid hS;clear hS g0 g1 g2 g3 g4 a0 a1 a2 a3 a4 S14;go_wp2_with fail;go_ret;exact⟨rfl,S15.out.bel⟩
end Go.Proofs.YtngdbbligebcbabGreatDoor
