import Derived.Test.YtlfekmbalgkmeaaGreatDoorZM3
import Derived.Deep.RegionWith
import Derived.Laws.StructEq
import Derived.Test.YtlfekmbalgkmeaaGreatDoorZM2
import Derived.Test.YtlfekmbalgkmeaaGreatDoorChecked
import Derived.Test.YtlfekmbalgkmeaaGreatDoorZM1
import Derived.KernelRfl
import Derived.WalkKit
import Derived.WalkSmall
import Derived.Handy
import Derived.Lib.Hide
import Derived.Below
import Derived.BigQuiet
import Derived.Deep.QuietTactic
set_option linter.unusedSimpArgs false
set_option linter.unnecessarySimpa false
set_option linter.unusedVariables false
set_option maxRecDepth 100000
set_option maxHeartbeats 16000000
namespace Go.Proofs.YtlfekmbalgkmeaaGreatDoor
open Go Go.RowKit
theorem task_light(s:Shp)(w:World)(h:s.t<=s.d):Calls Tryz.prog 52 #[s.val] w
  fun e w'=>e= .returned (.iface 84 s.val)/\Below w.heap.size w w':=by
 obtain⟨t,l,m,d,p⟩:=s;unfold Shp.val;dsimp only at h⊢;go_enter Tryz.func52,Tryz.ntmps52;go_wp2
 go_returns
 exact⟨rfl,below_alloc _⟩
theorem task_heavy(s:Shp)(w:World)(h:s.d<s.t):Calls Tryz.prog 52 #[s.val] w
  fun e w'=>e= .returned (.iface 112 s.val)/\Below w.heap.size w w':=by
 obtain⟨t,l,m,d,p⟩:=s;unfold Shp.val;dsimp only at h⊢;go_enter Tryz.func52,Tryz.ntmps52;go_wp2
 go_returns
 exact⟨rfl,below_alloc _⟩
theorem told_fields:(Tryz.prog.fieldsOf 79).toList.map (fun f=>(f.name,f.type,f.offset))= [("cores",3,0),("fault",29,1)]:=by kernel_rfl
theorem told_part(x y:Int)(W:World):(part 3 #[.int .i64 x,.int .i64 y] 0).run Tryz.prog W= .ok (.int .i64 x) W/\(part 29 #[.int .i64 x,.int .i64 y] 1).run Tryz.prog W= .ok (.int .i64 y) W:=⟨by kernel_rfl,by kernel_rfl⟩
theorem told_eq(x y u v:Int)(W:World):(Op.equalIn 10000 79 (.agg #[.int .i64 x, .int .i64 y]) (.agg #[.int .i64 u, .int .i64 v])).run Tryz.prog W= .ok (x==u&&y==v) W:=by
  have hf:=told_fields;rw[run_equalIn_agg (d:=9999) W 79 _ _ (by kernel_rfl) (by kernel_rfl)]
  generalize (Tryz.prog.fieldsOf 79).toList=fs at hf
  match fs,hf with
  | [],hf=>simp at hf
  | [_],hf=>simp at hf
  |_::_::_::_,hf=>simp at hf
  | [f, g], hf =>
    simp only[List.map_cons,List.map_nil,List.cons.injEq,Prod.mk.injEq,and_true]at hf;obtain⟨⟨n1,t1,o1⟩,n2,t2,o2⟩:=hf;have e1:=fun a b W=>run_equalIn_int (P:=Tryz.prog) W 9998 3 .i64 .i64 a b Tryz.underlying3
    have e2:=fun a b W=>run_equalIn_int (P:=Tryz.prog) W 9998 29 .i64 .i64 a b Tryz.underlying29
    have p1:=fun a b W=>(told_part a b W).1
    have p2:=fun a b W=>(told_part a b W).2
    simp only[Op.eqFields,n1,n2,t1,t2,o1,o2]
    by_cases h1:x=u
    · subst h1
      by_cases h2:y=v
      · simp[p1,p2,e1,e2,h2]
      · simp[p1,p2,e1,e2,h2]
    · simp[p1,p2,e1,e2,h1]
theorem told_neq(x y u v:Int)(W:World):(binOp .neq 79 (toldV x y) (toldV u v)).run Tryz.prog W= .ok (.bool (!(x==u&&y==v))) W:=by
 unfold toldV;rw[run_neq_struct,told_eq];rfl
theorem told_guard(o1 o2:Operand)(x y u v:Int)(W:World):(eqGuard .neq 79 o1 o2 (toldV x y) (toldV u v)).run Tryz.prog W= .ok () W:=by
 unfold toldV;exact run_eqGuard_agg W .neq _ o1 o2 _ _ (by kernel_rfl)
theorem coresH_ways{s:Shp}(h:s.Ok)(hd:s.d<s.t):(coresH s=0/\faultH s=141)\/(coresH s=0/\faultH s=142)\/(∃n,coresH s=n/\faultH s=0/\2<=n/\n<=8):=by
 unfold coresH faultH
 by_cases hl:s.d<=s.l
 ·rw[if_pos hl,if_pos hl];exact .inl ⟨rfl,rfl⟩
 ·have:=many_spec h hd (by omega)
  rw[if_neg hl,if_neg hl]
  by_cases h8:8<manyS s
  ·rw[if_pos h8,if_pos h8];exact .inr (.inl ⟨rfl,rfl⟩)
  ·rw[if_neg h8,if_neg h8];exact .inr (.inr ⟨_,rfl,rfl,by omega,by omega⟩)
theorem shp_cells{w W:World}{s:Shp}{L:List (TypeId×List Value)}(B:Rwk w ((44,[.int .i64 s.t,.int .i64 s.l,.int .i64 s.m,.int .i64 s.d,.int .i64 s.p])::L) W):
  (W.cell? ⟨w.heap.size,0,none⟩=some (.int .i64 s.t)/\W.cell? ⟨w.heap.size,1,none⟩=some (.int .i64 s.l))/\W.cell? ⟨w.heap.size,2,none⟩=some (.int .i64 s.m)/\W.cell? ⟨w.heap.size,3,none⟩=some (.int .i64 s.d)/\W.cell? ⟨w.heap.size,4,none⟩=some (.int .i64 s.p):=
 ⟨⟨B.cell 0 0 rfl rfl,B.cell 0 1 rfl rfl⟩,B.cell 0 2 rfl rfl,B.cell 0 3 rfl rfl,B.cell 0 4 rfl rfl⟩
theorem cheavy_any(s:Shp)(w:World)(hT:DTab w):Calls Tryz.prog 25 #[s.val] w
  fun e w'=>e= .returned (.bool (heavyS s))/\Below w.heap.size w w':=by
 have TT:=Lib.hid (fun W (b:Below w.heap.size w W)=>(clcheck_any s W (hT.via b)))
 clear hT
 by_cases hs:s.Ok
 ·rw [chkS_ok hs] at TT
  by_cases hd:s.d<s.t
  ·have e0: heavyS s = true:=decide_eq_true ⟨hs,hd⟩
   have K1:=Lib.hid (fun W=>task_heavy s W hd)
   have K2:=Lib.hid (fun W=>heavy_any s W hs hd)
   have K3:=Lib.hid (fun W=>light_any s W)
   have hw:=coresH_ways hs hd;rw[e0];obtain⟨x,hx⟩: ∃x,x=coresH s:=⟨_,rfl⟩;obtain⟨y,hy⟩: ∃x,x=faultH s:=⟨_,rfl⟩;rw[<-hx,<-hy]at hw K2;have hxy: ¬(x=1/\y=0):=by
    rcases hw with⟨rfl,rfl⟩|⟨rfl,rfl⟩|⟨n,rfl,rfl,h2,-⟩<;>omega
   have NE: ∀W,(binOp .neq 79 (toldV x y) (toldV 1 0)).run Tryz.prog W= .ok (.bool true) W:=fun W=>by
    have h1:(!(x==1&&y==0))=true:=by
     by_cases q:x=1
     ·have q2: ¬ y = 0:=fun h => hxy ⟨q,h⟩
      simp[q2]
     ·simp[q]
    rw[told_neq,h1]
   have NG: ∀W o1 o2,(eqGuard .neq 79 o1 o2 (toldV x y) (toldV 1 0)).run Tryz.prog W= .ok () W:=fun W o1 o2=>told_guard o1 o2 x y 1 0 W
   clear hw hx hy e0 hs hd hxy;have B:=Lib.hid (Rwk.start w [(44,[.int .i64 s.t,.int .i64 s.l,.int .i64 s.m,.int .i64 s.d,.int .i64 s.p])]);obtain⟨t,l,m,d,p⟩:=s;unfold Shp.val at TT K1 K2 K3⊢;dsimp only at TT K1 K2 K3 B⊢;go_enter Tryz.func25,Tryz.ntmps25;go_wp2_with fail;refine(TT.out _ B.out.bel).mono ?_
   rintro e w1 ⟨rfl,b⟩;have B:=Lib.hid (B.out.next b);clear b;obtain⟨⟨c0,c1⟩,c2,c3,c4⟩:=shp_cells (s:=⟨t,l,m,d,p⟩) B.out;dsimp only at c0 c1 c2 c3 c4;go_wp2_with fail;have B:=Lib.hid (B.out.next ((Below.refl _ _).drew))
   go_region_with (first
    |(go_at_call 52;refine(K1.out _).mono ?_;rintro e w2 ⟨rfl,b⟩;have B:=Lib.hid (B.out.next b);clear b;obtain⟨⟨c0,c1⟩,c2,c3,c4⟩:=shp_cells (s:=⟨t,l,m,d,p⟩) B.out;dsimp only at c0 c1 c2 c3 c4)
    |(go_at_call 218;refine(K2.out _).mono ?_;rintro e w2 ⟨rfl,b⟩;have B:=Lib.hid (B.out.next b);clear b;obtain⟨⟨c0,c1⟩,c2,c3,c4⟩:=shp_cells (s:=⟨t,l,m,d,p⟩) B.out;dsimp only at c0 c1 c2 c3 c4)
    |(go_at_call 53;refine(K3.out _).mono ?_;rintro e w2 ⟨rfl,b⟩;have B:=Lib.hid (B.out.next b);clear b;obtain⟨⟨c0,c1⟩,c2,c3,c4⟩:=shp_cells (s:=⟨t,l,m,d,p⟩) B.out;dsimp only at c0 c1 c2 c3 c4))
   all_goals
    go_wp2;go_ret
    exact⟨rfl,B.out.bel⟩
  ·have e0: heavyS s = false:=decide_eq_false fun q => hd q.2
   have K1:=Lib.hid (fun W=>task_light s W (by omega))
   have K3:=Lib.hid (fun W=>light_any s W)
   rw[e0];have NE: ∀W,(binOp .neq 79 (toldV 1 0) (toldV 1 0)).run Tryz.prog W= .ok (.bool false) W:=fun W=>by
    rw[told_neq];rfl
   have NG: ∀W o1 o2,(eqGuard .neq 79 o1 o2 (toldV 1 0) (toldV 1 0)).run Tryz.prog W= .ok () W:=fun W o1 o2=>told_guard o1 o2 1 0 1 0 W
   clear e0 hs hd;have B:=Lib.hid (Rwk.start w [(44,[.int .i64 s.t,.int .i64 s.l,.int .i64 s.m,.int .i64 s.d,.int .i64 s.p])]);obtain⟨t,l,m,d,p⟩:=s;unfold Shp.val at TT K1 K3⊢;dsimp only at TT K1 K3 B⊢;go_enter Tryz.func25,Tryz.ntmps25;go_wp2_with fail;refine(TT.out _ B.out.bel).mono ?_
   rintro e w1 ⟨rfl,b⟩;have B:=Lib.hid (B.out.next b);clear b;obtain⟨⟨c0,c1⟩,c2,c3,c4⟩:=shp_cells (s:=⟨t,l,m,d,p⟩) B.out;dsimp only at c0 c1 c2 c3 c4;go_wp2_with fail;have B:=Lib.hid (B.out.next ((Below.refl _ _).drew))
   go_region_with (first
    |(go_at_call 52;refine(K1.out _).mono ?_;rintro e w2 ⟨rfl,b⟩;have B:=Lib.hid (B.out.next b);clear b;obtain⟨⟨c0,c1⟩,c2,c3,c4⟩:=shp_cells (s:=⟨t,l,m,d,p⟩) B.out;dsimp only at c0 c1 c2 c3 c4)
    |(go_at_call 53;refine(K3.out _).mono ?_;rintro e w2 ⟨rfl,b⟩;have B:=Lib.hid (B.out.next b);clear b;obtain⟨⟨c0,c1⟩,c2,c3,c4⟩:=shp_cells (s:=⟨t,l,m,d,p⟩) B.out;dsimp only at c0 c1 c2 c3 c4))
   all_goals
    go_wp2;go_ret
    exact⟨rfl,B.out.bel⟩
 ·rw [chkS_no hs] at TT
  have e0:heavyS s=false:=decide_eq_false fun q=>hs q.1
  rw[e0];clear e0 hs;have B:=Lib.hid (Rwk.start w [(44,[.int .i64 s.t,.int .i64 s.l,.int .i64 s.m,.int .i64 s.d,.int .i64 s.p])]);obtain⟨t,l,m,d,p⟩:=s;unfold Shp.val at TT⊢;dsimp only at TT B⊢;go_enter Tryz.func25,Tryz.ntmps25;go_wp2_with fail;refine(TT.out _ B.out.bel).mono ?_
  rintro e w1 ⟨rfl,b⟩;have B:=Lib.hid (B.out.next b);clear b;go_wp2;go_ret;exact⟨rfl,B.out.bel⟩
theorem tdiv_pos{a b:Int}(ha:0<=a):a.tdiv b=a/b:=Int.tdiv_eq_ediv_of_nonneg ha
theorem demand1_any(s:Shp)(t:Int)(q:Nat)(w:World)(hs:LightS s)(h0:0<=t)(h1:t<=1099511631872)(hc:w.cell? ⟨q,0,none⟩=some (.int .i64 t)):
  Calls Tryz.prog 84 #[s.val,.pointer (some ⟨q,0,none⟩)] w fun e w'=>e= .returned (.int .i64 (dem1 t s))/\Below w.heap.size w w':=by
 have hq:=World.block_lt_of_cell? _ _ hc
 have hle:=dem1_le hs h0;obtain⟨n1,n2,n3,n4,n5,n6,n7⟩:=hs.nums
 by_cases hd:t<s.d
 ·rw [dem1_low hd]
  obtain⟨st,sl,sm,sd,sp⟩:=s;unfold Shp.val;dsimp only at hd n1 n2 n3 n4 n5 n6 n7⊢;clear hs hle;go_enter Tryz.func84,Tryz.ntmps84;go_wp2;go_ret;exact⟨rfl,below_alloc _⟩
 ·rw [dem1_high hd] at hle ⊢
  obtain⟨z,hz⟩: ∃z,z=(t - s.d)/s.p:=⟨_,rfl⟩;have z0:0<=z:=by rw[hz];exact Int.ediv_nonneg (by omega) (by omega)
  have z1:z<=t - s.d:=by rw[hz];exact Int.ediv_le_self _ (by omega)
  have hz2:(t - s.d).tdiv s.p=z:=by rw[tdiv_pos (by omega),hz]
  rw[<-hz]at hle⊢;obtain⟨y,hy⟩: ∃y,y=s.t * (1+z):=⟨_,rfl⟩;rw[<-hy]at hle⊢;have hy2:s.t * (1+z)=y:=hy.symm;obtain⟨y0,y1,-⟩:=hle;obtain⟨st,sl,sm,sd,sp⟩:=s;unfold Shp.val;dsimp only at hd n1 n2 n3 n4 n5 n6 n7 z1 hz2 hy2⊢;have hsp:sp≠0:=by omega
  have hsp2: ¬sp=0:=by omega
  have hsp3:(sp==0)=false:=by simpa using hsp2
  clear hs hz hy;go_enter Tryz.func84,Tryz.ntmps84;go_wp2_with fail
  go_quiet (fail)
  go_wp2;go_ret
  exact⟨rfl,below_drewN (below_alloc _) _⟩
theorem block1_any(s:Shp)(t:Int)(q:Nat)(w:World)(hc:w.cell? ⟨q,0,none⟩=some (.int .i64 t)):
  Calls Tryz.prog 86 #[s.val,.pointer (some ⟨q,0,none⟩)] w fun e w'=>e= .returned (.int .i64 (blk1 t s))/\Below w.heap.size w w':=by
 have hq:=World.block_lt_of_cell? _ _ hc
 unfold blk1;obtain⟨st,sl,sm,sd,sp⟩:=s;unfold Shp.val;dsimp only
 by_cases hd:sd<=t
 ·rw [if_pos hd]
  go_enter Tryz.func86,Tryz.ntmps86;go_wp2;go_ret;exact⟨rfl,below_alloc _⟩
 ·rw [if_neg hd]
  go_enter Tryz.func86,Tryz.ntmps86;go_wp2;go_ret;exact⟨rfl,below_alloc _⟩
theorem horizon1_any(s:Shp)(w:World):
  Calls Tryz.prog 131 #[s.val] w fun e w'=>e= .returned (.int .i64 s.p)/\Below w.heap.size w w':=by
 obtain⟨st,sl,sm,sd,sp⟩:=s;unfold Shp.val;dsimp only;go_enter Tryz.func131,Tryz.ntmps131;go_wp2;go_ret;exact⟨rfl,below_alloc _⟩
theorem check1_any(s:Shp)(w:World)(hT:DTab w):
  Calls Tryz.prog 101 #[s.val] w fun e w'=>e= .returned (.bool (!decide (LightS s)))/\Below w.heap.size w w':=by
 have K1:=Lib.hid (fun W (b:Below w.heap.size w W)=>clcheck_any s W (hT.via b))
 have K2:=Lib.hid (fun W (b:Below w.heap.size w W)=>cheavy_any s W (hT.via b))
 have B:=Lib.hid (Rwk.start w [(44,[.int .i64 s.t,.int .i64 s.l,.int .i64 s.m,.int .i64 s.d,.int .i64 s.p])]);clear hT
 by_cases hs:s.Ok
 ·rw [chkS_ok hs] at K1
  obtain⟨r,hr⟩: ∃r,r=heavyS s:=⟨_,rfl⟩;have he:(!decide (LightS s))=r:=by
   rw[hr];unfold heavyS LightS
   by_cases hd:s.d<s.t
   ·rw[decide_eq_true (⟨hs,hd⟩:s.Ok/\s.d<s.t),decide_eq_false (fun q:s.Ok/\s.t<=s.d=>by omega)];rfl
   ·rw[decide_eq_false (fun q:s.Ok/\s.d<s.t=>hd q.2),decide_eq_true (⟨hs,by omega⟩:s.Ok/\s.t<=s.d)];rfl
  rw[he];rw[<-hr]at K2;clear he hr hs;obtain⟨st,sl,sm,sd,sp⟩:=s;unfold Shp.val at K1 K2⊢;dsimp only at K1 K2 B⊢;go_enter Tryz.func101,Tryz.ntmps101;go_wp2_with fail;refine(K1.out _ B.out.bel).mono ?_
  rintro e w1 ⟨rfl,b⟩;have B:=Lib.hid (B.out.next b);clear b;obtain⟨⟨c0,c1⟩,c2,c3,c4⟩:=shp_cells (s:=⟨st,sl,sm,sd,sp⟩) B.out;dsimp only at c0 c1 c2 c3 c4;go_wp2_with fail;refine(K2.out _ B.out.bel).mono ?_
  rintro e w2 ⟨rfl,b⟩;have B:=Lib.hid (B.out.next b);clear b c0 c1 c2 c3 c4;go_wp2;go_ret;exact⟨rfl,B.out.bel⟩
 ·rw [chkS_no hs] at K1
  have he:(!decide (LightS s))=true:=by rw[decide_eq_false (fun q:LightS s=>hs q.1)];rfl
  rw[he];clear he hs K2;obtain⟨st,sl,sm,sd,sp⟩:=s;unfold Shp.val at K1⊢;dsimp only at K1 B⊢;go_enter Tryz.func101,Tryz.ntmps101;go_wp2_with fail;refine(K1.out _ B.out.bel).mono ?_
  rintro e w1 ⟨rfl,b⟩;have B:=Lib.hid (B.out.next b);clear b;go_wp2;go_ret;exact⟨rfl,B.out.bel⟩
section
variable {A: Option Addr} {n c: Nat} {es: List Shp}
theorem echeck_any(w:World)(hT:DTab w)(hn:es.length=n)(hl:n<=1000)(hS:Shps w w.heap.size A es):
    Calls Tryz.prog 82 #[.slice A n c] w fun e w'=>e= .returned (.int .i64 (chkEd es))/\Below w.heap.size w w':=by
  by_cases h8:n<=8
  · obtain⟨r,hr⟩: ∃r:Bool,r= !decide (MayE es):=⟨_,rfl⟩;have C:=Lib.hid (fun W (b:Below w.heap.size w W)=>has_shape A c n es 101 #[] (eg_of Tryz.func101 (by kernel_rfl) rfl) (fun s=> !decide (LightS s)) W hn hl (hS.via b)
      (fun s W' _ b'=>check1_any s W' ((hT.via b).via b')) r (by
        rw[hr];unfold MayE;constructor
        · intro h;have h2: ¬(es.length<=8/\ ∀s∈es,LightS s):=by
            have h':decide (es.length<=8/\ ∀s∈es,LightS s)=false:=by simpa only[Bool.not_eq_true']using h
            exact of_decide_eq_false h'
          have h3: ¬ ∀s∈es,LightS s:=fun q=>h2 ⟨by omega,q⟩
          rw[Classical.not_forall]at h3;obtain⟨s,h3⟩:=h3;rw[Classical.not_imp]at h3;exact⟨s,h3.1,by simp[h3.2]⟩
        · rintro⟨s,hs,h⟩;have h': ¬LightS s:=by simpa using h
          have: ¬(es.length<=8/\ ∀s∈es,LightS s):=fun q=>h' (q.2 s hs)
          rw[decide_eq_false this];rfl))
    have he:chkEd es=if r then 150 else 0:=by
      rw[hr];unfold chkEd
      by_cases hm:MayE es
      · simp[hm]
      · simp[hm]
    rw[he];have C:=Lib.hid (C.out w (Below.refl _ _));clear hS hT hr he hn hl;cases r with
    | true =>
      simp only[if_true]at C⊢;go_enter Tryz.func82,Tryz.ntmps82;go_wp2_with fail;refine C.out.mono ?_
      rintro e w1 ⟨rfl,b⟩;have B:=Lib.hid b;clear b;go_wp2;go_ret;exact⟨rfl,B.out⟩
    | false =>
      go_enter Tryz.func82,Tryz.ntmps82;go_wp2_with fail;refine C.out.mono ?_
      rintro e w1 ⟨rfl,b⟩;have B:=Lib.hid b;clear b;go_wp2;go_ret;exact⟨rfl,B.out⟩
  · rw[chkEd_no fun q=>by have:=q.1;omega]
    clear hS hT;go_enter Tryz.func82,Tryz.ntmps82;go_wp2;go_ret;exact⟨rfl,Below.refl _ _⟩
theorem sum_dem{es:List Shp}{t:Int}(hM:MayE es)(h0:0<=t)(h1:t<=1099511631872): ∀k,-4611686018427387904<=sumE (dem1 t) (es.take k)/\sumE (dem1 t) (es.take k)<=4611686018427387904:=fun k=>by
 have:=demE_le (hM.take k) h0;unfold demE at this;omega
theorem edem_any(t:Int)(w:World)(hn:es.length=n)(hS:Shps w w.heap.size A es)(hM:MayE es)(h0:0<=t)(h1:t<=1099511631872):
  Calls Tryz.prog 55 #[.slice A n c,.int .i64 t] w fun e w'=>e= .returned (.int .i64 (demE es t))/\Below w.heap.size w w':=by
 obtain⟨w1,hw1⟩: ∃w1,w1=w.alloc (.cells #[.int .i64 t] 3):=⟨_,rfl⟩;have b1:Below w.heap.size w w1:=by rw[hw1];exact below_alloc _
 have hc:w1.cell? ⟨w.heap.size,0,none⟩=some (.int .i64 t):=by rw[hw1];exact(RowV.new w 3 [.int .i64 t]).cell (j:=0) rfl
 have hq:w.heap.size<w1.heap.size:=by rw[hw1];simp
 have C:=Lib.hid (esum_any A c n es 84 #[.pointer (some ⟨w.heap.size,0,none⟩)] (eg_of Tryz.func84 (by kernel_rfl) rfl) (dem1 t) w1 hn (by have:=hM.1;omega) (hS.via b1)
  (fun s W hs b=>demand1_any s t _ W (hM.2 s hs) h0 h1 ((b.cell hq).trans hc)) (sum_dem hM h0 h1))
 have B:=Lib.hid b1;unfold demE;rw[hw1]at C;have HW:=Lib.hid hw1;clear hS hM hc hq b1 hw1 hn;go_enter Tryz.func55,Tryz.ntmps55;go_wp2_with fail;refine C.out.mono ?_
 rintro e w2 ⟨rfl,b⟩;rw[<-HW.out]at b;have B2:=Lib.hid (B.out.trans (b.mono B.out.size));clear b;go_wp2;go_ret;exact⟨rfl,B2.out⟩
theorem eblk_any(t:Int)(w:World)(hn:es.length=n)(hl:n<=1000)(hS:Shps w w.heap.size A es):
  Calls Tryz.prog 56 #[.slice A n c,.int .i64 t] w fun e w'=>e= .returned (.int .i64 (blkE es t))/\Below w.heap.size w w':=by
 obtain⟨w1,hw1⟩: ∃w1,w1=w.alloc (.cells #[.int .i64 t] 3):=⟨_,rfl⟩;have b1:Below w.heap.size w w1:=by rw[hw1];exact below_alloc _
 have hc:w1.cell? ⟨w.heap.size,0,none⟩=some (.int .i64 t):=by rw[hw1];exact(RowV.new w 3 [.int .i64 t]).cell (j:=0) rfl
 have hq:w.heap.size<w1.heap.size:=by rw[hw1];simp
 have C:=Lib.hid (egreat_any A c n es 86 #[.pointer (some ⟨w.heap.size,0,none⟩)] (eg_of Tryz.func86 (by kernel_rfl) rfl) (blk1 t) w1 hn hl (hS.via b1)
  (fun s W hs b=>block1_any s t _ W ((b.cell hq).trans hc)))
 have B:=Lib.hid b1;unfold blkE;rw[hw1]at C;have HW:=Lib.hid hw1;clear hS hc hq b1 hw1 hn;go_enter Tryz.func56,Tryz.ntmps56;go_wp2_with fail;refine C.out.mono ?_
 rintro e w2 ⟨rfl,b⟩;rw[<-HW.out]at b;have B2:=Lib.hid (B.out.trans (b.mono B.out.size));clear b;go_wp2;go_ret;exact⟨rfl,B2.out⟩
theorem ehor_any(w:World)(hT:DTab w)(hn:es.length=n)(hl:n<=1000)(hS:Shps w w.heap.size A es):
  Calls Tryz.prog 98 #[.slice A n c] w fun e w'=>e= .returned (.int .i64 (horE es))/\Below w.heap.size w w':=by
 have K:=Lib.hid (echeck_any (c:=c) w hT hn hl hS);unfold horE
 by_cases hM:MayE es
 ·rw [if_pos hM]
  rw[chkEd_ok hM]at K;have C:=Lib.hid (fun W (b:Below w.heap.size w W)=>egreat_any A c n es 131 #[] (eg_of Tryz.func131 (by kernel_rfl) rfl) Shp.p W hn hl (hS.via b) (fun s W' _ _=>horizon1_any s W'))
  clear hS hT hn hl hM;go_enter Tryz.func98,Tryz.ntmps98;go_wp2_with fail;refine K.out.mono ?_
  rintro e w1 ⟨rfl,b⟩;have B:=Lib.hid b;clear b;go_wp2_with fail;refine(C.out _ B.out).mono ?_
  rintro e w2 ⟨rfl,b⟩;have B:=Lib.hid (B.out.trans (b.mono B.out.size));clear b;go_wp2;go_ret;exact⟨rfl,B.out⟩
 ·rw [if_neg hM]
  rw[chkEd_no hM]at K;clear hS hT hn hl hM;go_enter Tryz.func98,Tryz.ntmps98;go_wp2_with fail;refine K.out.mono ?_
  rintro e w1 ⟨rfl,b⟩;have B:=Lib.hid b;clear b;go_wp2;go_ret;exact⟨rfl,B.out⟩
end
end Go.Proofs.YtlfekmbalgkmeaaGreatDoor
namespace Go.Proofs.YtlfekmbalgkmeaaGreatDoor
open Go.RowKit
theorem rtwo_yes(k:Nat)(hk:k<40)(w:World):
  Calls Tryz.prog 78 #[.int .i64 ((2^k:Nat):Int)] w fun e w'=>e= .returned (.tuple #[.int .i64 k,.bool true])/\w=w':=by
 obtain⟨x,hx⟩: ∃x,x=2^k:=⟨_,rfl⟩;rw[<-hx];have HX:=Lib.hid hx;clear hx;go_enter Tryz.func78,Tryz.ntmps78;go_wp2;go_loop [4,5] (fun p i=> ∃j P:Nat,j<=k/\P<=549755813888/\Hid (P=2^j)/\i= .int .i64 j/\p= .int .i64 P) (fun _ i=>k - (intOf i).toNat)
 case atStart=>exact⟨0,1,by omega,by omega,Lib.hid rfl,rfl,rfl⟩
 case round=>
  obtain⟨j,P,hj,hP,hpow,rfl,rfl⟩:=hrel
  by_cases hjk:j=k
  ·have hb: ((P: Int) == (x: Int)) = true:=by rw [beq_iff_eq,hpow.out,HX.out,hjk]
   subst hjk;go_wp2;go_ret2;exact⟨rfl,rfl⟩
  ·have hlt: 2 ^ j < 2 ^ k:=Nat.pow_lt_pow_right (by omega) (by omega)
   have hle:2^(j+1)<=2^39:=Nat.pow_le_pow_right (by omega) (by omega)
   rw[Nat.pow_succ]at hle;rw[<-hpow.out,<-HX.out]at hlt;rw[<-hpow.out]at hle;have hb:((P:Int)==(x:Int))=false:=by rw[beq_eq_false_iff_ne];omega
   have hle':P * 2<=549755813888:=hle;clear hle hlt;go_wp2;go_round
   case rel=>exact⟨j+1,2 * P,by omega,by omega,Lib.hid (by rw[Nat.pow_succ,<-hpow.out,Nat.mul_comm]),by go_num,by go_num⟩
   case measure=>simp[intOf];omega
theorem rtwo_no(n:Int)(w:World)(h: ∀k:Nat,k<40->n≠((2^k:Nat):Int)):
  Calls Tryz.prog 78 #[.int .i64 n] w fun e w'=>e= .returned (.tuple #[.int .i64 0,.bool false])/\w=w':=by
 have H:=Lib.hid h;clear h;go_enter Tryz.func78,Tryz.ntmps78;go_wp2;go_loop [4,5] (fun p i=> ∃j P:Nat,j<=40/\P<=1099511627776/\Hid (P=2^j)/\i= .int .i64 j/\p= .int .i64 P) (fun _ i=>40 - (intOf i).toNat)
 case atStart=>exact⟨0,1,by omega,by omega,Lib.hid rfl,rfl,rfl⟩
 case round=>
  obtain⟨j,P,hj,hP,hpow,rfl,rfl⟩:=hrel
  by_cases hjk:j<40
  ·have hne:=H.out j hjk
   rw[<-hpow.out]at hne;have hle:2^(j+1)<=2^40:=Nat.pow_le_pow_right (by omega) (by omega)
   rw[Nat.pow_succ,<-hpow.out]at hle;have hb:((P:Int)==n)=false:=by rw[beq_eq_false_iff_ne];omega
   have hle':P * 2<=1099511627776:=hle;clear hle hne;go_wp2;go_round
   case rel=>exact⟨j+1,2 * P,by omega,by omega,Lib.hid (by rw[Nat.pow_succ,<-hpow.out,Nat.mul_comm]),by go_num,by go_num⟩
   case measure=>simp[intOf];omega
  ·go_wp2
   go_ret2
   exact⟨rfl,rfl⟩
end Go.Proofs.YtlfekmbalgkmeaaGreatDoor
namespace Go.Proofs.YtlfekmbalgkmeaaGreatDoor
open Go Go.RowKit
theorem rchk_any(s:Shp)(w:World):Calls Tryz.prog 45 #[s.val] w
  fun e w'=>e= .returned (.bool (decide s.Ok))/\Below w.heap.size w w':=by
 obtain⟨t,l,m,d,p⟩:=s
 by_cases hn: ∃k:Nat,k<40/\p=((2^k:Nat):Int)
 ·have HP: Hid (isP p = decide (p <= 4096)):=by
   obtain⟨k,hk,rfl⟩:=hn;exact Lib.hid isP_pow
  have C: ∃k:Nat,∀W,Calls Tryz.prog 78 #[.int .i64 p] W fun e w'=>e= .returned (.tuple #[.int .i64 k,.bool true])/\W=w':=by
   obtain⟨k,hk,rfl⟩:=hn;exact⟨k,fun W=>rtwo_yes k hk W⟩
  obtain⟨k,C⟩:=C;have C:=Lib.hid C;clear hn
  by_cases h0:p<=4096
  ·by_cases h1: 1 <= d
   ·by_cases h2: d <= p
    ·by_cases h3: 1 <= t
     ·by_cases h4: t <= 4096
      ·by_cases h5: 1 <= l
       ·by_cases h6: l <= t
        ·by_cases h7: 1 <= m
         ·by_cases h8: m <= l
          ·have e0: decide (Shp.Ok ⟨t,l,m,d,p⟩) = true:=decide_eq_true ⟨⟨h3,h4⟩,⟨h5,h6⟩,⟨h7,h8⟩,by rw [HP.out,decide_eq_true h0],h1,h2⟩
           rw[e0];clear e0;unfold Shp.val;dsimp only;go_enter Tryz.func45,Tryz.ntmps45;go_wp2_with fail;refine(C.out _).mono ?_
           rintro e w1 ⟨rfl,rfl⟩;go_wp2;go_ret;exact⟨rfl,below_alloc _⟩
          ·have e0: decide (Shp.Ok ⟨t,l,m,d,p⟩) = false:=decide_eq_false fun q => h8 q.2.2.1.2
           rw[e0];clear e0;unfold Shp.val;dsimp only;go_enter Tryz.func45,Tryz.ntmps45;go_wp2_with fail;refine(C.out _).mono ?_
           rintro e w1 ⟨rfl,rfl⟩;go_wp2;go_ret;refine⟨?_,below_alloc _⟩
           have e9:decide (m<=l)=false:=decide_eq_false (by omega)
           show Ending.returned (.bool (decide (m<=l)))=_
           rw[e9]
         ·have e0: decide (Shp.Ok ⟨t,l,m,d,p⟩) = false:=decide_eq_false fun q => h7 q.2.2.1.1
          rw[e0];clear e0;unfold Shp.val;dsimp only;go_enter Tryz.func45,Tryz.ntmps45;go_wp2_with fail;refine(C.out _).mono ?_
          rintro e w1 ⟨rfl,rfl⟩;go_wp2;go_ret;exact⟨rfl,below_alloc _⟩
        ·have e0: decide (Shp.Ok ⟨t,l,m,d,p⟩) = false:=decide_eq_false fun q => h6 q.2.1.2
         rw[e0];clear e0;unfold Shp.val;dsimp only;go_enter Tryz.func45,Tryz.ntmps45;go_wp2_with fail;refine(C.out _).mono ?_
         rintro e w1 ⟨rfl,rfl⟩;go_wp2;go_ret;exact⟨rfl,below_alloc _⟩
       ·have e0: decide (Shp.Ok ⟨t,l,m,d,p⟩) = false:=decide_eq_false fun q => h5 q.2.1.1
        rw[e0];clear e0;unfold Shp.val;dsimp only;go_enter Tryz.func45,Tryz.ntmps45;go_wp2_with fail;refine(C.out _).mono ?_
        rintro e w1 ⟨rfl,rfl⟩;go_wp2;go_ret;exact⟨rfl,below_alloc _⟩
      ·have e0: decide (Shp.Ok ⟨t,l,m,d,p⟩) = false:=decide_eq_false fun q => h4 q.1.2
       rw[e0];clear e0;unfold Shp.val;dsimp only;go_enter Tryz.func45,Tryz.ntmps45;go_wp2_with fail;refine(C.out _).mono ?_
       rintro e w1 ⟨rfl,rfl⟩;go_wp2;go_ret;exact⟨rfl,below_alloc _⟩
     ·have e0: decide (Shp.Ok ⟨t,l,m,d,p⟩) = false:=decide_eq_false fun q => h3 q.1.1
      rw[e0];clear e0;unfold Shp.val;dsimp only;go_enter Tryz.func45,Tryz.ntmps45;go_wp2_with fail;refine(C.out _).mono ?_
      rintro e w1 ⟨rfl,rfl⟩;go_wp2;go_ret;exact⟨rfl,below_alloc _⟩
    ·have e0: decide (Shp.Ok ⟨t,l,m,d,p⟩) = false:=decide_eq_false fun q => h2 q.2.2.2.2.2
     rw[e0];clear e0;unfold Shp.val;dsimp only;go_enter Tryz.func45,Tryz.ntmps45;go_wp2_with fail;refine(C.out _).mono ?_
     rintro e w1 ⟨rfl,rfl⟩;go_wp2;go_ret;exact⟨rfl,below_alloc _⟩
   ·have e0: decide (Shp.Ok ⟨t,l,m,d,p⟩) = false:=decide_eq_false fun q => h1 q.2.2.2.2.1
    rw[e0];clear e0;unfold Shp.val;dsimp only;go_enter Tryz.func45,Tryz.ntmps45;go_wp2_with fail;refine(C.out _).mono ?_
    rintro e w1 ⟨rfl,rfl⟩;go_wp2;go_ret;exact⟨rfl,below_alloc _⟩
  ·have e0: decide (Shp.Ok ⟨t,l,m,d,p⟩) = false:=decide_eq_false fun q => h0 q.le
   rw[e0];clear e0;unfold Shp.val;dsimp only;go_enter Tryz.func45,Tryz.ntmps45;go_wp2_with fail;refine(C.out _).mono ?_
   rintro e w1 ⟨rfl,rfl⟩;go_wp2;go_ret;exact⟨rfl,below_alloc _⟩
 ·have hno: ∀ k: Nat,k < 40 -> p ≠ ((2 ^ k: Nat): Int):=fun k hk e => hn ⟨k,hk,e⟩
  have C:=Lib.hid (fun W=>rtwo_no p W hno)
  have h0:isP p=false:=isP_no hno;clear hn hno;have e0:decide (Shp.Ok ⟨t,l,m,d,p⟩)=false:=decide_eq_false fun q=>by have:=q.2.2.2.1;dsimp only at this;rw[h0]at this;cases this
  rw[e0];clear e0;unfold Shp.val;dsimp only;go_enter Tryz.func45,Tryz.ntmps45;go_wp2_with fail;refine(C.out _).mono ?_
  rintro e w1 ⟨rfl,rfl⟩;go_wp2;go_ret;exact⟨rfl,below_alloc _⟩
theorem many_step{s:Shp}(h:s.Ok)(hd:s.d<s.t)(hl:s.l<s.d)(n:Int):s.t - s.l<=n * (s.d - s.l)↔manyS s<=n:=by
 obtain⟨h2,h3,h4⟩:=many_spec h hd hl;obtain⟨b,hb⟩: ∃b,b=s.d - s.l:=⟨_,rfl⟩;have hb0:0<b:=by omega
 rw[<-hb]at h3 h4⊢;constructor
 ·intro q
  have q2:(manyS s - 1) * b<n * b:=by omega
  have:=Int.lt_of_mul_lt_mul_right q2 (by omega)
  omega
 ·intro q
  have:=Int.mul_le_mul_of_nonneg_right q (by omega:0<=b)
  omega
theorem rcores_any(s:Shp)(w:World):Calls Tryz.prog 38 #[s.val] w
  fun e w'=>e= .returned (.tuple #[.int .i64 (coresS s),.int .i64 (faultS s)])/\Below w.heap.size w w':=by
 have TT:=Lib.hid (fun W=>rchk_any s W)
 have B:=Lib.hid (Rwk.start w [(44,[.int .i64 s.t,.int .i64 s.l,.int .i64 s.m,.int .i64 s.d,.int .i64 s.p])])
 by_cases hs:s.Ok
 ·rw [decide_eq_true hs] at TT
  by_cases hd:s.d<s.t
  ·have e1: coresS s = coresH s:=by unfold coresS; rw [if_neg (fun q => q hs),if_pos hd]
   have e2:faultS s=faultH s:=by unfold faultS;rw[if_neg (fun q=>q hs),if_pos hd]
   rw[e1,e2]
   by_cases hl:s.d<=s.l
   ·have e1: coresH s = 0:=if_pos hl
    have e2:faultH s=141:=if_pos hl;rw[e1,e2];clear e1 e2 hs;obtain⟨t,l,m,d,p⟩:=s;unfold Shp.val at TT⊢;dsimp only at TT B hd hl⊢;go_enter Tryz.func38,Tryz.ntmps38;go_wp2_with fail;refine(TT.out _).mono ?_
    rintro e w1 ⟨rfl,b⟩;have B:=Lib.hid (B.out.next b);clear b TT;obtain⟨⟨c0,c1⟩,c2,c3,c4⟩:=shp_cells (s:=⟨t,l,m,d,p⟩) B.out;dsimp only at c0 c1 c2 c3 c4;go_wp2;go_ret2;exact⟨rfl,B.out.bel⟩
   ·have hl: s.l < s.d:=by omega
    obtain⟨q2,-,-⟩:=many_spec hs hd hl;have MS:=Lib.hid (many_step hs hd hl);have e1:coresH s=if 8<manyS s then 0 else manyS s:=if_neg (by omega)
    have e2:faultH s=if 8<manyS s then 142 else 0:=if_neg (by omega)
    obtain⟨x,hx⟩: ∃x,x=manyS s:=⟨_,rfl⟩;rw[<-hx]at MS e1 e2 q2;rw[e1,e2];obtain⟨⟨t0,t1⟩,⟨l0,l1⟩,⟨-,-⟩,-,d0,d1⟩:=hs;clear e1 e2 hx;obtain⟨t,l,m,d,p⟩:=s;unfold Shp.val at TT⊢;dsimp only at TT B hd hl MS t0 t1 l0 l1 d0 d1⊢;go_enter Tryz.func38,Tryz.ntmps38;go_wp2_with fail;refine(TT.out _).mono ?_
    rintro e w1 ⟨rfl,b⟩;have B:=Lib.hid (B.out.next b);clear b TT;obtain⟨⟨c0,c1⟩,c2,c3,c4⟩:=shp_cells (s:=⟨t,l,m,d,p⟩) B.out;dsimp only at c0 c1 c2 c3 c4;go_wp2;go_loop [4] (fun i=> ∃n:Int,1<=n/\n<=9/\n<=x/\i= .int .i64 n) (fun i=>(9 - intOf i).toNat)
    case atStart=>exact⟨1,by omega,by omega,by omega,rfl⟩
    case round=>
     obtain⟨n,n1,n9,nx,rfl⟩:=hrel;have ms:=MS.out n;have z0:0<=n * (d - l):=Int.mul_nonneg (by omega) (by omega)
     have z1:n * (d - l)<=9 * (d - l):=Int.mul_le_mul_of_nonneg_right n9 (by omega)
     obtain⟨z,hz⟩: ∃z,z=n * (d - l):=⟨_,rfl⟩;rw[<-hz]at ms z0 z1;have hwz:wrap64 (n * (d - l))=z:=by rw[<-hz];go_arith
     by_cases h8:n<=8
     ·by_cases hx: x <= n
      ·have haz: t - l <= z:=ms.mpr hx
       obtain rfl:n=x:=by omega
       clear ms hz z0 z1;go_wp2;go_ret2
       first
       |exact⟨rfl,B.out.bel⟩
       |(rw[if_neg (by omega),if_neg (by omega)];exact⟨rfl,B.out.bel⟩)
      ·have haz: ¬ t - l <= z:=fun q => hx (ms.mp q)
       clear ms hz z0 z1;go_wp2;go_round
       case rel=>exact⟨n+1,by omega,by omega,by omega,by go_num⟩
       case measure=>simp[intOf];omega
     ·clear ms hz z0 z1
      go_wp2;go_ret2
      first
      |exact⟨rfl,B.out.bel⟩
      |(rw[if_pos (by omega),if_pos (by omega)];exact⟨rfl,B.out.bel⟩)
  ·have e1: coresS s = 1:=by unfold coresS; rw [if_neg (fun q => q hs),if_neg hd]
   have e2:faultS s=0:=by unfold faultS;rw[if_neg (fun q=>q hs),if_neg hd]
   rw[e1,e2];clear e1 e2 hs;obtain⟨t,l,m,d,p⟩:=s;unfold Shp.val at TT⊢;dsimp only at TT B hd⊢;go_enter Tryz.func38,Tryz.ntmps38;go_wp2_with fail;refine(TT.out _).mono ?_
   rintro e w1 ⟨rfl,b⟩;have B:=Lib.hid (B.out.next b);clear b TT;obtain⟨⟨c0,c1⟩,c2,c3,c4⟩:=shp_cells (s:=⟨t,l,m,d,p⟩) B.out;dsimp only at c0 c1 c2 c3 c4;have hd:t<=d:=by omega
   go_wp2;go_ret2
   exact⟨rfl,B.out.bel⟩
 ·have e1: coresS s = 0:=if_pos hs
  have e2:faultS s=140:=if_pos hs;rw[decide_eq_false hs]at TT;rw[e1,e2];clear e1 e2 hs;obtain⟨t,l,m,d,p⟩:=s;unfold Shp.val at TT⊢;dsimp only at TT B⊢;go_enter Tryz.func38,Tryz.ntmps38;go_wp2_with fail;refine(TT.out _).mono ?_
  rintro e w1 ⟨rfl,b⟩;have B:=Lib.hid (B.out.next b);clear b TT;go_wp2;go_ret2;exact⟨rfl,B.out.bel⟩
end Go.Proofs.YtlfekmbalgkmeaaGreatDoor
namespace Go.Proofs.YtlfekmbalgkmeaaGreatDoor
open Go.RowKit
structure Near(B:Nat)(w:World) where
 W:World
 h:Below B w W
instance (B:Nat) (w:World):Nonempty (Near B w):=⟨⟨w,Below.refl _ _⟩⟩
theorem wp_region_near{P:Program}(B:Nat){id:Nat}{Q:Exit->Act->World->Prop}{a:Act}{w:World}{l:List Oper}(hm:P.follows .mixedOrders=true)(hB:Region.lexB .any l.toArray=true)
  (_:B<=w.heap.size)
  (h:wpQuiet P l.toArray (fun W=> ∃x:Near B w,W=x.W) (fun a'=> ∀W,Below B w W->Q .normal a' W) l a):(Code.region id l.toArray true).wp P Q a w:=by
 refine wp_region_quiet (C:=fun W=> ∃x:Near B w,W=x.W) hm hB ⟨⟨_,?_⟩,rfl⟩ ?_
 ·exact below_drewN (Below.refl B w) 1
 ·have e: (fun a' => ∀ W,Below B w W -> Q Exit.normal a' W) = (fun a' => ∀ W,(∃ x: Near B w,W = x.W) -> Q Exit.normal a' W):=by
   funext a'
   apply propext
   constructor
   ·rintro k W ⟨x,rfl⟩
    exact k _ x.h
   ·intro k W hW
    exact k W ⟨⟨W,hW⟩,rfl⟩
  rw[e]at h
  simpa using h
theorem near_of{P:Program}{f:FuncId}{args:Array Value}{B:Nat}{w:World}{x:Near B w}{v:Value}
  (h:Calls P f args x.W fun e w'=>e= .returned v/\Below x.W.heap.size x.W w') (hb:B<=w.heap.size):Calls P f args x.W fun e w''=>e= .returned v/\ ∃y:Near B w,w''=y.W:=
 h.mono fun _ w' ⟨he,hm⟩=>⟨he,⟨w',x.h.trans (hm.mono (Nat.le_trans hb x.h.size))⟩,rfl⟩
theorem near_same{P:Program}{f:FuncId}{args:Array Value}{B:Nat}{w:World}{x:Near B w}{v:Value}
  (h:Calls P f args x.W fun e w'=>e= .returned v/\x.W=w'):Calls P f args x.W fun e w''=>e= .returned v/\ ∃y:Near B w,w''=y.W:=
 h.mono fun _ _ ⟨he,hm⟩=>⟨he,x,hm.symm⟩
end Go.Proofs.YtlfekmbalgkmeaaGreatDoor
