import Derived.Test.YtfahabphncmbfaaGreatDoorZQ2
import Derived.Deep.RegionWith
import Derived.Test.YtfahabphncmbfaaGreatDoorChecked
set_option linter.all false
set_option maxRecDepth 100000
set_option maxHeartbeats 16000000
namespace Go.Proofs.YtfahabphncmbfaaGreatDoor
open Go Go.RowKit
open _root_.Array renaming any_eq_true'→Y2,getElem?_eq_getElem→ZS,getElem?_eq_some_iff→Zk,getElem?_setIfInBounds_ne→YF,size_replicate→Yaa,size_setIfInBounds→ZQ
open Below renaming refl→Zl
open Bool renaming and_eq_true→Z5
open Go.Lib renaming hid→Zf
open List renaming all_eq_true→ZL,getD_eq_getElem?_getD→Zi,getElem?_eq_getElem→Zh,getElem?_eq_none→Zt,getElem_mem→Zz,mem_of_getElem?→ZC,mem_range→ZD,range→Zo
open Nat renaming lt_or_ge→Zv,lt_trans→YI
open Option.some renaming inj→Zr,injEq→ZB
open Go.Proofs.Tryz renaming prog→Zg
open Go renaming execOp→Yae,undef→Yag
open Go.Proofs.Tryz
theorem ZgV(s:Shp)(w:World)(h:s.t<=s.d):Calls Zg 71 #[s.val] w
  fun e w'=>e=.returned (.iface 166 s.val)/\Below w.heap.size w w':=by
 obtain⟨t,l,m,d,p⟩:=s;unfold Shp.val;dsimp only at h⊢;go_enter func71,ntmps71;go_wp2
 go_returns
 exact⟨rfl,Zaa _⟩
theorem ZgW(s:Shp)(w:World)(h:s.d<s.t):Calls Zg 71 #[s.val] w
  fun e w'=>e=.returned (.iface 182 s.val)/\Below w.heap.size w w':=by
 obtain⟨t,l,m,d,p⟩:=s;unfold Shp.val;dsimp only at h⊢;go_enter func71,ntmps71;go_wp2
 go_returns
 exact⟨rfl,Zaa _⟩
theorem Zjm:(Zg.fieldsOf 126).toList.map (fun f=>(f.name,f.type,f.offset))= [("cores",3,0),("fault",31,1)]:=by kernel_rfl
theorem Zik(x y:Int)(W:World):(part 3 #[.int .i64 x,.int .i64 y] 0).run Zg W=.ok (.int .i64 x) W/\(part 31 #[.int .i64 x,.int .i64 y] 1).run Zg W=.ok (.int .i64 y) W:=⟨by kernel_rfl,by kernel_rfl⟩
theorem ZqQ(x y u v:Int)(W:World):(Op.equalIn 10000 126 (.agg #[.int .i64 x,.int .i64 y]) (.agg #[.int .i64 u,.int .i64 v])).run Zg W=.ok (x==u&&y==v) W:=by
  have hf:=Zjm;rw[run_equalIn_agg (d:=9999) W 126 _ _ (by kernel_rfl) (by kernel_rfl)];generalize (Zg.fieldsOf 126).toList=fs at hf
  match fs,hf with
  | [],hf=>simp at hf
  | [_],hf=>simp at hf
  |_::_::_::_,hf=>simp at hf
  | [f, g], hf =>
    simp only[List.map_cons,List.map_nil,List.cons.injEq,Prod.mk.injEq,and_true]at hf;obtain⟨⟨n1,t1,o1⟩,n2,t2,o2⟩:=hf;have e1:=fun a b W=>run_equalIn_int (P:=Zg) W 9998 3 .i64 .i64 a b underlying3;have e2:=fun a b W=>run_equalIn_int (P:=Zg) W 9998 31 .i64 .i64 a b underlying31;have p1:=fun a b W=>(Zik a b W).1;have p2:=fun a b W=>(Zik a b W).2;simp only[Op.eqFields,n1,n2,t1,t2,o1,o2];by_cases h1:x=u
    · subst h1;by_cases h2:y=v
      · simp[p1,p2,e1,e2,h2]
      · simp[p1,p2,e1,e2,h2]
    · simp[p1,p2,e1,e2,h1]
theorem ZkQ(x y u v:Int)(W:World):(binOp .neq 126 (ZcB x y) (ZcB u v)).run Zg W=.ok (.bool (!(x==u&&y==v))) W:=by unfold ZcB;rw[run_neq_struct,ZqQ];rfl
theorem ZgX(o1 o2:Operand)(x y u v:Int)(W:World):(eqGuard .neq 126 o1 o2 (ZcB x y) (ZcB u v)).run Zg W=.ok () W:=by unfold ZcB;exact run_eqGuard_agg W .neq _ o1 o2 _ _ (by kernel_rfl)
theorem Zjn{s:Shp}(h:s.Ok)(hd:s.d<s.t):(Zc2 s=0/\Zc3 s=141)\/(Zc2 s=0/\Zc3 s=142)\/(∃n,Zc2 s=n/\Zc3 s=0/\2<=n/\n<=8):=by
 unfold Zc2 Zc3;by_cases hl:s.d<=s.l
 ·rw[Zc hl,Zc hl];exact .inl ⟨rfl,rfl⟩
 ·have:=ZfJ h hd (by omega)
  rw[Zb hl,Zb hl];by_cases h8:8<ZdX s
  ·rw[Zc h8,Zc h8];exact .inr (.inl ⟨rfl,rfl⟩)
  ·rw[Zb h8,Zb h8];exact .inr (.inr ⟨_,rfl,rfl,by omega,by omega⟩)
theorem Zax{w W:World}{s:Shp}{L:List (TypeId×List Value)}(B:Rwk w ((67,[.int .i64 s.t,.int .i64 s.l,.int .i64 s.m,.int .i64 s.d,.int .i64 s.p])::L) W):
  (W.cell? ⟨w.heap.size,0,none⟩=some (.int .i64 s.t)/\W.cell? ⟨w.heap.size,1,none⟩=some (.int .i64 s.l))/\W.cell? ⟨w.heap.size,2,none⟩=some (.int .i64 s.m)/\W.cell? ⟨w.heap.size,3,none⟩=some (.int .i64 s.d)/\W.cell? ⟨w.heap.size,4,none⟩=some (.int .i64 s.p):=
 ⟨⟨B.cell 0 0 rfl rfl,B.cell 0 1 rfl rfl⟩,B.cell 0 2 rfl rfl,B.cell 0 3 rfl rfl,B.cell 0 4 rfl rfl⟩
theorem ZgY(s:Shp)(w:World)(hT:DTab w):Calls Zg 62 #[s.val] w
  fun e w'=>e=.returned (.bool (ZgR s))/\Below w.heap.size w w':=by
 have TT:=Zf (fun W (b:Below w.heap.size w W)=>(ZcS s W (hT.via b)));clear hT;by_cases hs:s.Ok
 ·rw [Zhr hs] at TT
  by_cases hd:s.d<s.t
  ·have e0: ZgR s = true:=Ze ⟨hs,hd⟩
   have K1:=Zf (fun W=>ZgW s W hd);have K2:=Zf (fun W=>Zio s W hs hd);have K3:=Zf (fun W=>ZfQ s W);have hw:=Zjn hs hd;rw[e0];obtain⟨x,hx⟩:∃x,x=Zc2 s:=⟨_,rfl⟩;obtain⟨y,hy⟩:∃x,x=Zc3 s:=⟨_,rfl⟩;rw[<-hx,<-hy]at hw K2;have hxy:¬(x=1/\y=0):=by rcases hw with⟨rfl,rfl⟩|⟨rfl,rfl⟩|⟨n,rfl,rfl,h2,-⟩<;>omega
   have NE:∀W,(binOp .neq 126 (ZcB x y) (ZcB 1 0)).run Zg W=.ok (.bool true) W:=fun W=>by
    have h1:(!(x==1&&y==0))=true:=by
     by_cases q:x=1
     ·have q2:¬ y = 0:=fun h => hxy ⟨q,h⟩
      simp[q2]
     ·simp[q]
    rw[ZkQ,h1]
   have NG:∀W o1 o2,(eqGuard .neq 126 o1 o2 (ZcB x y) (ZcB 1 0)).run Zg W=.ok () W:=fun W o1 o2=>ZgX o1 o2 x y 1 0 W;clear hw hx hy e0 hs hd hxy;have B:=Zf (Rwk.start w [(67,[.int .i64 s.t,.int .i64 s.l,.int .i64 s.m,.int .i64 s.d,.int .i64 s.p])]);obtain⟨t,l,m,d,p⟩:=s;unfold Shp.val at TT K1 K2 K3⊢;dsimp only at TT K1 K2 K3 B⊢;go_enter func62,ntmps62;go_wp2_with fail;refine(TT.out _ B.out.bel).mono ?_;rintro e w1 ⟨rfl,b⟩;have B:=Zf (B.out.next b);clear b;obtain⟨⟨c0,c1⟩,c2,c3,c4⟩:=Zax (s:=⟨t,l,m,d,p⟩) B.out;dsimp only at c0 c1 c2 c3 c4;go_wp2_with fail;have B:=Zf (B.out.next ((Zl _ _).drew))
   go_region_with (first
    |(go_at_call 71;refine(K1.out _).mono ?_;rintro e w2 ⟨rfl,b⟩;have B:=Zf (B.out.next b);clear b;obtain⟨⟨c0,c1⟩,c2,c3,c4⟩:=Zax (s:=⟨t,l,m,d,p⟩) B.out;dsimp only at c0 c1 c2 c3 c4)
    |(go_at_call 289;refine(K2.out _).mono ?_;rintro e w2 ⟨rfl,b⟩;have B:=Zf (B.out.next b);clear b;obtain⟨⟨c0,c1⟩,c2,c3,c4⟩:=Zax (s:=⟨t,l,m,d,p⟩) B.out;dsimp only at c0 c1 c2 c3 c4)
    |(go_at_call 120;refine(K3.out _).mono ?_;rintro e w2 ⟨rfl,b⟩;have B:=Zf (B.out.next b);clear b;obtain⟨⟨c0,c1⟩,c2,c3,c4⟩:=Zax (s:=⟨t,l,m,d,p⟩) B.out;dsimp only at c0 c1 c2 c3 c4))
   all_goals
    go_wp2;go_ret;exact⟨rfl,B.out.bel⟩
  ·have e0: ZgR s = false:=Zd fun q => hd q.2
   have K1:=Zf (fun W=>ZgV s W (by omega));have K3:=Zf (fun W=>ZfQ s W);rw[e0];have NE:∀W,(binOp .neq 126 (ZcB 1 0) (ZcB 1 0)).run Zg W=.ok (.bool false) W:=fun W=>by rw[ZkQ];rfl
   have NG:∀W o1 o2,(eqGuard .neq 126 o1 o2 (ZcB 1 0) (ZcB 1 0)).run Zg W=.ok () W:=fun W o1 o2=>ZgX o1 o2 1 0 1 0 W;clear e0 hs hd;have B:=Zf (Rwk.start w [(67,[.int .i64 s.t,.int .i64 s.l,.int .i64 s.m,.int .i64 s.d,.int .i64 s.p])]);obtain⟨t,l,m,d,p⟩:=s;unfold Shp.val at TT K1 K3⊢;dsimp only at TT K1 K3 B⊢;go_enter func62,ntmps62;go_wp2_with fail;refine(TT.out _ B.out.bel).mono ?_;rintro e w1 ⟨rfl,b⟩;have B:=Zf (B.out.next b);clear b;obtain⟨⟨c0,c1⟩,c2,c3,c4⟩:=Zax (s:=⟨t,l,m,d,p⟩) B.out;dsimp only at c0 c1 c2 c3 c4;go_wp2_with fail;have B:=Zf (B.out.next ((Zl _ _).drew))
   go_region_with (first
    |(go_at_call 71;refine(K1.out _).mono ?_;rintro e w2 ⟨rfl,b⟩;have B:=Zf (B.out.next b);clear b;obtain⟨⟨c0,c1⟩,c2,c3,c4⟩:=Zax (s:=⟨t,l,m,d,p⟩) B.out;dsimp only at c0 c1 c2 c3 c4)
    |(go_at_call 120;refine(K3.out _).mono ?_;rintro e w2 ⟨rfl,b⟩;have B:=Zf (B.out.next b);clear b;obtain⟨⟨c0,c1⟩,c2,c3,c4⟩:=Zax (s:=⟨t,l,m,d,p⟩) B.out;dsimp only at c0 c1 c2 c3 c4))
   all_goals
    go_wp2;go_ret;exact⟨rfl,B.out.bel⟩
 ·rw [Zc6 hs] at TT
  have e0:ZgR s=false:=Zd fun q=>hs q.1;rw[e0];clear e0 hs;have B:=Zf (Rwk.start w [(67,[.int .i64 s.t,.int .i64 s.l,.int .i64 s.m,.int .i64 s.d,.int .i64 s.p])]);obtain⟨t,l,m,d,p⟩:=s;unfold Shp.val at TT⊢;dsimp only at TT B⊢;go_enter func62,ntmps62;go_wp2_with fail;refine(TT.out _ B.out.bel).mono ?_;rintro e w1 ⟨rfl,b⟩;have B:=Zf (B.out.next b);clear b;go_wp2;go_ret;exact⟨rfl,B.out.bel⟩
def maxL:List Int->Int
 | []=>0
 |a::l=>l.foldl max a
theorem Zo8{zs:List Int}{k:Nat}{z:Int}(h0:1<=k)(h:zs[k]?=some z):maxL (zs.take (k+1))=max (maxL (zs.take k)) z:=by
  rw[List.take_add_one,h]
  match zs,h with
  | a :: l, h =>obtain⟨k,rfl⟩:∃j,k=j+1:=⟨k - 1,by omega⟩;simp[maxL,List.foldl_append]
theorem Zo9(A:Option Addr)(n c:Nat)(zs:List Int)(w:World)(hn:zs.length=n)(h1:1<=n)(h4:n<=1000)(hr:∀z∈zs,0<=z/\z<=1000000)(hI:Ints w w.heap.size A zs):
  Calls Zg 65 #[.slice A n c] w fun e w'=>e=.returned (.int .i64 (maxL zs))/\w=w':=by
 obtain⟨b0,o0,z0,hA,hb0,hz0,hc0⟩:=hI.at_ (k:=0) (by rw[hn];omega);have HI:=Zf hI;have HN:=Zf hn;have HM:=Zf (show maxL (zs.take 1)=z0 by
  match zs,hz0 with
  |a::l,h=>simp at h;simp[maxL,h])
 have HR:=Zf hr;have hzr:=hr z0 (ZC hz0);subst hA;clear hI hn hr hb0 hz0;simp only[Nat.add_zero]at hc0;go_enter func65,ntmps65;go_wp2;go_loop [3,4] (fun mv i=>∃(k:Nat) (z:Int),1<=k/\k<=n/\i=.int .i64 k/\mv=.int .i64 z/\0<=z/\z<=1000000/\Hid (maxL (zs.take k)=z)) (fun _ i=>n - (intOf i).toNat)
 case atStart=>exact⟨1,z0,by omega,h1,rfl,rfl,hzr.1,hzr.2,HM⟩
 case round=>
  obtain⟨k,z,k1,kn,rfl,rfl,z1,z2,HZ⟩:=hrel;by_cases hk:k<n
  ·obtain ⟨b,o,y,hA,hb,hy,hc⟩:=HI.out.at_ (k:=k) (by rw [HN.out]; exact hk)
   have hyr:=HR.out y (ZC hy);have hmx:=Zo8 k1 hy;rw[HZ.out]at hmx;injection hA with hA;injection hA with hA1 hA2;subst hA1 hA2;have HX:=Zf hmx;clear hmx hb hy HZ;by_cases hzy:z<=y
   ·have hm: max z y = y:=by omega
    rw[hm]at HX;go_wp2;go_round
    case rel=>exact⟨k+1,y,by omega,by omega,by go_num,by simp[hm];omega,by omega,by omega,HX⟩
    case measure=>simp[intOf];omega
   ·have hm: max z y = z:=by omega
    rw[hm]at HX;go_wp2;go_round
    case rel=>exact⟨k+1,z,by omega,by omega,by go_num,by simp[hm];omega,by omega,by omega,HX⟩
    case measure=>simp[intOf];omega
  ·obtain rfl: k = n:=by omega
   have hz:=HZ.out;rw[<-HN.out,List.take_length]at hz;go_wp2;go_ret;exact⟨rfl,rfl⟩
section
variable {P: Program}{ops: Array Oper}{Q: Exit -> Act -> World -> Prop}
def Zd4(l:Array Bool):Nat:=l.toList.countP (fun b=> !b)
theorem ZgZ:∀(xs:List Bool) (i:Nat),xs[i]?=some false->(xs.set i true).countP (fun b=> !b)+1=xs.countP (fun b=> !b)
  | [],i,h=>by simp at h
  | x :: xs, 0, h => by
    obtain rfl:x=false:=by simpa using h
    simp
  | x :: xs, i + 1, h => by
    have ih:=ZgZ xs i (by simpa using h);simp only[List.set_cons_succ,List.countP_cons];omega
theorem Ze4{l:Array Bool}{i:Nat}(h:l.getD i true=false):Zd4 (l.setIfInBounds i true)+1=Zd4 l:=by
 have hi:i<l.size:=by
  rcases Zv i l.size with h1|h1
  ·exact h1
  ·simp[Array.getElem?_eq_none h1]at h
 have h0:l[i]=false:=by simpa[hi]using h
 unfold Zd4;rw[Array.toList_setIfInBounds];refine ZgZ l.toList i ?_;rw[Array.getElem?_toList,ZS hi,h0]
theorem Zil(Inv:Array Bool->Act->World->Prop)
    (hstep:∀(listed:Array Bool) (a:Act) (w:World) (i:Nat),Inv listed a w->i∈Region.ready .any ops listed->wpOp P ops Q i (Inv (listed.setIfInBounds i true)) a w)
    (hend:∀(listed:Array Bool) (a:Act) (w:World),Inv listed a w->Region.ready .any ops listed= []->Q .normal a w):
    ∀(fuel:Nat) (listed:Array Bool) (a:Act) (w:World),Zd4 listed<=fuel->Inv listed a w->wpAny P .any ops Q fuel listed a w
  | 0, listed, a, w, hf, hI => by
    have hr:Region.ready .any ops listed= []:=by rw[List.eq_nil_iff_forall_not_mem];intro i hi;have:=Ze4 (mem_ready.1 hi).1;omega
    exact⟨hr,hend _ _ _ hI hr⟩
  | fuel + 1, listed, a, w, hf, hI =>
    ⟨fun hr=>hend _ _ _ hI hr,fun i hi=>wpOp_mono (fun a' w' hI'=>Zil Inv hstep hend fuel _ a' w' (by have:=Ze4 (mem_ready.1 hi).1;omega) hI') (hstep _ _ _ _ hI hi)⟩
theorem Zbi{id:Nat}{a:Act}{w:World}(Inv:Array Bool->Act->World->Prop)(hm:P.follows .mixedOrders=true)
  (h0:Inv (Array.replicate ops.size false) a {w with drawn:=w.drawn+1})
  (hstep:∀(listed:Array Bool) (a:Act) (w:World) (i:Nat),Inv listed a w->i∈Region.ready .any ops listed->wpOp P ops Q i (Inv (listed.setIfInBounds i true)) a w)
  (hend:∀(listed:Array Bool) (a:Act) (w:World),Inv listed a w->Region.ready .any ops listed= []->Q .normal a w):(Code.region id ops true).wp P Q a w:=
 wp_region_any hm (Zil Inv hstep hend _ _ _ _ (by
  unfold Zd4;refine Nat.le_trans List.countP_le_length ?_;simp) h0)
theorem ZlF{listed:Array Bool}(hs:listed.size=ops.size)(hb:∀(i:Nat) (o:Oper),ops[i]?=some o->∀e∈o.after,e.on<i)(hr:Region.ready .any ops listed= []):∀i,i<ops.size->listed.getD i false=true:=by
  intro i
  induction i using Nat.strongRecOn with
  | _ i ih =>
    intro hi;cases hl:listed.getD i false with
    |true=>rfl
    | false =>
      have hi2:i<listed.size:=by omega
      have h1:listed.getD i true=false:=by simp[hi2]at hl⊢;exact hl
      have h2:i∈Region.ready .any ops listed:=mem_ready.2 ⟨h1,ops[i],ZS hi,fun e he _=>by have h3:=hb i _ (ZS hi) e he;exact ih e.on h3 (by omega)⟩
      rw[hr]at h2;simp at h2
def Zr7(ops:Array Oper):Bool:=(Zo ops.size).all fun i=>match ops[i]? with
 |some o=>o.after.all fun e=>decide (e.on<i)
 |none=>true
theorem ZqR(h:Zr7 ops=true):∀(i:Nat) (o:Oper),ops[i]?=some o->∀e∈o.after,e.on<i:=by
 intro i o ho e he;have hi:i<ops.size:=by
  rcases Zv i ops.size with h1|h1
  ·exact h1
  ·rw[Array.getElem?_eq_none h1]at ho;cases ho
 have h1:=ZL.1 h i (ZD.2 hi);rw[ho]at h1;exact of_decide_eq_true (Array.all_eq_true'.1 h1 e he)
theorem Zag{listed:Array Bool}{i k:Nat}(h:(listed.setIfInBounds i true).getD k false=true):k=i\/listed.getD k false=true:=by
 by_cases hik:i=k
 ·exact .inl hik.symm
 ·right
  simp[YF hik]at h;simpa using h
theorem ZeG{i:Nat}{o:Oper}{a:Act}{w:World}{K:Act->World->Prop}(ho:ops[i]?=some o)(hg:o.guard=none)(h:o.wp P a w K Q):wpOp P ops Q i K a w:=by unfold wpOp;rw[ho];simp only[Region.wanted,hg,if_true];exact .inl h
end
section
variable {P: Program}{ops: Array Oper}{Q: Exit -> Act -> World -> Prop}
structure AtDoor(a0:Act)(ds:List Nat)(ρ:Operand->Value):Prop where
 const:∀v,ρ (.const v)=v
 tmp:∀t,t∉ds->ρ (.tmp t)=a0.eval (.tmp t)
theorem Zbb(a0:Act)(ds:List Nat):AtDoor a0 ds a0.eval:=⟨fun _=>rfl,fun _ _=>rfl⟩
theorem ZaB(a:Act)(d:Nat)(v:Value)(h:d<a.tmps.size):(a.put (some d) v).eval (.tmp d)=v:=by show(a.tmps.setIfInBounds d v).getD d Yag=v;simp[h]
theorem Zak(a:Act)(d t:Nat)(v:Value)(h:t≠d):(a.put (some d) v).eval (.tmp t)=a.eval (.tmp t):=by show(a.tmps.setIfInBounds d v).getD t Yag=a.tmps.getD t Yag;simp[YF (Ne.symm h)]
theorem AtDoor.put{a0 a:Act}{ds:List Nat}(h:AtDoor a0 ds a.eval){d:Nat}(hd:d∈ds)(v:Value):AtDoor a0 ds (a.put (some d) v).eval:=
 ⟨fun _=>rfl,fun t ht=>(Zak a d t v (fun e=>ht (e▸hd))).trans (h.tmp t ht)⟩
theorem Zam{l:Array Bool}{i k:Nat}(hi:i<l.size):(l.setIfInBounds i true).getD k false=true↔k=i\/l.getD k false=true:=by
 constructor
 ·exact Zag
 ·rintro (rfl | h)
  ·simp[hi]
  ·by_cases hik: i = k
   ·subst hik;simp[hi]
   ·simpa[YF hik]using h
def Zba(ds:List Nat)(vals:Nat->Value):Nat->List Value->List Value
 |_,[]=> []
 |t,x::l=>(bif ds.contains t then vals t else x)::Zba ds vals (t+1) l
theorem ZkR(ds:List Nat)(vals:Nat->Value):∀(l:List Value) (t i:Nat),(Zba ds vals t l)[i]?=l[i]?.map fun x=>bif ds.contains (t+i)then vals (t+i)else x
  | [],t,i=>by simp[Zba]
  |x::l,t,0=>by simp[Zba]
  | x :: l, t, i + 1 => by
    have:=ZkR ds vals l (t+1) i;rw[show t+1+i=t+(i+1) by omega]at this;simpa[Zba]using this
def ZaW(a0:Act)(ds:List Nat)(vals:Nat->Value):List Value:=Zba ds vals 0 a0.tmps.toList
theorem ZdB{a0 a:Act}{ds:List Nat}(h:AtDoor a0 ds a.eval)(hs:a.tmps.size=a0.tmps.size)(hd:a.defers=a0.defers):a=⟨(ZaW a0 ds fun t=>a.eval (.tmp t)).toArray,a0.defers⟩:=by
  obtain⟨tmps,defers⟩:=a;obtain rfl:defers=a0.defers:=hd;congr 1;apply Array.toList_inj.mp;apply List.ext_getElem?;intro t;unfold ZaW;rw[ZkR,Nat.zero_add];rcases Zv t tmps.size with ht|ht
  · have ht0:t<a0.tmps.toList.length:=by simpa[<-hs]using ht
    have e1:(Act.mk tmps a0.defers).eval (.tmp t)=tmps[t]:=by show tmps.getD t Yag=_;simp[ht]
    rw[Zh ht0,Zh (by simpa using ht)]
    simp only[Option.map_some,Array.getElem_toList,ZB];cases hc:ds.contains t with
    |true=>exact e1.symm
    | false =>
      have:=h.tmp t (fun q=>by rw[List.contains_iff_mem.mpr q]at hc;cases hc);rw[e1]at this;rw[this];show a0.tmps.getD t Yag=_;have ht1:t<a0.tmps.size:=by simpa using ht0
      simp[ht1]
  · rw[Zt (by simpa using ht),Zt (by simpa[<-hs]using ht)];rfl
end
section
variable {P: Program}{ops: Array Oper}{Q: Exit -> Act -> World -> Prop}
def ZkS(ops:Array Oper):Bool:=(Zo ops.size).all fun i=>match ops[i]? with
 |some o=>o.after.all fun e=> !(Region.binds .any e)||decide (e.on<i)
 |none=>true
theorem Zht(h:ZkS ops=true):∀(i:Nat) (o:Oper),ops[i]?=some o->∀e∈o.after,Region.binds .any e=true->e.on<i:=by intro i o ho e he hb;have hi:i<ops.size:=(Zk.1 ho).1;have h1:=ZL.1 h i (ZD.2 hi);rw[ho]at h1;have h2:=Array.all_eq_true'.1 h1 e he;rw[hb]at h2;exact of_decide_eq_true (by simpa using h2)
theorem Zcf{listed:Array Bool}(hs:listed.size=ops.size)(hb:∀(i:Nat) (o:Oper),ops[i]?=some o->∀e∈o.after,Region.binds .any e=true->e.on<i)(hr:Region.ready .any ops listed= []):∀i,i<ops.size->listed.getD i false=true:=by
  intro i
  induction i using Nat.strongRecOn with
  | _ i ih =>
    intro hi;cases hl:listed.getD i false with
    |true=>rfl
    | false =>
      have hi2:i<listed.size:=by omega
      have h1:listed.getD i true=false:=by simp[hi2]at hl⊢;exact hl
      have h2:i∈Region.ready .any ops listed:=mem_ready.2 ⟨h1,ops[i],ZS hi,fun e he hbd=>by have h3:=hb i _ (ZS hi) e he hbd;exact ih e.on h3 (by omega)⟩
      rw[hr]at h2;simp at h2
def Zim(ops:Array Oper)(ds:List Nat)(wt:List Bool):Bool:=
  ops.size==ds.length&&ZkS ops&&decide ds.Nodup&&
  ((Zo ds.length).all fun k=>(match ops[k]? with|some o=>o.dst==some (ds.getD k 0)|none=>false))&&
  ((Zo ds.length).all fun k => (match ops[k]? with
    |some o=>(match o.guard with|some g=>decide (g.1<k)&&o.after.any (fun e=>e.on==g.1&&Region.binds .any e)|none=>wt.getD k true)
    |none=>false))
structure Facts(ops:Array Oper)(ds:List Nat)(wt:List Bool):Prop where
 size:ops.size=ds.length
 back:∀(i:Nat) (o:Oper),ops[i]?=some o->∀e∈o.after,Region.binds .any e=true->e.on<i
 nodup:ds.Nodup
 dst:∀(k:Nat) (o:Oper),ops[k]?=some o->o.dst=some (ds.getD k 0)
 guard:∀(k:Nat) (o:Oper) (g:Nat) (b:Bool),ops[k]?=some o->o.guard=some (g,b)->g<k/\∃e∈o.after,e.on=g/\Region.binds .any e=true
 free:∀(k:Nat) (o:Oper),ops[k]?=some o->o.guard=none->wt.getD k true=true
theorem Zpa{ds:List Nat}{wt:List Bool}(h:Zim ops ds wt=true):Facts ops ds wt:=by
 unfold Zim at h;simp only[Z5,beq_iff_eq,decide_eq_true_iff]at h;obtain⟨⟨⟨⟨h1,h2⟩,h3⟩,h4⟩,h5⟩:=h;have hk:∀(k:Nat) (o:Oper),ops[k]?=some o->k<ds.length:=fun k o ho=>h1▸(Zk.1 ho).1;refine⟨h1,Zht h2,h3,fun k o ho=> ?_,fun k o g b ho hg=> ?_,fun k o ho hg=> ?_⟩
 ·have:=ZL.1 h4 k (ZD.2 (hk k o ho))
  rw[ho]at this;simpa using this
 ·have:=ZL.1 h5 k (ZD.2 (hk k o ho))
  rw[ho]at this;simp only[hg,Z5,decide_eq_true_iff]at this;obtain⟨e,he,h8⟩:=Y2.1 this.2;rw[Z5,beq_iff_eq]at h8;exact⟨this.1,e,he,h8.1,h8.2⟩
 ·have:=ZL.1 h5 k (ZD.2 (hk k o ho))
  rw[ho]at this;simpa only[hg]using this
theorem Zc8{ds:List Nat}{k:Nat}(hk:k<ds.length):ds.getD k 0∈ds:=by rw[Zi,Zh hk];exact Zz hk
theorem Zbo{ds:List Nat}(h:ds.Nodup){k j:Nat}(hk:k<ds.length)(hj:j<ds.length)(e:ds.getD k 0=ds.getD j 0):k=j:=by rw[Zi,Zh hk,Zi,Zh hj]at e;exact(List.getElem_inj h).mp e
def ZmO(ops:Array Oper)(wt:List Bool)(gv:List (Nat×Bool)):Bool:=
 (Zo ops.size).all fun k => (match ops[k]? with
  |some o=>(match o.guard with|some (g,b)=>gv.any (fun p=>p.1==g&&p.2==(if wt.getD k true=true then b else !b))|none=>true)
  |none=>true)
theorem ZfP(ds:List Nat)(wt:List Bool){id:Nat}{a0:Act}{w0:World}(hm:P.follows .mixedOrders=true)(hG:Zim ops ds wt=true)(hsz:∀d∈ds,d<a0.tmps.size)
    (I:World->Prop)(Φ:Nat->Value->World->Prop)
    (hI:∀w w',I w->Below w.heap.size w w'->I w')(hΦ:∀k v w w',Φ k v w->Below w.heap.size w w'->Φ k v w')
    (h0:I {w0 with drawn:=w0.drawn+1})
    (hW:∀(k:Nat) (o:Oper) (g:Nat) (b:Bool),ops[k]?=some o->o.guard=some (g,b)->∀v w,Φ g v w->v=.bool (if wt.getD k true=true then b else !b))
    (hskip:∀k,wt.getD k true=false->∀w,Φ k Yag w)
    (hstep:∀(k:Nat) (o:Oper),ops[k]?=some o->wt.getD k true=true->∀(a:Act) (w:World),I w->AtDoor a0 ds a.eval->(∀e∈o.after,Region.binds .any e=true->Φ e.on (a.eval (.tmp (ds.getD e.on 0))) w)->
      (∀(j:Nat) (p:Oper),ops[j]?=some p->(p.after.any fun e=>e.on==k&&Region.binds .any e)=true->a.eval (.tmp (ds.getD j 0))=a0.eval (.tmp (ds.getD j 0)))->
      ∀K:Act->World->Prop,(∀v w',Φ k v w'->Below w.heap.size w w'->K (a.put o.dst v) w')->o.wp P a w K Q)
    (hend:∀(vals:Nat->Value) (w:World),I w->(∀k,k<ds.length->Φ k (vals (ds.getD k 0)) w)->Q .normal ⟨(ZaW a0 ds vals).toArray,a0.defers⟩ w):
    (Code.region id ops true).wp P Q a0 w0:=by
  have G:=Zpa hG;refine Zbi (fun l a w=>l.size=ds.length/\I w/\AtDoor a0 ds a.eval/\a.tmps.size=a0.tmps.size/\a.defers=a0.defers/\(∀k,k<ds.length->l.getD k false=true->Φ k (a.eval (.tmp (ds.getD k 0))) w)/\(∀k,k<ds.length->l.getD k false=false->a.eval (.tmp (ds.getD k 0))=a0.eval (.tmp (ds.getD k 0)))/\(∀(j:Nat) (p:Oper),ops[j]?=some p->l.getD j false=true->∀e∈p.after,Region.binds .any e=true->l.getD e.on false=true)) hm ?_ ?_ ?_
  · refine⟨by rw[Yaa];exact G.size,h0,Zbb a0 ds,rfl,rfl,fun k hk h=> ?_,fun k hk _=>rfl,fun j p _ h=> ?_⟩
    · exfalso;by_cases h2:k<ops.size<;>simp[h2]at h
    · exfalso;by_cases h2:j<ops.size<;>simp[h2]at h
  · rintro l a w i ⟨hls,hIw,hAD,hasz,hadf,hF,hU,hC⟩ hi;obtain⟨hun,o,ho,hpre⟩:=mem_ready.1 hi;have hilt:i<ops.size:=(Zk.1 ho).1;have hin:i<ds.length:=by rw[<-G.size];exact hilt
    have hil:i<l.size:=by omega
    have hdep:∀e∈o.after,Region.binds .any e=true->Φ e.on (a.eval (.tmp (ds.getD e.on 0))) w:=fun e he hb=>hF e.on (YI (G.back i o ho e he hb) hin) (hpre e he hb);have hnext:∀v w',Φ i v w'->Below w.heap.size w w'->(l.setIfInBounds i true).size=ds.length/\I w'/\AtDoor a0 ds (a.put o.dst v).eval/\(a.put o.dst v).tmps.size=a0.tmps.size/\(a.put o.dst v).defers=a0.defers/\(∀k,k<ds.length->(l.setIfInBounds i true).getD k false=true->Φ k ((a.put o.dst v).eval (.tmp (ds.getD k 0))) w')/\(∀k,k<ds.length->(l.setIfInBounds i true).getD k false=false->(a.put o.dst v).eval (.tmp (ds.getD k 0))=a0.eval (.tmp (ds.getD k 0)))/\(∀(j:Nat) (p:Oper),ops[j]?=some p->(l.setIfInBounds i true).getD j false=true->∀e∈p.after,Region.binds .any e=true->(l.setIfInBounds i true).getD e.on false=true):=fun v w' hphi hb=>by
      rw[G.dst i o ho];refine⟨by rw[ZQ];exact hls,hI w w' hIw hb,hAD.put (Zc8 hin) v,?_,hadf,fun k hk hkl=> ?_,fun k hk hkl=> ?_,fun j p hp hjl e he hb2=>(Zam hil).mpr (.inr ?_)⟩
      · show(a.tmps.setIfInBounds _ _).size=_;rw[ZQ];exact hasz
      · by_cases hki:k=i
        · subst hki;rw[ZaB _ _ _ (by rw[hasz];exact hsz _ (Zc8 hin))];exact hphi
        · rw[Zak _ _ _ _ (fun e=>hki (Zbo G.nodup hk hin e))];exact hΦ k _ _ _ (hF k hk ((Zag hkl).resolve_left hki)) hb
      · have hki:k≠i:=fun e=>by
          have h2:=(Zam (k:=k) hil).mpr (.inl e);rw[hkl]at h2;cases h2
        rw[Zak _ _ _ _ (fun e=>hki (Zbo G.nodup hk hin e))];refine hU k hk ?_
        cases h:l.getD k false with
        |false=>rfl
        | true =>have h2:=(Zam (k:=k) hil).mpr (.inr h);rw[hkl]at h2;cases h2
      · rcases(Zam hil).mp hjl with rfl|h
        · rw[ho]at hp;obtain rfl:=Zr hp;exact hpre e he hb2
        · exact hC j p hp h e he hb2
    have hlate:∀(j:Nat) (p:Oper),ops[j]?=some p->(p.after.any fun e=>e.on==i&&Region.binds .any e)=true->a.eval (.tmp (ds.getD j 0))=a0.eval (.tmp (ds.getD j 0)):=fun j p hp hany=>by
      obtain⟨e,he,h8⟩:=Y2.1 hany;rw[Z5,beq_iff_eq]at h8;refine hU j (by rw[<-G.size];exact(Zk.1 hp).1) ?_
      cases h:l.getD j false with
      |false=>rfl
      | true =>have h2:=hC j p hp h e he h8.2;rw[h8.1]at h2;exfalso;simp[hil]at h2 hun;rw[h2]at hun;cases hun
    unfold wpOp;rw[ho];have hyield:∀g b,o.guard=some (g,b)->yielded ops a.tmps g=some (if wt.getD i true=true then b else !b):=fun g b hg=>by
      obtain⟨hgi,e,he,h1,h2⟩:=G.guard i o g b ho hg;have hv:=hW i o g b ho hg _ _ (by have:=hdep e he h2;rwa [h1]at this);obtain⟨og,hog⟩:∃og,ops[g]?=some og:=⟨_,ZS (by omega)⟩;unfold yielded;rw[hog,Option.bind_some,G.dst g og hog,Option.bind_some];have hlt:ds.getD g 0<a.tmps.size:=by rw[hasz];exact hsz _ (Zc8 (by omega))
      rw[ZS hlt];have:a.tmps[ds.getD g 0]=.bool (if wt.getD i true=true then b else !b):=by rw[<-hv];show _=a.tmps.getD (ds.getD g 0) Yag;rw[Array.getD_eq_getD_getElem?,ZS hlt];rfl
      rw[this]
    cases hw:wt.getD i true with
    | true =>
      have hwant:Region.wanted o (yielded ops a.tmps)=true:=by
        unfold Region.wanted;cases hg:o.guard with
        |none=>rfl
        | some gb =>obtain⟨g,b⟩:=gb;show(yielded ops a.tmps g==some b)=true;rw[hyield g b hg,hw];simp
      simp only[hwant,if_true];exact .inl (hstep i o ho hw a w hIw hAD hdep hlate _ hnext)
    | false =>
      have hwant:Region.wanted o (yielded ops a.tmps)=false:=by
        unfold Region.wanted;cases hg:o.guard with
        | none =>have:=G.free i o ho hg;rw[hw]at this;cases this
        | some gb =>obtain⟨g,b⟩:=gb;show(yielded ops a.tmps g==some b)=false;rw[hyield g b hg,hw];cases b<;>rfl
      simp only[hwant];exact hnext Yag w (hskip i hw w) (Zl _ _)
  · rintro l a w ⟨hls,hIw,hAD,hasz,hadf,hF,_,_⟩ hr;have hall:=Zcf (by rw[hls,G.size]) G.back hr;rw[ZdB hAD hasz hadf];exact hend (fun t=>a.eval (.tmp t)) w hIw fun k hk=>hF k hk (hall k (by rw[G.size];exact hk))
theorem ZdP(ds:List Nat)(wt:List Bool)(gv:List (Nat×Bool)){id:Nat}{a0:Act}{w0:World}(hm:P.follows .mixedOrders=true)(hG:Zim ops ds wt=true)(hgB:ZmO ops wt gv=true)(hsz:∀d∈ds,d<a0.tmps.size)
  (I:World->Prop)(Φ:Nat->Value->World->Prop)
  (hI:∀w w',I w->Below w.heap.size w w'->I w')(hΦ:∀k v w w',Φ k v w->Below w.heap.size w w'->Φ k v w')
  (h0:I {w0 with drawn:=w0.drawn+1})
  (hgv:∀p∈gv,∀v w,Φ p.1 v w->v=.bool p.2)
  (hskip:∀k,wt.getD k true=false->∀w,Φ k Yag w)
  (hstep:∀ (k: Nat) (o: Oper),ops[k]?= some o -> wt.getD k true = true ->∀ (a: Act) (w: World),I w -> AtDoor a0 ds a.eval -> (∀ e ∈ o.after,Region.binds .any e = true -> Φ e.on (a.eval (.tmp (ds.getD e.on 0))) w) ->
   (∀(j:Nat) (p:Oper),ops[j]?=some p->(p.after.any fun e=>e.on==k&&Region.binds .any e)=true->a.eval (.tmp (ds.getD j 0))=a0.eval (.tmp (ds.getD j 0)))->
   ∀K:Act->World->Prop,(∀v w',Φ k v w'->Below w.heap.size w w'->K (a.put o.dst v) w')->o.wp P a w K Q)
  (hend:∀(vals:Nat->Value) (w:World),I w->(∀k,k<ds.length->Φ k (vals (ds.getD k 0)) w)->Q .normal ⟨(ZaW a0 ds vals).toArray,a0.defers⟩ w):
  (Code.region id ops true).wp P Q a0 w0:=
 ZfP ds wt hm hG hsz I Φ hI hΦ h0 (fun k o g b ho hg v w hv=>by have hk:k<ops.size:=(Zk.1 ho).1;have:=ZL.1 hgB k (ZD.2 hk);rw[ho]at this;simp only[hg]at this;obtain⟨p,hp,h2⟩:=List.any_eq_true.1 this;rw[Z5,beq_iff_eq,beq_iff_eq]at h2;rw[<-h2.2];exact hgv p hp v w (by rw[h2.1];exact hv)) hskip hstep hend
theorem ZaO(ds:List Nat)(wt:List Bool)(gv:List (Nat×Bool)){id:Nat}{a0:Act}{w0:World}(hm:P.follows .mixedOrders=true)(hG:Zim ops ds wt=true)(hgB:ZmO ops wt gv=true)(hsz:∀d∈ds,d<a0.tmps.size)
  (I:World->Prop)(Φ:Nat->Value->World->Prop)
  (hI:∀w w',I w->Below w.heap.size w w'->I w')(hΦ:∀k v w w',Φ k v w->Below w.heap.size w w'->Φ k v w')
  (h0:I {w0 with drawn:=w0.drawn+1})
  (hgv:∀p∈gv,∀v w,Φ p.1 v w->v=.bool p.2)
  (hskip:∀k,wt.getD k true=false->∀w,Φ k Yag w)
  (hstep:∀ (k: Nat) (o: Oper),ops[k]?= some o -> wt.getD k true = true ->∀ (a: Act) (w: World),I w -> AtDoor a0 ds a.eval -> (∀ e ∈ o.after,Region.binds .any e = true -> Φ e.on (a.eval (.tmp (ds.getD e.on 0))) w) ->
   ∀K:Act->World->Prop,(∀v w',Φ k v w'->Below w.heap.size w w'->K (a.put o.dst v) w')->o.wp P a w K Q)
  (hend:∀(vals:Nat->Value) (w:World),I w->(∀k,k<ds.length->Φ k (vals (ds.getD k 0)) w)->Q .normal ⟨(ZaW a0 ds vals).toArray,a0.defers⟩ w):
  (Code.region id ops true).wp P Q a0 w0:=
 ZdP ds wt gv hm hG hgB hsz I Φ hI hΦ h0 hgv hskip (fun k o ho hw a w hI hA hd _=>hstep k o ho hw a w hI hA hd) hend
theorem Zab{o:Oper}{a:Act}{w:World}{k:Nat}{Φ:Nat->Value->World->Prop}{K:Act->World->Prop}(hK:∀v w',Φ k v w'->Below w.heap.size w w'->K (a.put o.dst v) w'){ρ:Operand->Value}(hρ:a.eval=ρ)(v:Value)(hr:(Yae ρ o).run P w=.ok (.value v) w)(hv:Φ k v w):o.wp P a w K Q:=by subst hρ;unfold Oper.wp;rw[hr,Oper.upon_value];exact hK v w hv (Zl _ _)
theorem ZaU{o:Oper}{a:Act}{w:World}{k:Nat}{Φ:Nat->Value->World->Prop}{K:Act->World->Prop}(hK:∀v w',Φ k v w'->Below w.heap.size w w'->K (a.put o.dst v) w'){ρ:Operand->Value}(hρ:a.eval=ρ)(f:FuncId)(xs:Array Operand)(tys:Array TypeId)(vs:Array Value)
  (ho:o.op=.call {callee:=.value (.func f),args:=xs,argTypes:=tys})(hxs:xs.map ρ=vs)(eg:∀args w,(callFunc f args).run P w=.ok (.enter f args) w)
  (h:Calls P f vs w fun e w'=>∃v,e=.returned v/\Φ k v w'/\Below w.heap.size w w'):o.wp P a w K Q:=by
 subst hρ;have hr:(Yae a.eval o).run P w=.ok (.enter f vs) w:=by have:=eg vs w;simp[Yae,ho,resolve,hxs,invoke,Deferred.ofValue,Act.eval,this,go_sem]
 unfold Oper.wp;rw[hr,Oper.upon_enter];refine h.mono fun e w' ⟨v,he,hv,hb⟩=> ?_;subst he;exact hK v w' hv hb
end
section
variable {P: Program}{ops: Array Oper}{Q: Exit -> Act -> World -> Prop}
def Zd5(ops:Array Oper):Nat->Nat->Nat->Bool
 |0,_,_=>false
 |f+1,i,k=>match ops[i]? with|some o=>o.after.any fun e=>Region.binds .any e&&(e.on==k||Zd5 ops f e.on k)|none=>false
theorem Za8{l:Array Bool}(hc:∀(i:Nat) (o:Oper),l.getD i false=true->ops[i]?=some o->∀e∈o.after,Region.binds .any e=true->l.getD e.on false=true):
    ∀(f i k:Nat),Zd5 ops f i k=true->(∀(o:Oper),ops[i]?=some o->∀e∈o.after,Region.binds .any e=true->l.getD e.on false=true)->l.getD k false=true
  |0,i,k,h,_=>by cases h
  | f + 1, i, k, h, hp => by
    unfold Zd5 at h;split at h
    · rename_i o ho;obtain⟨e,he,h2⟩:=Y2.1 h;rw[Z5,Bool.or_eq_true,beq_iff_eq]at h2;have hd:=hp o ho e he h2.1;rcases h2.2 with h3|h3
      · rw[<-h3];exact hd
      · exact Za8 hc f e.on k h3 (fun o' ho' e' he' hb'=>hc e.on o' hd ho' e' he' hb')
    · cases h
def Zfx(ops:Array Oper)(n:Nat)(ds:List Nat):Bool:=
 ops.size==n+1&&ds.length==n&&(ops.toList.all fun o:Oper=>o.guard.isNone)&&Zr7 ops&&decide ds.Nodup&&
 ((Zo n).all fun k=>(match ops[k]? with|some o=>o.dst==some (ds.getD k 0)|none=>false))&&
 ((Zo n).all fun k=>Zd5 ops 8 n k)
structure Gather2(ops:Array Oper)(n:Nat)(ds:List Nat):Prop where
 size:ops.size=n+1
 len:ds.length=n
 guard:∀(k:Nat) (o:Oper),ops[k]?=some o->o.guard=none
 back:∀(i:Nat) (o:Oper),ops[i]?=some o->∀e∈o.after,e.on<i
 nodup:ds.Nodup
 dst:∀(k:Nat) (o:Oper),k<n->ops[k]?=some o->o.dst=some (ds.getD k 0)
 last:∀k,k<n->Zd5 ops 8 n k=true
theorem ZlG{n:Nat}{ds:List Nat}(h:Zfx ops n ds=true):Gather2 ops n ds:=by
 unfold Zfx at h;simp only[Z5,beq_iff_eq,decide_eq_true_iff]at h;obtain⟨⟨⟨⟨⟨⟨h1,h2⟩,h3⟩,h4⟩,h5⟩,h6⟩,h7⟩:=h;refine⟨h1,h2,fun k o ho=> ?_,ZqR h4,h5,fun k o hk ho=> ?_,fun k hk=>ZL.1 h7 k (ZD.2 hk)⟩
 ·have:=ZL.1 h3 o (by rw [Array.mem_toList_iff]; exact Array.mem_of_getElem? ho)
  exact Option.isNone_iff_eq_none.1 this
 ·have:=ZL.1 h6 k (ZD.2 hk)
  rw[ho]at this;simpa using this
theorem ZmP{n:Nat}{ds:List Nat}(h:Gather2 ops n ds){k:Nat}(hk:k<n):ds.getD k 0∈ds:=by
 have hl:k<ds.length:=by rw[h.len];exact hk
 rw[Zi,Zh hl];exact Zz hl
theorem ZqS{n:Nat}{ds:List Nat}(h:Gather2 ops n ds){k j:Nat}(hk:k<n)(hj:j<n)(e:ds.getD k 0=ds.getD j 0):k=j:=by
 have hl:k<ds.length:=by rw[h.len];exact hk
 have hl2:j<ds.length:=by rw[h.len];exact hj
 rw[Zi,Zh hl,Zi,Zh hl2]at e;exact(List.getElem_inj h.nodup).mp e
theorem ZeH(n m:Nat)(ds:List Nat){id:Nat}{a0:Act}{w0:World}(hm:P.follows .mixedOrders=true)(hG:Zfx ops n ds=true)(hsz:∀d∈ds,d<a0.tmps.size)
    (I J:World->Prop)(R:World->World->Prop)(Φ:Nat->Value->World->Prop)
    (hBR:∀w w',Below w.heap.size w w'->R w w')(hI:∀w w',I w->R w w'->I w')(hJ:∀w w',J w->Below w.heap.size w w'->J w')
    (hΦ:∀k v w w',k≠m->Φ k v w->R w w'->Φ k v w')(hΦm:∀v w w',Φ m v w->Below w.heap.size w w'->Φ m v w')
    (h0:I {w0 with drawn:=w0.drawn+1})(h1:J {w0 with drawn:=w0.drawn+1})
    (hstep:∀(k:Nat) (o:Oper),k<n->ops[k]?=some o->∀(ρ:Operand->Value) (w:World),I w->AtDoor a0 ds ρ->(∀e∈o.after,Region.binds .any e=true->Φ e.on (ρ (.tmp (ds.getD e.on 0))) w)->(k=m->J w)->
      ∃v w',(Yae ρ o).run P w=.ok (.value v) w'/\Φ k v w'/\(if k=m then R w w' else Below w.heap.size w w'))
    (hlast:∀(o:Oper),ops[n]?=some o->∀(a:Act) (w:World),I w->AtDoor a0 ds a.eval->a.tmps.size=a0.tmps.size->a.defers=a0.defers->(∀k,k<n->Φ k (a.eval (.tmp (ds.getD k 0))) w)->
      o.wp P a w (fun a' w'=>Q .normal a' w') Q):
    (Code.region id ops true).wp P Q a0 w0:=by
  have G:=ZlG hG;refine Zbi (fun l a w=>l.size=n+1/\((l.getD n false=false/\I w/\AtDoor a0 ds a.eval/\a.tmps.size=a0.tmps.size/\a.defers=a0.defers/\(∀k,k<n->l.getD k false=true->Φ k (a.eval (.tmp (ds.getD k 0))) w)/\(l.getD m false=false->J w)/\(∀(i:Nat) (o:Oper),l.getD i false=true->ops[i]?=some o->∀e∈o.after,Region.binds .any e=true->l.getD e.on false=true))\/((∀k,k<=n->l.getD k false=true)/\Q .normal a w))) hm ?_ ?_ ?_
  · refine⟨by rw[Yaa];exact G.size,.inl ⟨?_,h0,Zbb a0 ds,rfl,rfl,fun k hk h=> ?_,fun _=>h1,fun k o h=> ?_⟩⟩
    · by_cases h:n<ops.size<;>simp[h]
    · exfalso;by_cases h2:k<ops.size<;>simp[h2]at h
    · exfalso;by_cases h2:k<ops.size<;>simp[h2]at h
  · rintro l a w i ⟨hls,hV⟩ hi;obtain⟨hun,o,ho,hpre⟩:=mem_ready.1 hi;have hilt:i<ops.size:=(Zk.1 ho).1;have hil:i<l.size:=by rw[hls,<-G.size];exact hilt
    rcases hV with⟨hnl,hIw,hAD,hasz,hadf,hF,hJw,hcl⟩|⟨hall,_⟩
    · rcases Zv i n with hin|hin
      · obtain⟨v,w',hrun,hphi,hrel⟩:=hstep i o hin ho a.eval w hIw hAD (fun e he hb=>hF e.on (YI (G.back i o ho e he) hin) (hpre e he hb)) (fun e=>hJw (by
          rw[<-e];cases h:l.getD i false with
          |false=>rfl
          |true=>simp[hil]at h hun;rw[h]at hun;cases hun))
        have hR:R w w':=by
          split at hrel
          · exact hrel
          · exact hBR w w' hrel
        refine ZeG ho (G.guard i o ho) ?_;unfold Oper.wp;rw[hrun,Oper.upon_value,G.dst i o hin ho];refine⟨by rw[ZQ];exact hls,.inl ⟨?_,hI w w' hIw hR,hAD.put (ZmP G hin) v,?_,hadf,fun k hk hkl=> ?_,fun hml=> ?_,fun k o' hk ho' e he hb=> ?_⟩⟩
        · cases h:(l.setIfInBounds i true).getD n false with
          |false=>rfl
          | true =>
            rcases Zag h with h2|h2
            · omega
            · rw[hnl]at h2;cases h2
        · show(a.tmps.setIfInBounds _ _).size=_;rw[ZQ];exact hasz
        · by_cases hki:k=i
          · subst hki;rw[ZaB _ _ _ (by rw[hasz];exact hsz _ (ZmP G hin))];exact hphi
          · rw[Zak _ _ _ _ (fun e=>hki (ZqS G hk hin e))];have hf:=hF k hk ((Zag hkl).resolve_left hki);by_cases hkm:k=m
            · subst hkm;rw[Zb (fun e=>hki e.symm)]at hrel;exact hΦm _ _ _ hf hrel
            · exact hΦ k _ _ _ hkm hf hR
        · have hmi:i≠m:=fun e=>by
            subst e;have h2:=(Zam (k:=i) hil).mpr (.inl rfl);rw[hml]at h2;cases h2
          rw[Zb hmi]at hrel;refine hJ w w' (hJw ?_) hrel
          cases h:l.getD m false with
          |false=>rfl
          | true =>have h2:=(Zam (k:=m) hil).mpr (.inr h);rw[hml]at h2;cases h2
        · refine(Zam hil).mpr (.inr ?_);rcases Zag hk with h|h
          · subst h;rw[ho]at ho';obtain rfl:=Zr ho';exact hpre e he hb
          · exact hcl k o' h ho' e he hb
      · obtain rfl:i=n:=by have:=G.size;omega
        have hall:∀k,k<i->l.getD k false=true:=fun k hk=>Za8 hcl 8 i k (G.last k hk) (fun o' ho' e he hb=>by rw[ho]at ho';obtain rfl:=Zr ho';exact hpre e he hb)
        refine ZeG ho (G.guard i o ho) (Oper.wp_mono (fun a' w' hq=> ?_) (hlast o ho a w hIw hAD hasz hadf (fun k hk=>hF k hk (hall k hk))));refine⟨by rw[ZQ];exact hls,.inr ⟨fun k hk=>(Zam hil).mpr ?_,hq⟩⟩;rcases Zv k i with h|h
        · exact .inr (hall k h)
        · exact .inl (by omega)
    · exfalso;have:=hall i (by have:=G.size;omega);simp[hil]at this hun;rw[this]at hun;cases hun
  · rintro l a w ⟨hls,hV⟩ hr;have hall:=ZlF (by rw[hls,G.size]) G.back hr;rcases hV with⟨hnl,_⟩|⟨_,hq⟩
    · have:=hall n (by rw[G.size];omega);rw[hnl]at this;cases this
    · exact hq
theorem Zar(n m:Nat)(ds:List Nat){id:Nat}{a0:Act}{w0:World}(hm:P.follows .mixedOrders=true)(hG:Zfx ops n ds=true)(hsz:∀d∈ds,d<a0.tmps.size)
  (I J:World->Prop)(R:World->World->Prop)(Φ:Nat->Value->World->Prop)
  (hBR:∀w w',Below w.heap.size w w'->R w w')(hI:∀w w',I w->R w w'->I w')(hJ:∀w w',J w->Below w.heap.size w w'->J w')
  (hΦ:∀k v w w',k≠m->Φ k v w->R w w'->Φ k v w')(hΦm:∀v w w',Φ m v w->Below w.heap.size w w'->Φ m v w')
  (h0:I {w0 with drawn:=w0.drawn+1})(h1:J {w0 with drawn:=w0.drawn+1})
  (hstep:∀ (k: Nat) (o: Oper),k < n -> ops[k]?= some o ->∀ (ρ: Operand -> Value) (w: World),I w -> AtDoor a0 ds ρ -> (∀ e ∈ o.after,Region.binds .any e = true -> Φ e.on (ρ (.tmp (ds.getD e.on 0))) w) -> (k = m -> J w) ->
   ∃v w',(Yae ρ o).run P w=.ok (.value v) w'/\Φ k v w'/\(if k=m then R w w' else Below w.heap.size w w'))
  (hlast:∀ (o: Oper),ops[n]?= some o ->∀ (vals: Nat -> Value) (w: World),I w -> (∀ k,k < n -> Φ k (vals (ds.getD k 0)) w) ->
   o.wp P ⟨(ZaW a0 ds vals).toArray,a0.defers⟩ w (fun a' w'=>Q .normal a' w') Q):
  (Code.region id ops true).wp P Q a0 w0:=
 ZeH n m ds hm hG hsz I J R Φ hBR hI hJ hΦ hΦm h0 h1 hstep (fun o ho a w hIw hA hs hd hF=>by
  have:=hlast o ho (fun t=>a.eval (.tmp t)) w hIw hF
  rwa [<-ZdB hA hs hd]at this)
end
end Go.Proofs.YtfahabphncmbfaaGreatDoor
