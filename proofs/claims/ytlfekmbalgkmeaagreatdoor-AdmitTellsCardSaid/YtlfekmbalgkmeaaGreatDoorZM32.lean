import Derived.Test.YtlfekmbalgkmeaaGreatDoorZM31
import Derived.Test.YtlfekmbalgkmeaaGreatDoorZM12
set_option linter.unusedSimpArgs false
set_option linter.unnecessarySimpa false
set_option linter.unusedVariables false
set_option maxRecDepth 100000
set_option maxHeartbeats 8000000
namespace Go.Proofs.YtlfekmbalgkmeaaGreatDoor
open Go Go.RowKit
def fillZ(N:List Int)(n j:Nat):List Int:=N.take j++List.replicate (n - j) 0
theorem fillZ_zero(N:List Int)(n:Nat):fillZ N n 0=List.replicate n 0:=by simp[fillZ]
theorem fillZ_all{N:List Int}{n:Nat}(h:N.length=n):fillZ N n n=N:=by simp[fillZ,<-h]
theorem fillZ_len{N:List Int}{n j:Nat}(h:N.length=n)(hj:j<=n):(fillZ N n j).length=n:=by simp[fillZ];omega
theorem fillZ_set{N:List Int}{n j:Nat}{z:Int}(h:N.length=n)(hs:N[j]? =some z):(fillZ N n j).set j z=fillZ N n (j+1):=by
 have hl:=(List.getElem?_eq_some_iff.mp hs).1
 have hl2:(N.take j).length=j:=by rw[List.length_take];omega
 unfold fillZ;rw[take_one hs,List.set_append_right _ _ (by omega),hl2,Nat.sub_self,show n - j=(n - (j+1))+1 by omega,List.replicate_succ,List.set_cons_zero,List.append_assoc]
 rfl
def RowZ(g:Nat)(zs:List Int)(w:World):Prop:=RowV g 3 (zs.map (Value.int .i64)) w
theorem RowZ.set{g:Nat}{zs:List Int}{w:World}(h:RowZ g zs w)(k:Nat)(z:Int):RowZ g (zs.set k z) (w.setCell ⟨g,k,none⟩ (.int .i64 z)):=by
 unfold RowZ;rw[List.map_set];exact RowV.set h k _
theorem RowZ.cells{g:Nat}{zs:List Int}{w:World}(h:RowZ g zs w){k:Nat}(hk:k<zs.length): ∃z,w.cell? ⟨g,k,none⟩=some (.int .i64 z):=
 ⟨zs[k],RowV.cell h (by rw[List.getElem?_map,List.getElem?_eq_getElem hk];rfl)⟩
theorem RowZ.ints{g:Nat}{zs:List Int}{w:World}(h:RowZ g zs w):Ints w w.heap.size (some ⟨g,0,none⟩) zs:=fun hn=>by
 refine⟨g,0,rfl,RowV.lt h,fun k hk=> ?_⟩
 rw[Nat.zero_add];exact RowV.cell h (by rw[List.getElem?_map,List.getD_eq_getElem?_getD,List.getElem?_eq_getElem hk];rfl)
theorem coresOf_at{S:List Shp}{k:Nat}{s:Shp}(h:S[k]? =some s):(coresOf S)[k]? =some (coresS s):=by simp[coresOf,h]
theorem coresOf_len(S:List Shp):(coresOf S).length=S.length:=by simp[coresOf]
theorem needsOf_any{A:Option Addr}{n c:Nat}{S:List Shp}(wf:World)(hn:S.length=n)(h8:n<=8)(h:Shps wf wf.heap.size A S)(hT:DTab wf){x:Int}(hx:x=fstX (S.map faultS)):
  Calls Tryz.prog 35 #[.slice A n c] wf fun e w'=> ∃F k d,e= .returned (.tuple #[.slice F k d,.int .i64 x])/\Below wf.heap.size wf w'/\
   ((x=0/\k=n/\Ints w' w'.heap.size F (coresOf S)/\(F=none->k=0/\d=0))\/(x≠0/\F=none/\k=0/\d=0)):=by
 have HX:=Lib.hid hx;have HN:=Lib.hid hn;have HS:=Lib.hid (fun W (b:Below wf.heap.size wf W)=>h.via b)
 have HTB:=Lib.hid (fun W (b:Below wf.heap.size wf W)=>DTab.via hT b)
 have hmk:=make_ints n (by omega) wf
 obtain⟨g,hg⟩: ∃g,g=wf.heap.size:=⟨_,rfl⟩;rw[<-hg]at hmk;have HG:=Lib.hid hg;obtain⟨w0,hw0⟩: ∃w0,w0=wf.alloc (.cells (List.replicate n (Value.int .i64 0)).toArray 3):=⟨_,rfl⟩;have H0:=Lib.hid (show RowZ g (fillZ (coresOf S) n 0) w0 from by
  rw[hw0,hg,fillZ_zero];unfold RowZ;rw[List.map_replicate];exact RowV.new _ _ _)
 have B0:=Lib.hid (show Below g wf w0 from by rw[hw0,hg];exact below_alloc _)
 rw[<-hw0]at hmk;clear hn hx h hT hg hw0;go_enter Tryz.func35,Tryz.ntmps35;go_wp2;go_loopw [14] (fun i wr=> ∃j:Nat,j<=n/\i= .int .i64 j/\Hid (RowZ g (fillZ (coresOf S) n j) wr)/\Hid (fstX ((S.map faultS).take j)=0)/\Hid (Below g wf wr)) (fun i _=>n - (intOf i).toNat)
 case atStart=>exact⟨0,Nat.zero_le _,rfl,H0,Lib.hid (by simp[fstX]),B0⟩
 case round=>
  obtain⟨j,hj,rfl,HR,HZ,HB⟩:=hrel;clear hmk
  by_cases hlt:j<n
  ·obtain ⟨b,off,t,lg,mo,d,p,rfl,hbg,hek,c0,c1,c2,c3,c4⟩:=(HS.out wr (by rw [<- HG.out]; exact HB.out)).at_ (k:=j) (by rw [HN.out]; exact hlt)
   have HK:=Lib.hid hek;clear hek;obtain⟨z,hz⟩: ∃z,z=coresS ⟨t,lg,mo,d,p⟩:=⟨_,rfl⟩;obtain⟨y,hy⟩: ∃y,y=faultS ⟨t,lg,mo,d,p⟩:=⟨_,rfl⟩;have HZN:=Lib.hid (fstX_next HZ.out (show(S.map faultS)[j]? =some y by rw[List.getElem?_map,HK.out,hy];rfl))
   have HSZ:=Lib.hid (show(coresOf S)[j]? =some z by rw[hz];exact coresOf_at HK.out)
   have CS:=Lib.hid (fun W (hD:DTab W)=>ccores_any ⟨t,lg,mo,d,p⟩ W hD)
   have HD:=Lib.hid (HTB.out _ ((show Below wf.heap.size wf wr by rw[<-HG.out];exact HB.out).alloc (by rw[<-HG.out];exact Nat.le_of_lt (RowV.lt HR.out)) (.cells #[.int .i64 t,.int .i64 lg,.int .i64 mo,.int .i64 d,.int .i64 p] 44)))
   rw[<-hz,<-hy]at CS;unfold Shp.val at CS;clear hz hy;dsimp only at CS;go_wp2_with fail;refine(CS.out _ HD.out).mono ?_
   rintro e w1 ⟨rfl,b1⟩;have HB1:=Lib.hid ((below_alloc (.cells #[.int .i64 t,.int .i64 lg,.int .i64 mo,.int .i64 d,.int .i64 p] 44)).trans (b1.mono (by simp)))
   clear b1 c0 c1 c2 c3 c4 CS HD
   by_cases hy0:y=0
   ·subst hy0
    have hR2:RowZ g (fillZ (coresOf S) n j) w1:=RowV.below HR.out HB1.out (RowV.lt HR.out);obtain⟨_,k0⟩:=hR2.cells (k:=j) (by rw[fillZ_len (by rw[coresOf_len,HN.out]) hj];exact hlt)
    have f0:=RowV.frozen hR2 j;have hR3:=hR2.set j z;rw[fillZ_set (by rw[coresOf_len,HN.out]) HSZ.out]at hR3
    have HR3:=Lib.hid hR3;clear hR2 hR3;go_wp2;go_roundw
    case rel=>
     refine⟨j+1,by omega,by go_num,HR3,Lib.hid (HZN.out.1 (by trivial)),Lib.hid ?_⟩
     have q:=HB.out.trans (HB1.out.mono (by have:=RowV.lt HR.out;omega))
     exact q.setCell (p:=⟨g,_,none⟩) (Nat.le_refl g) _
    case measure=>simp[intOf];omega
   ·have HF:=Lib.hid (HX.out.trans (HZN.out.2 hy0))
    have hgd:(y==0)=false:=by simpa using hy0
    go_wp2;refine bodyPost_ret (v:=.tuple #[.slice none 0 0,.int .i64 y]) ?_ rfl ⟨none,0,0,by rw[HF.out],?_,.inr ⟨by rw[HF.out];exact hy0,rfl,rfl,rfl⟩⟩
    ·simp[results,Tryz.results35,go_sem]
    ·rw [<- HG.out]
     exact HB.out.trans (HB1.out.mono (by have:=RowV.lt HR.out;omega))
  ·obtain rfl: j = n:=by omega
   go_wp2;refine bodyPost_ret (v:=.tuple #[.slice (some ⟨g,0,none⟩) j j,.int .i64 0]) ?_ rfl ⟨some ⟨g,0,none⟩,j,j,?_,?_,.inl ⟨?_,rfl,?_,fun e=>by cases e⟩⟩
   ·simp[results,Tryz.results35,go_sem]
   ·have:=HZ.out
    rw[List.take_of_length_le (by rw[List.length_map,HN.out];exact Nat.le_refl _)]at this
    rw[HX.out,this]
   ·rw[<-HG.out];exact HB.out
   ·have:=HZ.out
    rw[List.take_of_length_le (by rw[List.length_map,HN.out];exact Nat.le_refl _)]at this
    rw[HX.out,this]
   ·have:=HR.out
    rw[fillZ_all (by rw[coresOf_len,HN.out])]at this
    exact this.ints
def idxT:List Shp->List Nat
 | []=> []
 |s::S=>if heavyS s=true then(idxT S).map (· +1)else 0::(idxT S).map (· +1)
theorem idxT_len: ∀S:List Shp,(idxT S).length=(lightP S).length
  | []=>rfl
  | s :: S => by
    rw[lightP_cons];unfold idxT
    split<;>simp[idxT_len S]
theorem idxT_app: ∀(A B:List Shp),idxT (A++B)=idxT A++(idxT B).map (· +A.length)
  | [],B=>by simp[idxT]
  | s :: A, B => by
    simp only[List.cons_append,idxT,idxT_app A B]
    split
    · simp only[List.map_append,List.map_map,List.length_cons];congr 1
    · simp only[List.map_append,List.map_map,List.length_cons,List.cons_append];congr 2
theorem idxT_snoc{S:List Shp}{j:Nat}{s:Shp}(h:S[j]? =some s):idxT (S.take (j+1))=idxT (S.take j)++if heavyS s=true then []else [j]:=by
 have hl:=(List.getElem?_eq_some_iff.mp h).1
 have hl2:(S.take j).length=j:=by rw[List.length_take];omega
 rw[take_one h,idxT_app];congr 1;simp only[idxT,hl2]
 split<;>simp
theorem lightP_snoc{S:List Shp}{j:Nat}{s:Shp}(h:S[j]? =some s):lightP (S.take (j+1))=lightP (S.take j)++if heavyS s=true then []else [s]:=by
 rw[take_one h,lightP_app,lightP_cons]
 split<;>simp[lightP]
theorem idxT_lt: ∀{S:List Shp} {i:Nat},i∈idxT S->i<S.length
  | [],i,h=>by simp[idxT]at h
  | s :: S, i, h => by
    unfold idxT at h
    split at h
    · obtain⟨k,hk,rfl⟩:=List.mem_map.mp h;have:=idxT_lt hk;simp;omega
    · rcases List.mem_cons.mp h with rfl|h
      · simp
      · obtain⟨k,hk,rfl⟩:=List.mem_map.mp h;have:=idxT_lt hk;simp;omega
def atK(u:Int):Int->List Shp->List Int->Nat->List (List Int)
 |_,[],_,_=> []
 | nx,s :: S,L,k => if heavyS s = true then upto nx (coresS s).toNat :: atK u (nx + coresS s) S L k else
   match k with
   |0=> []::atK u nx S L.tail 0
   |k+1=> [u+L.headD 0]::atK u nx S L.tail k
theorem atK_zero(u:Int): ∀(S:List Shp) (nx:Int) (L:List Int),atK u nx S L 0=atH nx S
  | [],_,_=>rfl
  | s :: S, nx, L => by
    simp only[atK,atH]
    split
    · rw[atK_zero u S]
    · rw[atK_zero u S]
theorem atK_all(u:Int): ∀(S:List Shp) (nx:Int) (L:List Int) (k:Nat),(lightP S).length<=k->atK u nx S L k=atP u nx S L
  | [],_,_,_,_=>by simp[atK,atP]
  | s :: S, nx, L, k, h => by
    rw[lightP_cons]at h;simp only[atK,atP]
    split
    · rename_i hh
      rw[hh,if_pos rfl]at h;rw[atK_all u S _ _ _ h]
    · rename_i hh
      rw[if_neg hh]at h;cases k with
      |zero=>simp at h
      | succ k =>
        simp only;rw[atK_all u S _ _ _ (by simpa using h)]
theorem atK_len(u:Int): ∀(S:List Shp) (nx:Int) (L:List Int) (k:Nat),(atK u nx S L k).length=S.length
  | [],_,_,_=>rfl
  | s :: S, nx, L, k => by
    simp only[atK]
    split
    · simp[atK_len u S]
    · cases k<;>simp[atK_len u S]
theorem atK_set(u:Int): ∀(S:List Shp) (nx:Int) (L:List Int) (k i:Nat),(idxT S)[k]? =some i->(atK u nx S L k).set i [u+(L.drop k).headD 0]=atK u nx S L (k+1)
  | [],_,_,_,_,h=>by simp[idxT]at h
  | s :: S, nx, L, k, i, h => by
    unfold idxT at h
    by_cases hh:heavyS s=true
    · rw[if_pos hh]at h;rw[List.getElem?_map]at h
      obtain⟨i',hi',rfl⟩:=Option.map_eq_some_iff.mp h;simp only[atK,if_pos hh,List.set_cons_succ];rw[atK_set u S _ _ _ _ hi']
    · rw[if_neg hh]at h;cases k with
      | zero =>
        obtain rfl:0=i:=by simpa using h
        simp only[atK,if_neg hh,List.set_cons_zero,List.drop_zero]
      | succ k =>
        rw[List.getElem?_cons_succ,List.getElem?_map]at h
        obtain⟨i',hi',rfl⟩:=Option.map_eq_some_iff.mp h;simp only[atK,if_neg hh,List.set_cons_succ];have:=atK_set u S nx L.tail k i' hi';rw[List.drop_tail]at this;rw[this]
theorem atH_take{S:List Shp}{j:Nat}{s:Shp}(h:S[j]? =some s)(nx:Int):atH nx (S.take (j+1))=atH nx (S.take j)++ [if heavyS s=true then upto (nx+usedP (S.take j)) (coresS s).toNat else []]:=by
 rw[take_one h,atH_app];simp only[atH]
 split<;>rfl
def fillH(S:List Shp)(n j:Nat):List (List Int):=atH 0 (S.take j)++List.replicate (n - j) []
theorem fillH_zero(S:List Shp)(n:Nat):fillH S n 0=List.replicate n []:=by simp[fillH,atH]
theorem fillH_all{S:List Shp}{n:Nat}(h:S.length=n):fillH S n n=atH 0 S:=by simp[fillH,<-h]
theorem fillH_len{S:List Shp}{n j:Nat}(h:S.length=n)(hj:j<=n):(fillH S n j).length=n:=by simp[fillH,atH_len];omega
theorem fillH_set{S:List Shp}{n j:Nat}{s:Shp}(h:S.length=n)(hs:S[j]? =some s):(heavyS s=true->(fillH S n j).set j (upto (usedP (S.take j)) (coresS s).toNat)=fillH S n (j+1))/\(heavyS s=false->fillH S n j=fillH S n (j+1)):=by
 have hl:=(List.getElem?_eq_some_iff.mp hs).1
 have hl2:(atH 0 (S.take j)).length=j:=by rw[atH_len,List.length_take];omega
 unfold fillH;rw[atH_take hs,show n - j=(n - (j+1))+1 by omega,List.replicate_succ,Int.zero_add]
 constructor
 ·intro hh
  rw[hh,if_pos rfl,List.set_append_right _ _ (by omega),hl2,Nat.sub_self,List.set_cons_zero,List.append_assoc]
  rfl
 ·intro hh
  rw[hh,if_neg (by simp),List.append_assoc]
  rfl
def IntsUp(w:World)(lo:Nat)(A:Option Addr)(zs:List Int):Prop:=
 0<zs.length-> ∃b off,A=some ⟨b,off,none⟩/\lo<=b/\b<w.heap.size/\ ∀k,k<zs.length->w.cell? ⟨b,off+k,none⟩=some (.int .i64 (zs.getD k 0))
def ElV(w:World)(lo:Nat)(r:List Int)(v:Value):Prop:=∃ A n d,v= .slice A n d/\r.length=n/\IntsUp w lo A r/\(A=none->n=0/\d=0)
def AtB(g:Nat)(t:List (List Int))(w:World):Prop:=∃ vs,RowV g 40 vs w/\vs.length=t.length/\ ∀(k:Nat) r v,t[k]? =some r->vs[k]? =some v->ElV w (g+1) r v
theorem IntsUp.turn{w w':World}{c lo:Nat}{A:Option Addr}{zs:List Int}(h:IntsUp w lo A zs)(ht:Turn1 c w w')(hc:c<lo):IntsUp w' lo A zs:=fun hn=>by
 obtain⟨b,off,e,h1,h2,h3⟩:=h hn;exact⟨b,off,e,h1,Nat.lt_of_lt_of_le h2 ht.size,fun k hk=>(World.cell?_of_block (a:=⟨b,off+k,none⟩) (ht.block b h2 (by omega))).trans (h3 k hk)⟩
theorem ElV.turn{w w':World}{c lo:Nat}{r:List Int}{v:Value}(h:ElV w lo r v)(ht:Turn1 c w w')(hc:c<lo):ElV w' lo r v:=by
 obtain⟨A,n,d,e,h1,h2,h3⟩:=h;exact⟨A,n,d,e,h1,h2.turn ht hc,h3⟩
theorem AtB.lt{g:Nat}{t:List (List Int)}{w:World}(h:AtB g t w):g<w.heap.size:=by
 obtain⟨vs,h1,_⟩:=h;exact h1.lt
theorem AtB.turn{w w':World}{c g:Nat}{t:List (List Int)}(h:AtB g t w)(ht:Turn1 c w w')(hc:c<g):AtB g t w':=by
 obtain⟨vs,h1,h2,h3⟩:=h;refine⟨vs,?_,h2,fun k r v hr hv=>(h3 k r v hr hv).turn ht (by omega)⟩
 unfold RowV;rw[ht.block g h1.lt (by omega)]
 exact h1
theorem AtB.next{w w':World}{g:Nat}{t:List (List Int)}(h:AtB g t w)(hb:Below w.heap.size w w'):AtB g t w':=by
 obtain⟨vs,h1,h2,h3⟩:=h;refine⟨vs,h1.below hb h1.lt,h2,fun k r v hr hv=> ?_⟩
 obtain⟨A,n,d,e,q1,q2,q3⟩:=h3 k r v hr hv;refine⟨A,n,d,e,q1,fun hn=> ?_,q3⟩
 obtain⟨b,off,e,p1,p2,p3⟩:=q2 hn;exact⟨b,off,e,p1,Nat.lt_of_lt_of_le p2 hb.size,fun k hk=>(hb.cell (p:=⟨b,off+k,none⟩) p2).trans (p3 k hk)⟩
theorem AtB.set{w:World}{g:Nat}{t:List (List Int)}(h:AtB g t w)(k:Nat){r:List Int}{v:Value}(hv:ElV w (g+1) r v):AtB g (t.set k r) (w.setCell ⟨g,k,none⟩ v):=by
 obtain⟨vs,h1,h2,h3⟩:=h;have ht:Turn1 g w (w.setCell ⟨g,k,none⟩ v):=⟨rfl,rfl,rfl,by simp,fun j hj hne=>Below.heap_setCell w ⟨g,k,none⟩ v j hne⟩
 refine⟨vs.set k v,h1.set k v,by simp[h2],fun j r' v' hr hv'=> ?_⟩
 by_cases e:k=j
 ·subst e
  have l1:k<t.length:=by have:=(List.getElem?_eq_some_iff.mp hr).1;simpa using this
  rw[List.getElem?_set_self l1]at hr
  rw[List.getElem?_set_self (by omega)]at hv'
  obtain rfl:=Option.some.inj hr;obtain rfl:=Option.some.inj hv';exact hv.turn ht (by omega)
 ·rw [List.getElem?_set_ne e] at hr hv'
  exact(h3 j r' v' hr hv').turn ht (by omega)
theorem AtB.cell{w:World}{g:Nat}{t:List (List Int)}(h:AtB g t w){k:Nat}(hk:k<t.length): ∃v,w.cell? ⟨g,k,none⟩=some v/\w.frozen? ⟨g,k,none⟩=false:=by
 obtain⟨vs,h1,h2,h3⟩:=h;exact⟨vs[k],h1.cell (List.getElem?_eq_getElem (by omega)),h1.frozen k⟩
theorem AtB.lol{w:World}{g:Nat}{t:List (List Int)}(h:AtB g t w):Lol w w.heap.size (some ⟨g,0,none⟩) t:=fun hn=>by
 have hlt:=h.lt;obtain⟨vs,h1,h2,h3⟩:=h;refine⟨g,0,rfl,hlt,fun k r hr=> ?_⟩
 have hk:=(List.getElem?_eq_some_iff.mp hr).1
 obtain⟨A,n,d,e,q1,q2,q3⟩:=h3 k r _ hr (List.getElem?_eq_getElem (by omega))
 refine⟨A,d,?_,fun hn=> ?_,by rw[q1];exact q3⟩
 ·rw [Nat.zero_add,q1,<- e]
  exact h1.cell (List.getElem?_eq_getElem (by omega))
 ·obtain ⟨b,off,e,p1,p2,p3⟩:=q2 hn
  exact⟨b,off,e,p2,p3⟩
theorem ElV.of{w:World}{lo base:Nat}{v:Value}{zs:List Int}(h:OwnI w base v zs)(hb:lo<=base):ElV w lo zs v:=by
 rcases h.2 with⟨rfl,h0⟩|⟨g,cap,cur,rfl,hg,hh,h1,h2,h3,h4⟩
 ·exact⟨none,0,0,rfl,h0,fun hn=>by omega,fun _=>⟨rfl,rfl⟩⟩
 ·refine ⟨some ⟨g,0,none⟩,zs.length,cap,rfl,rfl,fun hn => ⟨g,0,rfl,by omega,(Array.getElem?_eq_some_iff.1 hh).1,fun k hk => ?_⟩,fun e => by cases e⟩
  have:=h.cells (g:=g) rfl k (.int .i64 (zs.getD k 0)) (by rw[List.getElem?_map,List.getElem?_eq_getElem hk,List.getD_eq_getElem?_getD,List.getElem?_eq_getElem hk];rfl)
  rw[addr_add]at this;exact this
theorem AtB.new(w:World)(n:Nat):AtB w.heap.size (List.replicate n []) (w.alloc (.cells (List.replicate n (Value.slice none 0 0)).toArray 40)):=
 ⟨_,RowV.new _ _ _,by simp,fun k r v hr hv=>by
  have h1:r= []:=List.eq_of_mem_replicate (List.mem_of_getElem? hr)
  have h2:v= .slice none 0 0:=List.eq_of_mem_replicate (List.mem_of_getElem? hv)
  exact⟨none,0,0,h2,by rw[h1];rfl,fun hn=>by rw[h1]at hn;simp at hn,fun _=>⟨rfl,rfl⟩⟩⟩
theorem lists_info:(Tryz.prog.info? 40).map (fun i=>(i.zero,i.size,i.bytes))=some (some (.slice none 0 0),1,24):=by kernel_rfl
theorem make_lists(n:Nat)(hn:n<=1000)(W:World):(Instr.makeSlice 26 (.int .i64 n) (.int .i64 n)).run Tryz.prog W= .ok (.slice (some ⟨W.heap.size,0,none⟩) n n) (W.alloc (.cells (List.replicate n (Value.slice none 0 0)).toArray 40)):=by
  obtain⟨i0,hi,hz0,hz1,hz2⟩: ∃i,Tryz.prog.info? 40=some i/\i.zero=some (.slice none 0 0)/\i.size=1/\i.bytes=24:=by
    have h:=lists_info;cases hi:Tryz.prog.info? 40 with
    |none=>rw[hi]at h;cases h
    | some i =>
      rw[hi]at h;simp at h;exact⟨i,rfl,h.1,h.2.1,h.2.2⟩
  have h:=run_make (P:=Tryz.prog) W 26 40 i0 (.slice none 0 0) Tryz.underlying26 hi hz0 .i64 .i64 n n (by omega) (by omega) (by rw[hz2];omega) (by omega)
  rw[hz1]at h;have e:madeCells (Value.slice none 0 0).cells (((n:Int)).toNat * 1)=(List.replicate n (Value.slice none 0 0)).toArray:=by
    apply Array.toList_inj.mp
    rw[show(Value.slice none 0 0).cells= #[Value.slice none 0 0]from rfl,toList_madeCells_one]
    simp
  rw[e]at h;exact h
section
variable {P: Program} {Q: Exit -> Act -> World -> Prop}
theorem ux_val{o:Oper}{a:Act}{w:World}{k d:Nat}{Φ:Nat->Value->World->Prop}{R:Nat->World->World->Prop}{K:Act->World->Prop}(hK: ∀v w',(∀u,(d<1000->u=v)->Φ k u w')->R k w w'->K (a.put o.dst v) w')
  {ρ:Operand->Value} (hρ:a.eval=ρ) (hd:d<1000) (v:Value) (w':World) (hr:(execOp ρ o).run P w= .ok (.value v) w') (hv:Φ k v w') (hb:R k w w'):o.wp P a w K Q:=by
 subst hρ;unfold Oper.wp;rw[hr,Oper.upon_value];exact hK v w' (fun u hu=>by rw[hu hd];exact hv) hb
theorem ux_call{o:Oper}{a:Act}{w:World}{k d:Nat}{Φ:Nat->Value->World->Prop}{R:Nat->World->World->Prop}{K:Act->World->Prop}(hK: ∀v w',(∀u,(d<1000->u=v)->Φ k u w')->R k w w'->K (a.put o.dst v) w')
  {ρ:Operand->Value} (hρ:a.eval=ρ) (hd:d<1000) (f:FuncId) (xs:Array Operand) (tys:Array TypeId) (vs:Array Value)
  (ho:o.op= .call {callee:=.value (.func f),args:=xs,argTypes:=tys}) (hxs:xs.map ρ=vs) (eg: ∀args w,(callFunc f args).run P w= .ok (.enter f args) w)
  (h:Calls P f vs w fun e w'=> ∃v,e= .returned v/\Φ k v w'/\R k w w'):o.wp P a w K Q:=by
 subst hρ;have hr:(execOp a.eval o).run P w= .ok (.enter f vs) w:=by
  have:=eg vs w;simp[execOp,ho,resolve,hxs,invoke,Deferred.ofValue,Act.eval,this,go_sem]
 unfold Oper.wp;rw[hr,Oper.upon_enter];refine h.mono fun e w' ⟨v,he,hv,hb⟩=> ?_
 subst he;exact hK v w' (fun u hu=>by rw[hu hd];exact hv) hb
theorem wp_region_univ0{ops:Array Oper}(ds:List Nat){id:Nat}{a0:Act}{w0:World}(hm:P.follows .mixedOrders=true)(hG:univB ops ds []=true)(hN:(ops.toList.all fun o:Oper=>o.guard.isNone)=true)(hsz: ∀d∈ds,d<a0.tmps.size\/1000<=d)(hs1:a0.tmps.size<=1000)
  (I:World->Prop) (Φ:Nat->Value->World->Prop) (Pre:Nat->World->Prop) (R:Nat->World->World->Prop)
  (hI: ∀i w w',I w->R i w w'->I w') (hΦ: ∀i k v w w',k≠i->(∀p:Oper,ops[k]? =some p->(p.after.any fun e=>e.on==i&&Region.binds .any e)=false)->Φ k v w->R i w w'->Φ k v w') (hP: ∀i k w w',k≠i->Pre k w->R i w w'->Pre k w')
  (h0:I {w0 with drawn:=w0.drawn+1}) (hp0: ∀k,Pre k {w0 with drawn:=w0.drawn+1})
  (hstep: ∀ (k: Nat) (o: Oper),ops[k]? = some o -> ∀ (a: Act) (w: World),I w -> Pre k w -> AtDoor a0 ds a.eval -> (∀ e ∈ o.after,Region.binds .any e = true -> Φ e.on (a.eval (.tmp (ds.getD e.on 0))) w) ->
   (∀(j:Nat) (p:Oper),ops[j]? =some p->(p.after.any fun e=>e.on==k&&Region.binds .any e)=true->a.eval (.tmp (ds.getD j 0))=a0.eval (.tmp (ds.getD j 0)))->
   ∀K:Act->World->Prop,(∀v w',(∀u,(ds.getD k 0<1000->u=v)->Φ k u w')->R k w w'->K (a.put o.dst v) w')->o.wp P a w K Q)
  (hend: ∀(vals:Nat->Value) (w:World),I w->(∀k,k<ds.length->Φ k (vals (ds.getD k 0)) w)->Q .normal ⟨(fillA a0 ds vals).toArray,a0.defers⟩ w):
  (Code.region id ops true).wp P Q a0 w0:=
 wp_region_univ ds [] hm hG hsz hs1 I Φ Pre R hI hΦ hP h0 hp0 (fun k o g b ho hg=>by
  have:=List.all_eq_true.1 hN o (by rw[Array.mem_toList_iff];exact Array.mem_of_getElem? ho)
  rw[hg]at this;cases this) (fun k h=>by simp at h) (fun k o ho _=>hstep k o ho) hend
def RBel:Nat->World->World->Prop:=fun _ w w'=>Below w.heap.size w w'
theorem wp_region_b{ops:Array Oper}(ds:List Nat){id:Nat}{a0:Act}{w0:World}(hm:P.follows .mixedOrders=true)(hG:univB ops ds []=true)(hN:(ops.toList.all fun o:Oper=>o.guard.isNone)=true)(hsz: ∀d∈ds,d<a0.tmps.size\/1000<=d)(hs1:a0.tmps.size<=1000)
  (Φ:Nat->Value->World->Prop) (hΦ: ∀k v w w',Φ k v w->Below w.heap.size w w'->Φ k v w')
  (hstep: ∀ (k: Nat) (o: Oper),ops[k]? = some o -> ∀ (a: Act) (w: World),Below w0.heap.size w0 w -> AtDoor a0 ds a.eval -> (∀ e ∈ o.after,Region.binds .any e = true -> Φ e.on (a.eval (.tmp (ds.getD e.on 0))) w) ->
   ∀K:Act->World->Prop,(∀v w',(∀u,(ds.getD k 0<1000->u=v)->Φ k u w')->RBel k w w'->K (a.put o.dst v) w')->o.wp P a w K Q)
  (hend: ∀(vals:Nat->Value) (w:World),Below w0.heap.size w0 w->(∀k,k<ds.length->Φ k (vals (ds.getD k 0)) w)->Q .normal ⟨(fillA a0 ds vals).toArray,a0.defers⟩ w):
  (Code.region id ops true).wp P Q a0 w0:=
 wp_region_univ0 ds hm hG hN hsz hs1 (fun w=>Below w0.heap.size w0 w) Φ (fun _ _=>True) RBel (fun i w w' h hr=>h.trans (Below.mono hr h.size)) (fun i k v w w' _ _ h hr=>hΦ k v w w' h hr) (fun _ _ _ _ _ _ _=>trivial)
  (Below.refl _ _).drew (fun _=>trivial) (fun k o ho a w hI _ hA hd _ K hK=>hstep k o ho a w hI hA hd K hK) hend
theorem own_grown{w w':World}{b:Nat}{e:TypeId}{s n:Nat}{v:Value}{xs:List Value}{row:Option Nat}(h:w.ownsRow b e s v n xs)(hg:w.grownBy w' row)(hne: ∀g,v.ownBlock=some g->row≠some g):w'.ownsRow b e s v n xs:=by
 refine⟨h.1,?_⟩
 rcases h.2 with q|⟨g,cap,cur,rfl,hbg,hh,rest⟩
 ·exact .inl q
 ·refine .inr ⟨g,cap,cur,rfl,hbg,?_,rest⟩
  rw[hg.block g (Array.getElem?_eq_some_iff.1 hh).1 (fun q=>hne g rfl q.symm)]
  exact hh
theorem own_apart{w:World}{b1 b2:Nat}{e1 e2:TypeId}{s1 s2 n1 n2:Nat}{v1 v2:Value}{xs1 xs2:List Value}(h1:w.ownsRow b1 e1 s1 v1 n1 xs1)(h2:w.ownsRow b2 e2 s2 v2 n2 xs2)(he:e1≠e2): ∀g,v1.ownBlock=some g->v2.ownBlock≠some g:=by
 intro g hg hg2;rcases h1.2 with⟨rfl,_⟩|⟨g1,cap1,cur1,rfl,_,hh1,_⟩
 ·cases hg
 ·rcases h2.2 with ⟨rfl,_⟩ | ⟨g2,cap2,cur2,rfl,_,hh2,_⟩
  ·cases hg2
  ·injection hg with hg
   injection hg2 with hg2;simp only at hg hg2;rw[hg]at hh1;rw[hg2,hh1]at hh2;injection hh2 with hh2;injection hh2 with _ hh2;exact he hh2
theorem own_at{w:World}{b:Nat}{e:TypeId}{s n:Nat}{v:Value}{xs:List Value}(h:w.ownsRow b e s v n xs){g:Nat}(hg:v.ownBlock=some g):b<=g/\ ∃cur,w.heap[g]? =some (.cells cur e (0,0)):=by
 rcases h.2 with⟨rfl,_⟩|⟨g1,cap1,cur1,rfl,hb,hh1,_⟩
 ·cases hg
 ·injection hg with hg
  simp only at hg;subst hg;exact⟨hb,cur1,hh1⟩
end
theorem int_info: ∃i,Tryz.prog.info? 3=some i/\i.zero=some (.int .i64 0)/\i.size=1/\i.bytes=8:=by
  have h:=int_cell_info;cases hi:Tryz.prog.info? 3 with
  |none=>rw[hi]at h;cases h
  | some i =>
    rw[hi]at h;simp at h;exact⟨i,rfl,h.1,h.2.1,h.2.2⟩
theorem push_int{w:World}{base b n:Nat}{v:Value}{zs:List Int}{x:Int}(hn:zs.length=n)(hO:OwnI w base v zs)(hb:w.heap[b]? =some (.cells #[.int .i64 x] 3 (0,0)))(hl:n<=900)(hB:base<=w.heap.size):
    ∃F d w',(Builtin.append_ #[40,40] 40 #[v, .slice (some ⟨b,0,none⟩) 1 1]).run Tryz.prog w= .ok (.slice F (n+1) d) w'/\OwnI w' base (.slice F (n+1) d) (zs++ [x])/\w.grownBy w' v.ownBlock:=by
  obtain⟨i0,hi0,hz0,hz1,hz2⟩:=int_info;obtain⟨v',w',hr,ho,hg, -⟩:=run_append_own (P:=Tryz.prog) w base 40 40 3 i0 (.int .i64 0) 1 8 Tryz.underlying40 hi0 hz0 hz1 hz2 rfl (by decide) v zs.length (zs.map (Value.int .i64)) hO ⟨b,0,none⟩ 1 1 [.int .i64 x] rfl
    (fun j u hj=>by
      match j with
      | 0 =>
        obtain rfl:Value.int .i64 x=u:=by simpa using hj
        rw[addr_add];exact cell_of_row _ _ _ _ _ _ hb▸rfl
      | j + 1 => simp at hj) (fun u hu => by obtain rfl : u = .int .i64 x := by simpa using hu
                                             rfl) (by unfold maxLen;omega) (by omega) hB
  have hO':OwnI w' base v' (zs++ [x]):=by
    unfold OwnI;rw[List.length_append,List.length_singleton,List.map_append];exact ho
  obtain⟨F,d,rfl,_⟩:=hO'.slice;rw[List.length_append,List.length_singleton,hn]at hr hO';exact⟨F,d,w',hr,hO',hg⟩
theorem push_shp{w:World}{base b n:Nat}{v:Value}{es:List Shp}{s:Shp}(hn:es.length=n)(hO:OwnS w base v es)(hb:w.heap[b]? =some (.cells (shpC s).toArray 44 (0,0)))(hl:n<=900)(hB:base<=w.heap.size):
  ∃F d w',(Builtin.append_ #[25,25] 25 #[v,.slice (some ⟨b,0,none⟩) 1 1]).run Tryz.prog w= .ok (.slice F (n+1) d) w'/\OwnS w' base (.slice F (n+1) d) (es++ [s])/\w.grownBy w' v.ownBlock:=by
 obtain⟨i0,hi0,hz0,hz1,hz2⟩:=shape_info;obtain⟨v',w',hr,ho,hg,-⟩:=run_append_own (P:=Tryz.prog) w base 25 25 44 i0 (.agg #[.int .i64 0,.int .i64 0,.int .i64 0,.int .i64 0,.int .i64 0]) 5 40 Tryz.underlying25 hi0 hz0 hz1 hz2 rfl (by decide) v es.length (flatS es) hO ⟨b,0,none⟩ 1 1 (shpC s) rfl
  (fun j x hx=>World.news_of_block hb j x (by simpa using hx)) (fun u hu=>by rcases(by simpa[shpC]using hu:u= .int .i64 s.t\/u= .int .i64 s.l\/u= .int .i64 s.m\/u= .int .i64 s.d\/u= .int .i64 s.p)with rfl|rfl|rfl|rfl|rfl<;>rfl) (by unfold maxLen;omega) (by omega) hB
 have hO':OwnS w' base v' (es++ [s]):=by
  unfold OwnS;rw[List.length_append,List.length_singleton,flatS_app];have e:flatS [s]=shpC s:=by simp[flatS]
  rw[e];exact ho
 obtain⟨F,d,rfl,_⟩:=hO'.slice;rw[List.length_append,List.length_singleton,hn]at hr hO';exact⟨F,d,w',hr,hO',hg⟩
def PhiPl(B j q:Nat)(vP vL:Value)(zs:List Int)(es:List Shp)(s:Shp):Nat->Value->World->Prop
 |0,v,w=>v=vP
 |1,v,w=>v= .int .i64 j
 |2,v,w=> ∃b,v= .slice (some ⟨b,0,none⟩) 1 1/\w.heap[b]? =some (.cells #[.int .i64 j] 3 (0,0))/\vP.ownBlock≠some b
 |3,v,w=> ∃F d,v= .slice F (q+1) d/\OwnI w B v (zs++ [(j:Int)])
 |4,v,w=>v=vL
 |5,v,w=>v= .agg #[.int .i64 s.t,.int .i64 s.l,.int .i64 s.m,.int .i64 s.d,.int .i64 s.p]
 |6,v,w=> ∃b,v= .slice (some ⟨b,0,none⟩) 1 1/\w.heap[b]? =some (.cells (shpC s).toArray 44 (0,0))/\vL.ownBlock≠some b
 |7,v,w=> ∃F d,v= .slice F (q+1) d/\OwnS w B v (es++ [s])
 |8,v,w=> ∃F d,v= .slice F (q+1) d/\OwnI w B v (zs++ [(j:Int)])
 |9,v,w=> ∃F d,v= .slice F (q+1) d/\OwnS w B v (es++ [s])
 |_,_,_=>True
def PrePl(B:Nat)(vP vL:Value)(zs:List Int)(es:List Shp):Nat->World->Prop
 |3,w=>OwnI w B vP zs
 |7,w=>OwnS w B vL es
 |_,_=>True
def RPl(B:Nat)(vP vL:Value)(zs:List Int)(es:List Shp):Nat->World->World->Prop
 |3,w,w'=>OwnI w B vP zs/\w.grownBy w' vP.ownBlock
 |7,w,w'=>OwnS w B vL es/\w.grownBy w' vL.ownBlock
 |_,w,w'=>Below w.heap.size w w'
theorem rPl_ways{B:Nat}{vP vL:Value}{zs:List Int}{es:List Shp}{i:Nat}{w w':World}(h:RPl B vP vL zs es i w w'):(i=3/\OwnI w B vP zs/\w.grownBy w' vP.ownBlock)\/(i=7/\OwnS w B vL es/\w.grownBy w' vL.ownBlock)\/(i≠3/\i≠7/\Below w.heap.size w w'):=by
 match i,h with
 |3,h=>exact .inl ⟨rfl,h⟩
 |7,h=>exact .inr (.inl ⟨rfl,h⟩)
 |0,h=>exact .inr (.inr ⟨by decide,by decide,h⟩)
 |1,h=>exact .inr (.inr ⟨by decide,by decide,h⟩)
 |2,h=>exact .inr (.inr ⟨by decide,by decide,h⟩)
 |4,h=>exact .inr (.inr ⟨by decide,by decide,h⟩)
 |5,h=>exact .inr (.inr ⟨by decide,by decide,h⟩)
 |6,h=>exact .inr (.inr ⟨by decide,by decide,h⟩)
 |i+8,h=>exact .inr (.inr ⟨by omega,by omega,h⟩)
theorem int_ne_shape:(3:TypeId)≠44:=by decide
section
variable {B j q: Nat} {vP vL: Value} {zs: List Int} {es: List Shp} {s: Shp}
theorem OwnS.grown{w w':World}{row:Option Nat}{v:Value}(h:OwnS w B v es)(hg:w.grownBy w' row)(hne: ∀g,v.ownBlock=some g->row≠some g):OwnS w' B v es:=own_grown h hg hne
theorem OwnI.grown{w w':World}{row:Option Nat}{v:Value}(h:OwnI w B v zs)(hg:w.grownBy w' row)(hne: ∀g,v.ownBlock=some g->row≠some g):OwnI w' B v zs:=own_grown h hg hne
theorem heap_grown{w w':World}{row:Option Nat}{b:Nat}{o:Obj}(hg:w.grownBy w' row)(h:w.heap[b]? =some o)(hne:row≠some b):w'.heap[b]? =some o:=by
 rw[hg.block b (Array.getElem?_eq_some_iff.1 h).1 (fun e=>hne e.symm)]
 exact h
theorem heap_below{w w':World}{b:Nat}{o:Obj}(hb:Below w.heap.size w w')(h:w.heap[b]? =some o):w'.heap[b]? =some o:=by
 rw[hb.block b (Array.getElem?_eq_some_iff.1 h).1]
 exact h
theorem own_ne{w:World}{b:Nat}{e e':TypeId}{sz n:Nat}{v:Value}{xs:List Value}{cs:Array Value}{g:Nat}(h:w.ownsRow b e sz v n xs)(hg:w.heap[g]? =some (.cells cs e' (0,0)))(he:e≠e'):v.ownBlock≠some g:=fun hv=>by
 obtain⟨_,cur,hh⟩:=own_at h hv;rw[hg]at hh;injection hh with hh;injection hh with _ hh;exact he hh.symm
theorem phiPl_keep{i k:Nat}{v:Value}{w w':World}(hki:k≠i)(h83: ¬(k=8/\i=3))(h97: ¬(k=9/\i=7))(h:PhiPl B j q vP vL zs es s k v w)(hr:RPl B vP vL zs es i w w'):PhiPl B j q vP vL zs es s k v w':=by
 rcases rPl_ways hr with⟨rfl,hO,hg⟩|⟨rfl,hO,hg⟩|⟨_,_,hb⟩
 ·match k,h with
  |0,h=>exact h
  |1,h=>exact h
  |2,⟨b,e,h1,h2⟩=>exact⟨b,e,heap_grown hg h1 h2,h2⟩
  |3,h=>exact absurd rfl hki
  |4,h=>exact h
  |5,h=>exact h
  |6,⟨b,e,h1,h2⟩=>exact⟨b,e,heap_grown hg h1 (own_ne hO h1 int_ne_shape),h2⟩
  |7,⟨F,d,e,h1⟩=>exact⟨F,d,e,h1.grown hg (fun g hv=>own_apart h1 hO int_ne_shape.symm g hv)⟩
  |8,h=>exact absurd ⟨rfl,rfl⟩ h83
  |9,⟨F,d,e,h1⟩=>exact⟨F,d,e,h1.grown hg (fun g hv=>own_apart h1 hO int_ne_shape.symm g hv)⟩
  |k+10,h=>exact trivial
 ·match k,h with
  |0,h=>exact h
  |1,h=>exact h
  |2,⟨b,e,h1,h2⟩=>exact⟨b,e,heap_grown hg h1 (own_ne hO h1 int_ne_shape.symm),h2⟩
  |3,⟨F,d,e,h1⟩=>exact⟨F,d,e,h1.grown hg (fun g hv=>own_apart h1 hO int_ne_shape g hv)⟩
  |4,h=>exact h
  |5,h=>exact h
  |6,⟨b,e,h1,h2⟩=>exact⟨b,e,heap_grown hg h1 h2,h2⟩
  |7,h=>exact absurd rfl hki
  |8,⟨F,d,e,h1⟩=>exact⟨F,d,e,h1.grown hg (fun g hv=>own_apart h1 hO int_ne_shape g hv)⟩
  |9,h=>exact absurd ⟨rfl,rfl⟩ h97
  |k+10,h=>exact trivial
 ·match k,h with
  |0,h=>exact h
  |1,h=>exact h
  |2,⟨b,e,h1,h2⟩=>exact⟨b,e,heap_below hb h1,h2⟩
  |3,⟨F,d,e,h1⟩=>exact⟨F,d,e,h1.below hb⟩
  |4,h=>exact h
  |5,h=>exact h
  |6,⟨b,e,h1,h2⟩=>exact⟨b,e,heap_below hb h1,h2⟩
  |7,⟨F,d,e,h1⟩=>exact⟨F,d,e,own_below h1 hb⟩
  |8,⟨F,d,e,h1⟩=>exact⟨F,d,e,h1.below hb⟩
  |9,⟨F,d,e,h1⟩=>exact⟨F,d,e,own_below h1 hb⟩
  |k+10,h=>exact trivial
end
def hT17:Task:=⟨8,6,[(0,0,4),(0,0,4)],[],[],[]⟩
def lT17:Task:=⟨8,8,[(0,0,2)],[],[],[]⟩
theorem hT17Few:FewT hT17:=⟨by decide,by decide,by decide,by decide,by decide⟩
theorem lT17Few:FewT lT17:=⟨by decide,by decide,by decide,by decide,by decide⟩
theorem hT17May:MayT hT17 where
 few:=by unfold ManyT;decide
 time:=by decide
 parts:=by decide
 edges:=⟨by unfold Fits;decide,by decide,by decide⟩
 futures:=⟨fun f hf=>by simp[hT17]at hf,by decide⟩
 bars:=fun b hb=>by simp[hT17]at hb
theorem lT17May:MayT lT17 where
 few:=by unfold ManyT;decide
 time:=by decide
 parts:=by decide
 edges:=⟨by unfold Fits;decide,by decide,by decide⟩
 futures:=⟨fun f hf=>by simp[lT17]at hf,by decide⟩
 bars:=fun b hb=>by simp[lT17]at hb
theorem fits2_17:Fits 2 []:=by unfold Fits;decide
theorem fits1_17:Fits 1 []:=by unfold Fits;decide
theorem hT17W:lowW hT17= [4,4]:=by decide+kernel
theorem hT17E:lowE hT17= []:=by decide+kernel
theorem lT17W:lowW lT17= [2]:=by decide+kernel
theorem lT17E:lowE lT17= []:=by decide+kernel
theorem h17Good:May [4,4] []:=⟨by decide,by decide,by unfold WorkOk;decide,fits2_17,by decide,by decide,acyc_of fits2_17 (by decide)⟩
theorem l17Good:May [2] []:=⟨by decide,by decide,by unfold WorkOk;decide,fits1_17,by decide,by decide,acyc_of fits1_17 (by decide)⟩
theorem h17Ok:LowOk hT17:=⟨hT17May,by rw[hT17W,hT17E];exact h17Good⟩
theorem l17Ok:LowOk lT17:=⟨lT17May,by rw[lT17W,lT17E];exact l17Good⟩
theorem h17X:lowX hT17=0:=lowX_zero.mpr h17Ok
theorem l17X:lowX lT17=0:=lowX_zero.mpr l17Ok
theorem h17Wv:lowWv hT17= [4,4]:=by unfold lowWv;rw[if_pos h17Ok,hT17W]
theorem h17Ev:lowEv hT17= []:=by unfold lowEv;rw[if_pos h17Ok,hT17E]
theorem l17Wv:lowWv lT17= [2]:=by unfold lowWv;rw[if_pos l17Ok,lT17W]
theorem l17Ev:lowEv lT17= []:=by unfold lowEv;rw[if_pos l17Ok,lT17E]
theorem h17Tot:totalV [4,4] []=8:=by unfold totalV;rw[if_pos h17Good];decide
theorem h17Long:longV [4,4] []=4:=by unfold longV;rw[if_pos h17Good];decide
theorem l17Tot:totalV [2] []=2:=by unfold totalV;rw[if_pos l17Good];decide
theorem l17Long:longV [2] []=2:=by unfold longV;rw[if_pos l17Good];decide
def hS17:Shp:=⟨8,4,4,6,8⟩
def lS17:Shp:=⟨2,2,2,8,8⟩
theorem h17Shape:shapeT hT17=hS17:=by
 have h:shapeT hT17=⟨totalV (lowWv hT17) (lowEv hT17),longV (lowWv hT17) (lowEv hT17),maxL (lowWv hT17),6,8⟩:=if_pos h17Ok;rw[h,h17Wv,h17Ev,h17Tot,h17Long];rfl
theorem l17Shape:shapeT lT17=lS17:=by
 have h:shapeT lT17=⟨totalV (lowWv lT17) (lowEv lT17),longV (lowWv lT17) (lowEv lT17),maxL (lowWv lT17),8,8⟩:=if_pos l17Ok;rw[h,l17Wv,l17Ev,l17Tot,l17Long];rfl
def exT17:List Task:=[lT17,hT17,lT17]
def exS17:List Shp:=[lS17,hS17,lS17]
def exC17:List (List Int):=[[2],[0,1],[2]]
theorem ex17Shapes:shpsT exT17=exS17:=by simp[shpsT,exT17,exS17,h17Shape,l17Shape]
theorem ex17Low:fstX (exT17.map lowX)=0:=by simp[exT17,fstX,h17X,l17X]
theorem h17Heavy:heavyS hS17=true:=by decide+kernel
theorem l17Heavy:heavyS lS17=false:=by decide+kernel
theorem h17Cores:coresS hS17=2:=by decide+kernel
theorem h17Fault:faultS hS17=0:=by decide+kernel
theorem l17Fault:faultS lS17=0:=by decide+kernel
theorem l17Light:LightS lS17:=by decide+kernel
theorem ex17Good: ∀s∈exS17,faultS s=0:=fun s hs=>by
 simp only[exS17,List.mem_cons,List.not_mem_nil,or_false]at hs;rcases hs with rfl|rfl|rfl
 ·exact l17Fault
 ·exact h17Fault
 ·exact l17Fault
theorem ex17Used:usedP exS17=2:=by simp[exS17,usedP,h17Heavy,l17Heavy,h17Cores]
theorem ex17Lights:lightP exS17= [lS17,lS17]:=by simp[exS17,lightP,h17Heavy,l17Heavy]
theorem l17May2:MayE [lS17,lS17]:=⟨by decide,fun s hs=>by simp at hs;rw[hs];exact l17Light⟩
theorem l17Fit:FitE [lS17,lS17]:=(fit_two l17Light).mpr (by decide)
theorem l17Ord:ordP [lS17,lS17]= [0,1]:=by decide
theorem l17One:PlcP [lS17,lS17] 1 (some [0,0]):=by
 unfold PlcP;rw[l17Ord];refine .next (c:=0) ⟨by decide,⟨lS17,rfl,?_⟩,fun k hk=>by omega⟩ ?_
 ·exact fit_alone l17Light
 refine .next (c:=0) ⟨by decide,⟨lS17,rfl,?_⟩,fun k hk=>by omega⟩ (.done _)
 exact l17Fit
theorem l17None:PlcP [lS17,lS17] 0 none:=by
 unfold PlcP;rw[l17Ord];exact .full fun c hc=>absurd hc (Nat.not_lt_zero _)
theorem ex17Ok:AdmOk exT17 3 exS17 exC17 [0,0] where
 may:=⟨by decide,by decide,by decide⟩
 low:=ex17Low
 eq:=ex17Shapes.symm
 good:=ex17Good
 used:=by rw[ex17Used];decide
 plc:=by
  rw[ex17Lights,ex17Used];exact .inr ⟨l17May2,by decide,by decide,_,l17One,rfl,rfl⟩
 at_:=by
  rw[ex17Used];simp[exS17,exC17,atP,h17Heavy,l17Heavy,h17Cores,upto,List.range_succ]
theorem ex17Adm:AdmA exT17 3 exS17 exC17 0:=ex17Ok.is
theorem ex17Full:AdmA exT17 2 [] [] 171:=by
 refine .inr (.inr (.inr ⟨⟨by decide,by decide,by decide⟩,ex17Low,?_,.inr ⟨?_,[],161,?_,.inr ⟨by decide,rfl,rfl⟩⟩,rfl⟩))
 ·rw [ex17Shapes]
  exact fstX_zero.mpr fun x hx=>by
   obtain⟨s,hs,rfl⟩:=List.mem_map.mp hx;exact ex17Good s hs
 ·rw[ex17Shapes,ex17Used];decide
 ·rw [ex17Shapes,ex17Lights,ex17Used]
  exact .inr ⟨l17May2,by decide,by decide,_,l17None,rfl,rfl⟩
theorem ex17Right:RightQ exS17 exC17 3:=ex17Ok.right
theorem ex17Wrong: ¬RightQ exS17 exC17 2:=fun h=>by
 have:=(h.suit 0 lS17 [2] rfl rfl).2.2;exact absurd this.2.1 (by decide)
theorem ex17H1:heavyQ exS17 exC17 1=1:=by decide+kernel
theorem ex17H2:heavyQ exS17 exC17 2= -1:=by decide+kernel
theorem ex17L2:lightQ exS17 exC17 2= [0,2]:=by decide+kernel
theorem ex17Few:FewP exS17 exC17:=⟨by decide,by decide,by decide⟩
end Go.Proofs.YtlfekmbalgkmeaaGreatDoor
