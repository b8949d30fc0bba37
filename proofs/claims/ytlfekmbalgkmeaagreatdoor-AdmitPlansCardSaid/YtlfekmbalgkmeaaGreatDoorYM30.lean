import Derived.Test.YtlfekmbalgkmeaaGreatDoorYM29
import Derived.Test.YtlfekmbalgkmeaaGreatDoorYM9
import Derived.Test.YtlfekmbalgkmeaaGreatDoorYM8
set_option linter.unusedSimpArgs false
set_option linter.unnecessarySimpa false
set_option linter.unusedVariables false
set_option maxRecDepth 100000
set_option maxHeartbeats 8000000
namespace Go.Proofs.YtlfekmbalgkmeaaGreatDoor
open Go Go.RowKit
def fillZ (N: List Int) (n j: Nat): List Int:=N.take j ++ List.replicate (n - j) 0
theorem fillZ_zero (N: List Int) (n: Nat): fillZ N n 0 = List.replicate n 0:=by simp [fillZ]
theorem fillZ_all {N: List Int} {n: Nat} (h: N.length = n): fillZ N n n = N:=by simp [fillZ,<- h]
theorem fillZ_len {N: List Int} {n j: Nat} (h: N.length = n) (hj: j <= n): (fillZ N n j).length = n:=by simp [fillZ]; omega
theorem fillZ_set {N: List Int} {n j: Nat} {z: Int} (h: N.length = n) (hs: N[j]? = some z): (fillZ N n j).set j z = fillZ N n (j + 1):=by
 have hl:=(List.getElem?_eq_some_iff.mp hs).1
 have hl2: (N.take j).length = j:=by rw [List.length_take]; omega
 unfold fillZ
 rw [take_one hs,List.set_append_right _ _ (by omega),hl2,Nat.sub_self,show n - j = (n - (j + 1)) + 1 by omega,List.replicate_succ,List.set_cons_zero,List.append_assoc]
 rfl
def RowZ (g: Nat) (zs: List Int) (w: World): Prop:=RowV g 3 (zs.map (Value.int .i64)) w
theorem RowZ.set {g: Nat} {zs: List Int} {w: World} (h: RowZ g zs w) (k: Nat) (z: Int): RowZ g (zs.set k z) (w.setCell ⟨g,k,none⟩ (.int .i64 z)):=by
 unfold RowZ
 rw [List.map_set]
 exact RowV.set h k _
theorem RowZ.cells {g: Nat} {zs: List Int} {w: World} (h: RowZ g zs w) {k: Nat} (hk: k < zs.length): ∃ z,w.cell? ⟨g,k,none⟩ = some (.int .i64 z) :=
 ⟨zs[k],RowV.cell h (by rw [List.getElem?_map,List.getElem?_eq_getElem hk]; rfl)⟩
theorem RowZ.ints {g: Nat} {zs: List Int} {w: World} (h: RowZ g zs w): Ints w w.heap.size (some ⟨g,0,none⟩) zs:=fun hn => by
 refine ⟨g,0,rfl,RowV.lt h,fun k hk => ?_⟩
 rw [Nat.zero_add]
 exact RowV.cell h (by rw [List.getElem?_map,List.getD_eq_getElem?_getD,List.getElem?_eq_getElem hk]; rfl)
theorem coresOf_at {S: List Shp} {k: Nat} {s: Shp} (h: S[k]? = some s): (coresOf S)[k]? = some (coresS s):=by simp [coresOf,h]
theorem coresOf_len (S: List Shp): (coresOf S).length = S.length:=by simp [coresOf]
theorem needsOf_any {A: Option Addr} {n c: Nat} {S: List Shp} (wf: World) (hn: S.length = n) (h8: n <= 8) (h: Shps wf wf.heap.size A S) (hT: DTab wf) {x: Int} (hx: x = fstX (S.map faultS)) :
  Calls Tryz.prog 35 #[.slice A n c] wf fun e w' => ∃ F k d,e = .returned (.tuple #[.slice F k d,.int .i64 x]) /\ Below wf.heap.size wf w' /\
   ((x = 0 /\ k = n /\ Ints w' w'.heap.size F (coresOf S) /\ (F = none -> k = 0 /\ d = 0)) \/ (x ≠ 0 /\ F = none /\ k = 0 /\ d = 0)):=by
 have HX:=Lib.hid hx
 have HN:=Lib.hid hn
 have HS:=Lib.hid (fun W (b: Below wf.heap.size wf W) => h.via b)
 have HTB:=Lib.hid (fun W (b: Below wf.heap.size wf W) => DTab.via hT b)
 have hmk:=make_ints n (by omega) wf
 obtain ⟨g,hg⟩: ∃ g,g = wf.heap.size:=⟨_,rfl⟩
 rw [<- hg] at hmk
 have HG:=Lib.hid hg
 obtain ⟨w0,hw0⟩: ∃ w0,w0 = wf.alloc (.cells (List.replicate n (Value.int .i64 0)).toArray 3):=⟨_,rfl⟩
 have H0:=Lib.hid (show RowZ g (fillZ (coresOf S) n 0) w0 from by
  rw [hw0,hg,fillZ_zero]
  unfold RowZ
  rw [List.map_replicate]
  exact RowV.new _ _ _)
 have B0:=Lib.hid (show Below g wf w0 from by rw [hw0,hg]; exact below_alloc _)
 rw [<- hw0] at hmk
 clear hn hx h hT hg hw0
 go_enter Tryz.func35,Tryz.ntmps35
 go_wp2
 go_loopw [14] (fun i wr => ∃ j: Nat,j <= n /\ i = .int .i64 j /\ Hid (RowZ g (fillZ (coresOf S) n j) wr) /\ Hid (fstX ((S.map faultS).take j) = 0) /\ Hid (Below g wf wr)) (fun i _ => n - (intOf i).toNat)
 case atStart => exact ⟨0,Nat.zero_le _,rfl,H0,Lib.hid (by simp [fstX]),B0⟩
 case round =>
  obtain ⟨j,hj,rfl,HR,HZ,HB⟩:=hrel
  clear hmk
  by_cases hlt: j < n
  ·obtain ⟨b,off,t,lg,mo,d,p,rfl,hbg,hek,c0,c1,c2,c3,c4⟩:=(HS.out wr (by rw [<- HG.out]; exact HB.out)).at_ (k:=j) (by rw [HN.out]; exact hlt)
   have HK:=Lib.hid hek
   clear hek
   obtain ⟨z,hz⟩: ∃ z,z = coresS ⟨t,lg,mo,d,p⟩:=⟨_,rfl⟩
   obtain ⟨y,hy⟩: ∃ y,y = faultS ⟨t,lg,mo,d,p⟩:=⟨_,rfl⟩
   have HZN:=Lib.hid (fstX_next HZ.out (show (S.map faultS)[j]? = some y by rw [List.getElem?_map,HK.out,hy]; rfl))
   have HSZ:=Lib.hid (show (coresOf S)[j]? = some z by rw [hz]; exact coresOf_at HK.out)
   have CS:=Lib.hid (fun W (hD: DTab W) => ccores_any ⟨t,lg,mo,d,p⟩ W hD)
   have HD:=Lib.hid (HTB.out _ ((show Below wf.heap.size wf wr by rw [<- HG.out]; exact HB.out).alloc (by rw [<- HG.out]; exact Nat.le_of_lt (RowV.lt HR.out)) (.cells #[.int .i64 t,.int .i64 lg,.int .i64 mo,.int .i64 d,.int .i64 p] 44)))
   rw [<- hz,<- hy] at CS
   unfold Shp.val at CS
   clear hz hy
   dsimp only at CS
   go_wp2_with fail
   refine (CS.out _ HD.out).mono ?_
   rintro e w1 ⟨rfl,b1⟩
   have HB1:=Lib.hid ((below_alloc (.cells #[.int .i64 t,.int .i64 lg,.int .i64 mo,.int .i64 d,.int .i64 p] 44)).trans (b1.mono (by simp)))
   clear b1 c0 c1 c2 c3 c4 CS HD
   by_cases hy0: y = 0
   ·subst hy0
    have hR2: RowZ g (fillZ (coresOf S) n j) w1:=RowV.below HR.out HB1.out (RowV.lt HR.out)
    obtain ⟨_,k0⟩:=hR2.cells (k:=j) (by rw [fillZ_len (by rw [coresOf_len,HN.out]) hj]; exact hlt)
    have f0:=RowV.frozen hR2 j
    have hR3:=hR2.set j z
    rw [fillZ_set (by rw [coresOf_len,HN.out]) HSZ.out] at hR3
    have HR3:=Lib.hid hR3
    clear hR2 hR3
    go_wp2
    go_roundw
    case rel =>
     refine ⟨j + 1,by omega,by go_num,HR3,Lib.hid (HZN.out.1 (by trivial)),Lib.hid ?_⟩
     have q:=HB.out.trans (HB1.out.mono (by have:=RowV.lt HR.out; omega))
     exact q.setCell (p:=⟨g,_,none⟩) (Nat.le_refl g) _
    case measure => simp [intOf]; omega
   ·have HF:=Lib.hid (HX.out.trans (HZN.out.2 hy0))
    have hgd: (y == 0) = false:=by simpa using hy0
    go_wp2
    refine bodyPost_ret (v:=.tuple #[.slice none 0 0,.int .i64 y]) ?_ rfl ⟨none,0,0,by rw [HF.out],?_,.inr ⟨by rw [HF.out]; exact hy0,rfl,rfl,rfl⟩⟩
    ·simp [results,Tryz.results35,go_sem]
    ·rw [<- HG.out]
     exact HB.out.trans (HB1.out.mono (by have:=RowV.lt HR.out; omega))
  ·obtain rfl: j = n:=by omega
   go_wp2
   refine bodyPost_ret (v:=.tuple #[.slice (some ⟨g,0,none⟩) j j,.int .i64 0]) ?_ rfl ⟨some ⟨g,0,none⟩,j,j,?_,?_,.inl ⟨?_,rfl,?_,fun e => by cases e⟩⟩
   ·simp [results,Tryz.results35,go_sem]
   ·have:=HZ.out
    rw [List.take_of_length_le (by rw [List.length_map,HN.out]; exact Nat.le_refl _)] at this
    rw [HX.out,this]
   ·rw [<- HG.out]; exact HB.out
   ·have:=HZ.out
    rw [List.take_of_length_le (by rw [List.length_map,HN.out]; exact Nat.le_refl _)] at this
    rw [HX.out,this]
   ·have:=HR.out
    rw [fillZ_all (by rw [coresOf_len,HN.out])] at this
    exact this.ints
def idxT: List Shp -> List Nat
 | [] => []
 | s :: S => if heavyS s = true then (idxT S).map (· + 1) else 0 :: (idxT S).map (· + 1)
theorem idxT_len : ∀ S : List Shp, (idxT S).length = (lightP S).length
  | [] => rfl
  | s :: S => by
    rw [lightP_cons]
    unfold idxT
    split <;> simp [idxT_len S]
theorem idxT_app : ∀ (A B : List Shp), idxT (A ++ B) = idxT A ++ (idxT B).map (· + A.length)
  | [], B => by simp [idxT]
  | s :: A, B => by
    simp only [List.cons_append, idxT, idxT_app A B]
    split
    · simp only [List.map_append, List.map_map, List.length_cons]
      congr 1
    · simp only [List.map_append, List.map_map, List.length_cons, List.cons_append]
      congr 2
theorem idxT_snoc {S: List Shp} {j: Nat} {s: Shp} (h: S[j]? = some s): idxT (S.take (j + 1)) = idxT (S.take j) ++ if heavyS s = true then [] else [j]:=by
 have hl:=(List.getElem?_eq_some_iff.mp h).1
 have hl2: (S.take j).length = j:=by rw [List.length_take]; omega
 rw [take_one h,idxT_app]
 congr 1
 simp only [idxT,hl2]
 split <;> simp
theorem lightP_snoc {S: List Shp} {j: Nat} {s: Shp} (h: S[j]? = some s): lightP (S.take (j + 1)) = lightP (S.take j) ++ if heavyS s = true then [] else [s]:=by
 rw [take_one h,lightP_app,lightP_cons]
 split <;> simp [lightP]
theorem idxT_lt : ∀ {S : List Shp} {i : Nat}, i ∈ idxT S -> i < S.length
  | [], i, h => by simp [idxT] at h
  | s :: S, i, h => by
    unfold idxT at h
    split at h
    · obtain ⟨k, hk, rfl⟩ := List.mem_map.mp h
      have := idxT_lt hk
      simp; omega
    · rcases List.mem_cons.mp h with rfl | h
      · simp
      · obtain ⟨k, hk, rfl⟩ := List.mem_map.mp h
        have := idxT_lt hk
        simp; omega
def atK (u: Int): Int -> List Shp -> List Int -> Nat -> List (List Int)
 | _,[],_,_ => []
 | nx,s :: S,L,k => if heavyS s = true then upto nx (coresS s).toNat :: atK u (nx + coresS s) S L k else
   match k with
   | 0 => [] :: atK u nx S L.tail 0
   | k + 1 => [u + L.headD 0] :: atK u nx S L.tail k
theorem atK_zero (u : Int) : ∀ (S : List Shp) (nx : Int) (L : List Int), atK u nx S L 0 = atH nx S
  | [], _, _ => rfl
  | s :: S, nx, L => by
    simp only [atK, atH]
    split
    · rw [atK_zero u S]
    · rw [atK_zero u S]
theorem atK_all (u : Int) : ∀ (S : List Shp) (nx : Int) (L : List Int) (k : Nat), (lightP S).length <= k -> atK u nx S L k = atP u nx S L
  | [], _, _, _, _ => by simp [atK, atP]
  | s :: S, nx, L, k, h => by
    rw [lightP_cons] at h
    simp only [atK, atP]
    split
    · rename_i hh
      rw [hh, if_pos rfl] at h
      rw [atK_all u S _ _ _ h]
    · rename_i hh
      rw [if_neg hh] at h
      cases k with
      | zero => simp at h
      | succ k =>
        simp only
        rw [atK_all u S _ _ _ (by simpa using h)]
theorem atK_len (u : Int) : ∀ (S : List Shp) (nx : Int) (L : List Int) (k : Nat), (atK u nx S L k).length = S.length
  | [], _, _, _ => rfl
  | s :: S, nx, L, k => by
    simp only [atK]
    split
    · simp [atK_len u S]
    · cases k <;> simp [atK_len u S]
theorem atK_set (u : Int) : ∀ (S : List Shp) (nx : Int) (L : List Int) (k i : Nat), (idxT S)[k]? = some i -> (atK u nx S L k).set i [u + (L.drop k).headD 0] = atK u nx S L (k + 1)
  | [], _, _, _, _, h => by simp [idxT] at h
  | s :: S, nx, L, k, i, h => by
    unfold idxT at h
    by_cases hh : heavyS s = true
    · rw [if_pos hh] at h
      rw [List.getElem?_map] at h
      obtain ⟨i', hi', rfl⟩ := Option.map_eq_some_iff.mp h
      simp only [atK, if_pos hh, List.set_cons_succ]
      rw [atK_set u S _ _ _ _ hi']
    · rw [if_neg hh] at h
      cases k with
      | zero =>
        obtain rfl : 0 = i := by simpa using h
        simp only [atK, if_neg hh, List.set_cons_zero, List.drop_zero]
      | succ k =>
        rw [List.getElem?_cons_succ, List.getElem?_map] at h
        obtain ⟨i', hi', rfl⟩ := Option.map_eq_some_iff.mp h
        simp only [atK, if_neg hh, List.set_cons_succ]
        have := atK_set u S nx L.tail k i' hi'
        rw [List.drop_tail] at this
        rw [this]
theorem atH_take {S: List Shp} {j: Nat} {s: Shp} (h: S[j]? = some s) (nx: Int): atH nx (S.take (j + 1)) = atH nx (S.take j) ++ [if heavyS s = true then upto (nx + usedP (S.take j)) (coresS s).toNat else []]:=by
 rw [take_one h,atH_app]
 simp only [atH]
 split <;> rfl
def fillH (S: List Shp) (n j: Nat): List (List Int):=atH 0 (S.take j) ++ List.replicate (n - j) []
theorem fillH_zero (S: List Shp) (n: Nat): fillH S n 0 = List.replicate n []:=by simp [fillH,atH]
theorem fillH_all {S: List Shp} {n: Nat} (h: S.length = n): fillH S n n = atH 0 S:=by simp [fillH,<- h]
theorem fillH_len {S: List Shp} {n j: Nat} (h: S.length = n) (hj: j <= n): (fillH S n j).length = n:=by simp [fillH,atH_len]; omega
theorem fillH_set {S: List Shp} {n j: Nat} {s: Shp} (h: S.length = n) (hs: S[j]? = some s): (heavyS s = true -> (fillH S n j).set j (upto (usedP (S.take j)) (coresS s).toNat) = fillH S n (j + 1)) /\ (heavyS s = false -> fillH S n j = fillH S n (j + 1)):=by
 have hl:=(List.getElem?_eq_some_iff.mp hs).1
 have hl2: (atH 0 (S.take j)).length = j:=by rw [atH_len,List.length_take]; omega
 unfold fillH
 rw [atH_take hs,show n - j = (n - (j + 1)) + 1 by omega,List.replicate_succ,Int.zero_add]
 constructor
 ·intro hh
  rw [hh,if_pos rfl,List.set_append_right _ _ (by omega),hl2,Nat.sub_self,List.set_cons_zero,List.append_assoc]
  rfl
 ·intro hh
  rw [hh,if_neg (by simp),List.append_assoc]
  rfl
def IntsUp (w: World) (lo: Nat) (A: Option Addr) (zs: List Int): Prop :=
 0 < zs.length -> ∃ b off,A = some ⟨b,off,none⟩ /\ lo <= b /\ b < w.heap.size /\ ∀ k,k < zs.length -> w.cell? ⟨b,off + k,none⟩ = some (.int .i64 (zs.getD k 0))
def ElV (w: World) (lo: Nat) (r: List Int) (v: Value): Prop:=∃ A n d,v = .slice A n d /\ r.length = n /\ IntsUp w lo A r /\ (A = none -> n = 0 /\ d = 0)
def AtB (g: Nat) (t: List (List Int)) (w: World): Prop:=∃ vs,RowV g 40 vs w /\ vs.length = t.length /\ ∀ (k: Nat) r v,t[k]? = some r -> vs[k]? = some v -> ElV w (g + 1) r v
theorem IntsUp.turn {w w': World} {c lo: Nat} {A: Option Addr} {zs: List Int} (h: IntsUp w lo A zs) (ht: Turn1 c w w') (hc: c < lo): IntsUp w' lo A zs:=fun hn => by
 obtain ⟨b,off,e,h1,h2,h3⟩:=h hn
 exact ⟨b,off,e,h1,Nat.lt_of_lt_of_le h2 ht.size,fun k hk => (World.cell?_of_block (a:=⟨b,off + k,none⟩) (ht.block b h2 (by omega))).trans (h3 k hk)⟩
theorem ElV.turn {w w': World} {c lo: Nat} {r: List Int} {v: Value} (h: ElV w lo r v) (ht: Turn1 c w w') (hc: c < lo): ElV w' lo r v:=by
 obtain ⟨A,n,d,e,h1,h2,h3⟩:=h
 exact ⟨A,n,d,e,h1,h2.turn ht hc,h3⟩
theorem AtB.lt {g: Nat} {t: List (List Int)} {w: World} (h: AtB g t w): g < w.heap.size:=by
 obtain ⟨vs,h1,_⟩:=h
 exact h1.lt
theorem AtB.turn {w w': World} {c g: Nat} {t: List (List Int)} (h: AtB g t w) (ht: Turn1 c w w') (hc: c < g): AtB g t w':=by
 obtain ⟨vs,h1,h2,h3⟩:=h
 refine ⟨vs,?_,h2,fun k r v hr hv => (h3 k r v hr hv).turn ht (by omega)⟩
 unfold RowV
 rw [ht.block g h1.lt (by omega)]
 exact h1
theorem AtB.next {w w': World} {g: Nat} {t: List (List Int)} (h: AtB g t w) (hb: Below w.heap.size w w'): AtB g t w':=by
 obtain ⟨vs,h1,h2,h3⟩:=h
 refine ⟨vs,h1.below hb h1.lt,h2,fun k r v hr hv => ?_⟩
 obtain ⟨A,n,d,e,q1,q2,q3⟩:=h3 k r v hr hv
 refine ⟨A,n,d,e,q1,fun hn => ?_,q3⟩
 obtain ⟨b,off,e,p1,p2,p3⟩:=q2 hn
 exact ⟨b,off,e,p1,Nat.lt_of_lt_of_le p2 hb.size,fun k hk => (hb.cell (p:=⟨b,off + k,none⟩) p2).trans (p3 k hk)⟩
theorem AtB.set {w: World} {g: Nat} {t: List (List Int)} (h: AtB g t w) (k: Nat) {r: List Int} {v: Value} (hv: ElV w (g + 1) r v): AtB g (t.set k r) (w.setCell ⟨g,k,none⟩ v):=by
 obtain ⟨vs,h1,h2,h3⟩:=h
 have ht: Turn1 g w (w.setCell ⟨g,k,none⟩ v):=⟨rfl,rfl,rfl,by simp,fun j hj hne => Below.heap_setCell w ⟨g,k,none⟩ v j hne⟩
 refine ⟨vs.set k v,h1.set k v,by simp [h2],fun j r' v' hr hv' => ?_⟩
 by_cases e: k = j
 ·subst e
  have l1: k < t.length:=by have:=(List.getElem?_eq_some_iff.mp hr).1; simpa using this
  rw [List.getElem?_set_self l1] at hr
  rw [List.getElem?_set_self (by omega)] at hv'
  obtain rfl:=Option.some.inj hr
  obtain rfl:=Option.some.inj hv'
  exact hv.turn ht (by omega)
 ·rw [List.getElem?_set_ne e] at hr hv'
  exact (h3 j r' v' hr hv').turn ht (by omega)
theorem AtB.cell {w: World} {g: Nat} {t: List (List Int)} (h: AtB g t w) {k: Nat} (hk: k < t.length): ∃ v,w.cell? ⟨g,k,none⟩ = some v /\ w.frozen? ⟨g,k,none⟩ = false:=by
 obtain ⟨vs,h1,h2,h3⟩:=h
 exact ⟨vs[k],h1.cell (List.getElem?_eq_getElem (by omega)),h1.frozen k⟩
theorem AtB.lol {w: World} {g: Nat} {t: List (List Int)} (h: AtB g t w): Lol w w.heap.size (some ⟨g,0,none⟩) t:=fun hn => by
 have hlt:=h.lt
 obtain ⟨vs,h1,h2,h3⟩:=h
 refine ⟨g,0,rfl,hlt,fun k r hr => ?_⟩
 have hk:=(List.getElem?_eq_some_iff.mp hr).1
 obtain ⟨A,n,d,e,q1,q2,q3⟩:=h3 k r _ hr (List.getElem?_eq_getElem (by omega))
 refine ⟨A,d,?_,fun hn => ?_,by rw [q1]; exact q3⟩
 ·rw [Nat.zero_add,q1,<- e]
  exact h1.cell (List.getElem?_eq_getElem (by omega))
 ·obtain ⟨b,off,e,p1,p2,p3⟩:=q2 hn
  exact ⟨b,off,e,p2,p3⟩
theorem ElV.of {w: World} {lo base: Nat} {v: Value} {zs: List Int} (h: OwnI w base v zs) (hb: lo <= base): ElV w lo zs v:=by
 rcases h.2 with ⟨rfl,h0⟩ | ⟨g,cap,cur,rfl,hg,hh,h1,h2,h3,h4⟩
 ·exact ⟨none,0,0,rfl,h0,fun hn => by omega,fun _ => ⟨rfl,rfl⟩⟩
 ·refine ⟨some ⟨g,0,none⟩,zs.length,cap,rfl,rfl,fun hn => ⟨g,0,rfl,by omega,(Array.getElem?_eq_some_iff.1 hh).1,fun k hk => ?_⟩,fun e => by cases e⟩
  have:=h.cells (g:=g) rfl k (.int .i64 (zs.getD k 0)) (by rw [List.getElem?_map,List.getElem?_eq_getElem hk,List.getD_eq_getElem?_getD,List.getElem?_eq_getElem hk]; rfl)
  rw [addr_add] at this
  exact this
theorem AtB.new (w: World) (n: Nat): AtB w.heap.size (List.replicate n []) (w.alloc (.cells (List.replicate n (Value.slice none 0 0)).toArray 40)) :=
 ⟨_,RowV.new _ _ _,by simp,fun k r v hr hv => by
  have h1: r = []:=List.eq_of_mem_replicate (List.mem_of_getElem? hr)
  have h2: v = .slice none 0 0:=List.eq_of_mem_replicate (List.mem_of_getElem? hv)
  exact ⟨none,0,0,h2,by rw [h1]; rfl,fun hn => by rw [h1] at hn; simp at hn,fun _ => ⟨rfl,rfl⟩⟩⟩
theorem lists_info: (Tryz.prog.info? 40).map (fun i => (i.zero,i.size,i.bytes)) = some (some (.slice none 0 0),1,24):=by kernel_rfl
theorem make_lists (n : Nat) (hn : n <= 1000) (W : World) : (Instr.makeSlice 26 (.int .i64 n) (.int .i64 n)).run Tryz.prog W = .ok (.slice (some ⟨W.heap.size, 0, none⟩) n n) (W.alloc (.cells (List.replicate n (Value.slice none 0 0)).toArray 40)) := by
  obtain ⟨i0, hi, hz0, hz1, hz2⟩ : ∃ i, Tryz.prog.info? 40 = some i /\ i.zero = some (.slice none 0 0) /\ i.size = 1 /\ i.bytes = 24 := by
    have h := lists_info
    cases hi : Tryz.prog.info? 40 with
    | none => rw [hi] at h; cases h
    | some i =>
      rw [hi] at h
      simp at h
      exact ⟨i, rfl, h.1, h.2.1, h.2.2⟩
  have h := run_make (P := Tryz.prog) W 26 40 i0 (.slice none 0 0) Tryz.underlying26 hi hz0 .i64 .i64 n n (by omega) (by omega) (by rw [hz2]; omega) (by omega)
  rw [hz1] at h
  have e : madeCells (Value.slice none 0 0).cells (((n : Int)).toNat * 1) = (List.replicate n (Value.slice none 0 0)).toArray := by
    apply Array.toList_inj.mp
    rw [show (Value.slice none 0 0).cells = #[Value.slice none 0 0] from rfl, toList_madeCells_one]
    simp
  rw [e] at h
  exact h
section
variable {P: Program} {ops: Array Oper} {Q: Exit -> Act -> World -> Prop}
def univB (ops : Array Oper) (ds : List Nat) (wt : List Bool) : Bool :=
  ops.size == ds.length && backB' ops && decide ds.Nodup &&
  ((List.range ds.length).all fun k => (match ops[k]? with | some o => if ds.getD k 0 < 1000 then o.dst == some (ds.getD k 0) else o.dst == none | none => false)) &&
  ((List.range ds.length).all fun k => (match ops[k]? with
    | some o => (match o.guard with | some g => decide (g.1 < k) && o.after.any (fun e => e.on == g.1 && Region.binds .any e) | none => wt.getD k true)
    | none => false))
structure Univ (ops: Array Oper) (ds: List Nat) (wt: List Bool): Prop where
 size: ops.size = ds.length
 back: ∀ (i: Nat) (o: Oper),ops[i]? = some o -> ∀ e ∈ o.after,Region.binds .any e = true -> e.on < i
 nodup: ds.Nodup
 dst: ∀ (k: Nat) (o: Oper),ops[k]? = some o -> (ds.getD k 0 < 1000 /\ o.dst = some (ds.getD k 0)) \/ (1000 <= ds.getD k 0 /\ o.dst = none)
 guard: ∀ (k: Nat) (o: Oper) (g: Nat) (b: Bool),ops[k]? = some o -> o.guard = some (g,b) -> g < k /\ ∃ e ∈ o.after,e.on = g /\ Region.binds .any e = true
 free: ∀ (k: Nat) (o: Oper),ops[k]? = some o -> o.guard = none -> wt.getD k true = true
theorem univ_of {ds: List Nat} {wt: List Bool} (h: univB ops ds wt = true): Univ ops ds wt:=by
 unfold univB at h
 simp only [Bool.and_eq_true,beq_iff_eq,decide_eq_true_iff] at h
 obtain ⟨⟨⟨⟨h1,h2⟩,h3⟩,h4⟩,h5⟩:=h
 have hk: ∀ (k: Nat) (o: Oper),ops[k]? = some o -> k < ds.length:=fun k o ho => h1 ▸ (Array.getElem?_eq_some_iff.1 ho).1
 refine ⟨h1,back_of' h2,h3,fun k o ho => ?_,fun k o g b ho hg => ?_,fun k o ho hg => ?_⟩
 ·have:=List.all_eq_true.1 h4 k (List.mem_range.2 (hk k o ho))
  rw [ho] at this
  by_cases hd: ds.getD k 0 < 1000
  ·simp only [if_pos hd,beq_iff_eq] at this
   exact .inl ⟨hd,this⟩
  ·simp only [if_neg hd,beq_iff_eq] at this
   exact .inr ⟨by omega,this⟩
 ·have:=List.all_eq_true.1 h5 k (List.mem_range.2 (hk k o ho))
  rw [ho] at this
  simp only [hg,Bool.and_eq_true,decide_eq_true_iff] at this
  obtain ⟨e,he,h8⟩:=Array.any_eq_true'.1 this.2
  rw [Bool.and_eq_true,beq_iff_eq] at h8
  exact ⟨this.1,e,he,h8.1,h8.2⟩
 ·have:=List.all_eq_true.1 h5 k (List.mem_range.2 (hk k o ho))
  rw [ho] at this
  simpa only [hg] using this
theorem eval_far {a: Act} {d: Nat} (hs: a.tmps.size <= d): a.eval (.tmp d) = undef:=by
 show a.tmps.getD d undef = undef
 rw [Array.getD_eq_getD_getElem?,Array.getElem?_eq_none hs]
 rfl
theorem wp_region_univ (ds : List Nat) (wt : List Bool) {id : Nat} {a0 : Act} {w0 : World} (hm : P.follows .mixedOrders = true) (hG : univB ops ds wt = true) (hsz : ∀ d ∈ ds, d < a0.tmps.size \/ 1000 <= d) (hs1 : a0.tmps.size <= 1000)
    (I : World -> Prop) (Φ : Nat -> Value -> World -> Prop) (Pre : Nat -> World -> Prop) (R : Nat -> World -> World -> Prop)
    (hI : ∀ i w w', I w -> R i w w' -> I w') (hΦ : ∀ i k v w w', k ≠ i -> (∀ p : Oper, ops[k]? = some p -> (p.after.any fun e => e.on == i && Region.binds .any e) = false) -> Φ k v w -> R i w w' -> Φ k v w') (hP : ∀ i k w w', k ≠ i -> Pre k w -> R i w w' -> Pre k w')
    (h0 : I { w0 with drawn := w0.drawn + 1 }) (hp0 : ∀ k, Pre k { w0 with drawn := w0.drawn + 1 })
    (hW : ∀ (k : Nat) (o : Oper) (g : Nat) (b : Bool), ops[k]? = some o -> o.guard = some (g, b) -> ∀ v w, Φ g v w -> v = .bool (if wt.getD k true = true then b else !b))
    (hskip : ∀ k, wt.getD k true = false -> ∀ w, R k w w /\ ∀ u, (ds.getD k 0 < 1000 -> u = undef) -> Φ k u w)
    (hstep : ∀ (k : Nat) (o : Oper), ops[k]? = some o -> wt.getD k true = true -> ∀ (a : Act) (w : World), I w -> Pre k w -> AtDoor a0 ds a.eval -> (∀ e ∈ o.after, Region.binds .any e = true -> Φ e.on (a.eval (.tmp (ds.getD e.on 0))) w) ->
      (∀ (j : Nat) (p : Oper), ops[j]? = some p -> (p.after.any fun e => e.on == k && Region.binds .any e) = true -> a.eval (.tmp (ds.getD j 0)) = a0.eval (.tmp (ds.getD j 0))) ->
      ∀ K : Act -> World -> Prop, (∀ v w', (∀ u, (ds.getD k 0 < 1000 -> u = v) -> Φ k u w') -> R k w w' -> K (a.put o.dst v) w') -> o.wp P a w K Q)
    (hend : ∀ (vals : Nat -> Value) (w : World), I w -> (∀ k, k < ds.length -> Φ k (vals (ds.getD k 0)) w) -> Q .normal ⟨(fillA a0 ds vals).toArray, a0.defers⟩ w) :
    (Code.region id ops true).wp P Q a0 w0 := by
  have G := univ_of hG
  refine wp_region_inv (fun l a w => l.size = ds.length /\ I w /\ AtDoor a0 ds a.eval /\ a.tmps.size = a0.tmps.size /\ a.defers = a0.defers /\ (∀ k, k < ds.length -> l.getD k false = true -> Φ k (a.eval (.tmp (ds.getD k 0))) w) /\ (∀ k, k < ds.length -> l.getD k false = false -> Pre k w /\ a.eval (.tmp (ds.getD k 0)) = a0.eval (.tmp (ds.getD k 0))) /\ (∀ (j : Nat) (p : Oper), ops[j]? = some p -> l.getD j false = true -> ∀ e ∈ p.after, Region.binds .any e = true -> l.getD e.on false = true)) hm ?_ ?_ ?_
  · refine ⟨by rw [Array.size_replicate]; exact G.size, h0, atDoor_start a0 ds, rfl, rfl, fun k hk h => ?_, fun k hk _ => ⟨hp0 k, rfl⟩, fun j p _ h => ?_⟩
    · exfalso
      by_cases h2 : k < ops.size <;> simp [h2] at h
    · exfalso
      by_cases h2 : j < ops.size <;> simp [h2] at h
  · rintro l a w i ⟨hls, hIw, hAD, hasz, hadf, hF, hU, hC⟩ hi
    obtain ⟨hun, o, ho, hpre⟩ := mem_ready.1 hi
    have hilt : i < ops.size := (Array.getElem?_eq_some_iff.1 ho).1
    have hin : i < ds.length := by rw [<- G.size]; exact hilt
    have hil : i < l.size := by omega
    have hdep : ∀ e ∈ o.after, Region.binds .any e = true -> Φ e.on (a.eval (.tmp (ds.getD e.on 0))) w := fun e he hb => hF e.on (Nat.lt_trans (G.back i o ho e he hb) hin) (hpre e he hb)
    have hili : l.getD i false = false := by
      cases h : l.getD i false with
      | false => rfl
      | true =>
        exfalso
        simp [hil] at h hun
        rw [h] at hun
        cases hun
    have hnext : ∀ v w', (∀ u, (ds.getD i 0 < 1000 -> u = v) -> Φ i u w') -> R i w w' -> (l.setIfInBounds i true).size = ds.length /\ I w' /\ AtDoor a0 ds (a.put o.dst v).eval /\ (a.put o.dst v).tmps.size = a0.tmps.size /\ (a.put o.dst v).defers = a0.defers /\ (∀ k, k < ds.length -> (l.setIfInBounds i true).getD k false = true -> Φ k ((a.put o.dst v).eval (.tmp (ds.getD k 0))) w') /\ (∀ k, k < ds.length -> (l.setIfInBounds i true).getD k false = false -> Pre k w' /\ (a.put o.dst v).eval (.tmp (ds.getD k 0)) = a0.eval (.tmp (ds.getD k 0))) /\ (∀ (j : Nat) (p : Oper), ops[j]? = some p -> (l.setIfInBounds i true).getD j false = true -> ∀ e ∈ p.after, Region.binds .any e = true -> (l.setIfInBounds i true).getD e.on false = true) := fun v w' hphi hr => by
      have hother : ∀ k, k < ds.length -> k ≠ i -> (a.put o.dst v).eval (.tmp (ds.getD k 0)) = a.eval (.tmp (ds.getD k 0)) := fun k hk hki => by
        rcases G.dst i o ho with ⟨_, hd⟩ | ⟨_, hd⟩
        · rw [hd]
          exact eval_put_other _ _ _ _ (fun e => hki (fds_inj G.nodup hk hin e))
        · rw [hd]; rfl
      have hself : (a.put o.dst v).eval (.tmp (ds.getD i 0)) = v \/ ¬ ds.getD i 0 < 1000 := by
        rcases G.dst i o ho with ⟨h1, hd⟩ | ⟨h1, hd⟩
        · left
          rw [hd]
          refine eval_put_same _ _ _ ?_
          rw [hasz]
          rcases hsz _ (fds_mem hin) with h | h
          · exact h
          · omega
        · right; omega
      refine ⟨by rw [Array.size_setIfInBounds]; exact hls, hI i w w' hIw hr, ?_, ?_, ?_, fun k hk hkl => ?_, fun k hk hkl => ?_, fun j p hp hjl e he hb2 => (getD_set_iff hil).mpr (.inr ?_)⟩
      · rcases G.dst i o ho with ⟨_, hd⟩ | ⟨_, hd⟩
        · rw [hd]; exact hAD.put (fds_mem hin) v
        · rw [hd]; exact hAD
      · rcases G.dst i o ho with ⟨_, hd⟩ | ⟨_, hd⟩
        · rw [hd]
          show (a.tmps.setIfInBounds _ _).size = _
          rw [Array.size_setIfInBounds]; exact hasz
        · rw [hd]; exact hasz
      · rcases G.dst i o ho with ⟨_, hd⟩ | ⟨_, hd⟩ <;> rw [hd] <;> exact hadf
      · by_cases hki : k = i
        · subst hki
          refine hphi _ fun h1 => ?_
          rcases hself with h | h
          · exact h
          · exact absurd h1 h
        · rw [hother k hk hki]
          have hlk := (listed_set hkl).resolve_left hki
          refine hΦ i k _ _ _ hki (fun p hp => ?_) (hF k hk hlk) hr
          cases hany : p.after.any fun e => e.on == i && Region.binds .any e with
          | false => rfl
          | true =>
            obtain ⟨e, he, h8⟩ := Array.any_eq_true'.1 hany
            rw [Bool.and_eq_true, beq_iff_eq] at h8
            have h9 := hC k p hp hlk e he h8.2
            rw [h8.1, hili] at h9
            cases h9
      · have hki : k ≠ i := fun e => by
          have h2 := (getD_set_iff (k := k) hil).mpr (.inl e)
          rw [hkl] at h2; cases h2
        rw [hother k hk hki]
        have h3 := hU k hk (by
          cases h : l.getD k false with
          | false => rfl
          | true =>
            have h2 := (getD_set_iff (k := k) hil).mpr (.inr h)
            rw [hkl] at h2; cases h2)
        exact ⟨hP i k w w' hki h3.1 hr, h3.2⟩
      · rcases (getD_set_iff hil).mp hjl with rfl | h
        · rw [ho] at hp
          obtain rfl := Option.some.inj hp
          exact hpre e he hb2
        · exact hC j p hp h e he hb2
    have hlate : ∀ (j : Nat) (p : Oper), ops[j]? = some p -> (p.after.any fun e => e.on == i && Region.binds .any e) = true -> a.eval (.tmp (ds.getD j 0)) = a0.eval (.tmp (ds.getD j 0)) := fun j p hp hany => by
      obtain ⟨e, he, h8⟩ := Array.any_eq_true'.1 hany
      rw [Bool.and_eq_true, beq_iff_eq] at h8
      refine (hU j (by rw [<- G.size]; exact (Array.getElem?_eq_some_iff.1 hp).1) ?_).2
      cases h : l.getD j false with
      | false => rfl
      | true =>
        have h2 := hC j p hp h e he h8.2
        rw [h8.1, hili] at h2
        cases h2
    unfold wpOp
    rw [ho]
    have hyield : ∀ g b, o.guard = some (g, b) -> yielded ops a.tmps g = some (if wt.getD i true = true then b else !b) := fun g b hg => by
      obtain ⟨hgi, e, he, h1, h2⟩ := G.guard i o g b ho hg
      have hv := hW i o g b ho hg _ _ (by have := hdep e he h2; rwa [h1] at this)
      obtain ⟨og, hog⟩ : ∃ og, ops[g]? = some og := ⟨_, Array.getElem?_eq_getElem (by omega)⟩
      rcases G.dst g og hog with ⟨hd0, hd⟩ | ⟨hd0, hd⟩
      · unfold yielded
        rw [hog, Option.bind_some, hd, Option.bind_some]
        have hlt : ds.getD g 0 < a.tmps.size := by
          rw [hasz]
          rcases hsz _ (fds_mem (show g < ds.length by omega)) with h | h
          · exact h
          · omega
        rw [Array.getElem?_eq_getElem hlt]
        have : a.tmps[ds.getD g 0] = .bool (if wt.getD i true = true then b else !b) := by
          rw [<- hv]
          show _ = a.tmps.getD (ds.getD g 0) undef
          rw [Array.getD_eq_getD_getElem?, Array.getElem?_eq_getElem hlt]
          rfl
        rw [this]
      · exfalso
        rw [eval_far (by rw [hasz]; omega)] at hv
        cases hv
    cases hw : wt.getD i true with
    | true =>
      have hwant : Region.wanted o (yielded ops a.tmps) = true := by
        unfold Region.wanted
        cases hg : o.guard with
        | none => rfl
        | some gb =>
          obtain ⟨g, b⟩ := gb
          show (yielded ops a.tmps g == some b) = true
          rw [hyield g b hg, hw]
          simp
      simp only [hwant, if_true]
      exact .inl (hstep i o ho hw a w hIw (hU i hin hili).1 hAD hdep hlate _ hnext)
    | false =>
      have hwant : Region.wanted o (yielded ops a.tmps) = false := by
        unfold Region.wanted
        cases hg : o.guard with
        | none =>
          have := G.free i o ho hg
          rw [hw] at this
          cases this
        | some gb =>
          obtain ⟨g, b⟩ := gb
          show (yielded ops a.tmps g == some b) = false
          rw [hyield g b hg, hw]
          cases b <;> rfl
      simp only [hwant]
      exact hnext undef w (hskip i hw w).2 (hskip i hw w).1
  · rintro l a w ⟨hls, hIw, hAD, hasz, hadf, hF, _, _⟩ hr
    have hall := all_listed' (by rw [hls, G.size]) G.back hr
    rw [act_fill hAD hasz hadf]
    exact hend (fun t => a.eval (.tmp t)) w hIw fun k hk => hF k hk (hall k (by rw [G.size]; exact hk))
end
section
variable {P: Program} {Q: Exit -> Act -> World -> Prop}
theorem ux_val {o: Oper} {a: Act} {w: World} {k d: Nat} {Φ: Nat -> Value -> World -> Prop} {R: Nat -> World -> World -> Prop} {K: Act -> World -> Prop} (hK: ∀ v w',(∀ u,(d < 1000 -> u = v) -> Φ k u w') -> R k w w' -> K (a.put o.dst v) w')
  {ρ: Operand -> Value} (hρ: a.eval = ρ) (hd: d < 1000) (v: Value) (w': World) (hr: (execOp ρ o).run P w = .ok (.value v) w') (hv: Φ k v w') (hb: R k w w'): o.wp P a w K Q:=by
 subst hρ
 unfold Oper.wp
 rw [hr,Oper.upon_value]
 exact hK v w' (fun u hu => by rw [hu hd]; exact hv) hb
theorem ux_call {o: Oper} {a: Act} {w: World} {k d: Nat} {Φ: Nat -> Value -> World -> Prop} {R: Nat -> World -> World -> Prop} {K: Act -> World -> Prop} (hK: ∀ v w',(∀ u,(d < 1000 -> u = v) -> Φ k u w') -> R k w w' -> K (a.put o.dst v) w')
  {ρ: Operand -> Value} (hρ: a.eval = ρ) (hd: d < 1000) (f: FuncId) (xs: Array Operand) (tys: Array TypeId) (vs: Array Value)
  (ho: o.op = .call { callee:=.value (.func f),args:=xs,argTypes:=tys }) (hxs: xs.map ρ = vs) (eg: ∀ args w,(callFunc f args).run P w = .ok (.enter f args) w)
  (h: Calls P f vs w fun e w' => ∃ v,e = .returned v /\ Φ k v w' /\ R k w w'): o.wp P a w K Q:=by
 subst hρ
 have hr: (execOp a.eval o).run P w = .ok (.enter f vs) w:=by
  have:=eg vs w
  simp [execOp,ho,resolve,hxs,invoke,Deferred.ofValue,Act.eval,this,go_sem]
 unfold Oper.wp
 rw [hr,Oper.upon_enter]
 refine h.mono fun e w' ⟨v,he,hv,hb⟩ => ?_
 subst he
 exact hK v w' (fun u hu => by rw [hu hd]; exact hv) hb
theorem ux_skip {o: Oper} {a: Act} {w: World} {k d: Nat} {Φ: Nat -> Value -> World -> Prop} {R: Nat -> World -> World -> Prop} {K: Act -> World -> Prop} (hK: ∀ v w',(∀ u,(d < 1000 -> u = v) -> Φ k u w') -> R k w w' -> K (a.put o.dst v) w')
  {ρ: Operand -> Value} (hρ: a.eval = ρ) (hd: ¬ d < 1000) (w': World) (hr: (execOp ρ o).run P w = .ok .skip w') (hv: ∀ u,Φ k u w') (hb: R k w w'): o.wp P a w K Q:=by
 subst hρ
 unfold Oper.wp
 rw [hr,Oper.upon_skip]
 exact hK undef w' (fun u _ => hv u) hb
theorem wp_region_univ0 {ops: Array Oper} (ds: List Nat) {id: Nat} {a0: Act} {w0: World} (hm: P.follows .mixedOrders = true) (hG: univB ops ds [] = true) (hN: (ops.toList.all fun o: Oper => o.guard.isNone) = true) (hsz: ∀ d ∈ ds,d < a0.tmps.size \/ 1000 <= d) (hs1: a0.tmps.size <= 1000)
  (I: World -> Prop) (Φ: Nat -> Value -> World -> Prop) (Pre: Nat -> World -> Prop) (R: Nat -> World -> World -> Prop)
  (hI: ∀ i w w',I w -> R i w w' -> I w') (hΦ: ∀ i k v w w',k ≠ i -> (∀ p: Oper,ops[k]? = some p -> (p.after.any fun e => e.on == i && Region.binds .any e) = false) -> Φ k v w -> R i w w' -> Φ k v w') (hP: ∀ i k w w',k ≠ i -> Pre k w -> R i w w' -> Pre k w')
  (h0: I { w0 with drawn:=w0.drawn + 1 }) (hp0: ∀ k,Pre k { w0 with drawn:=w0.drawn + 1 })
  (hstep: ∀ (k: Nat) (o: Oper),ops[k]? = some o -> ∀ (a: Act) (w: World),I w -> Pre k w -> AtDoor a0 ds a.eval -> (∀ e ∈ o.after,Region.binds .any e = true -> Φ e.on (a.eval (.tmp (ds.getD e.on 0))) w) ->
   (∀ (j: Nat) (p: Oper),ops[j]? = some p -> (p.after.any fun e => e.on == k && Region.binds .any e) = true -> a.eval (.tmp (ds.getD j 0)) = a0.eval (.tmp (ds.getD j 0))) ->
   ∀ K: Act -> World -> Prop,(∀ v w',(∀ u,(ds.getD k 0 < 1000 -> u = v) -> Φ k u w') -> R k w w' -> K (a.put o.dst v) w') -> o.wp P a w K Q)
  (hend: ∀ (vals: Nat -> Value) (w: World),I w -> (∀ k,k < ds.length -> Φ k (vals (ds.getD k 0)) w) -> Q .normal ⟨(fillA a0 ds vals).toArray,a0.defers⟩ w) :
  (Code.region id ops true).wp P Q a0 w0 :=
 wp_region_univ ds [] hm hG hsz hs1 I Φ Pre R hI hΦ hP h0 hp0 (fun k o g b ho hg => by
  have:=List.all_eq_true.1 hN o (by rw [Array.mem_toList_iff]; exact Array.mem_of_getElem? ho)
  rw [hg] at this
  cases this) (fun k h => by simp at h) (fun k o ho _ => hstep k o ho) hend
def RBel: Nat -> World -> World -> Prop:=fun _ w w' => Below w.heap.size w w'
theorem wp_region_b {ops: Array Oper} (ds: List Nat) {id: Nat} {a0: Act} {w0: World} (hm: P.follows .mixedOrders = true) (hG: univB ops ds [] = true) (hN: (ops.toList.all fun o: Oper => o.guard.isNone) = true) (hsz: ∀ d ∈ ds,d < a0.tmps.size \/ 1000 <= d) (hs1: a0.tmps.size <= 1000)
  (Φ: Nat -> Value -> World -> Prop) (hΦ: ∀ k v w w',Φ k v w -> Below w.heap.size w w' -> Φ k v w')
  (hstep: ∀ (k: Nat) (o: Oper),ops[k]? = some o -> ∀ (a: Act) (w: World),Below w0.heap.size w0 w -> AtDoor a0 ds a.eval -> (∀ e ∈ o.after,Region.binds .any e = true -> Φ e.on (a.eval (.tmp (ds.getD e.on 0))) w) ->
   ∀ K: Act -> World -> Prop,(∀ v w',(∀ u,(ds.getD k 0 < 1000 -> u = v) -> Φ k u w') -> RBel k w w' -> K (a.put o.dst v) w') -> o.wp P a w K Q)
  (hend: ∀ (vals: Nat -> Value) (w: World),Below w0.heap.size w0 w -> (∀ k,k < ds.length -> Φ k (vals (ds.getD k 0)) w) -> Q .normal ⟨(fillA a0 ds vals).toArray,a0.defers⟩ w) :
  (Code.region id ops true).wp P Q a0 w0 :=
 wp_region_univ0 ds hm hG hN hsz hs1 (fun w => Below w0.heap.size w0 w) Φ (fun _ _ => True) RBel (fun i w w' h hr => h.trans (Below.mono hr h.size)) (fun i k v w w' _ _ h hr => hΦ k v w w' h hr) (fun _ _ _ _ _ _ _ => trivial)
  (Below.refl _ _).drew (fun _ => trivial) (fun k o ho a w hI _ hA hd _ K hK => hstep k o ho a w hI hA hd K hK) hend
theorem own_grown {w w': World} {b: Nat} {e: TypeId} {s n: Nat} {v: Value} {xs: List Value} {row: Option Nat} (h: w.ownsRow b e s v n xs) (hg: w.grownBy w' row) (hne: ∀ g,v.ownBlock = some g -> row ≠ some g): w'.ownsRow b e s v n xs:=by
 refine ⟨h.1,?_⟩
 rcases h.2 with q | ⟨g,cap,cur,rfl,hbg,hh,rest⟩
 ·exact .inl q
 ·refine .inr ⟨g,cap,cur,rfl,hbg,?_,rest⟩
  rw [hg.block g (Array.getElem?_eq_some_iff.1 hh).1 (fun q => hne g rfl q.symm)]
  exact hh
theorem own_apart {w: World} {b1 b2: Nat} {e1 e2: TypeId} {s1 s2 n1 n2: Nat} {v1 v2: Value} {xs1 xs2: List Value} (h1: w.ownsRow b1 e1 s1 v1 n1 xs1) (h2: w.ownsRow b2 e2 s2 v2 n2 xs2) (he: e1 ≠ e2): ∀ g,v1.ownBlock = some g -> v2.ownBlock ≠ some g:=by
 intro g hg hg2
 rcases h1.2 with ⟨rfl,_⟩ | ⟨g1,cap1,cur1,rfl,_,hh1,_⟩
 ·cases hg
 ·rcases h2.2 with ⟨rfl,_⟩ | ⟨g2,cap2,cur2,rfl,_,hh2,_⟩
  ·cases hg2
  ·injection hg with hg
   injection hg2 with hg2
   simp only at hg hg2
   rw [hg] at hh1
   rw [hg2,hh1] at hh2
   injection hh2 with hh2
   injection hh2 with _ hh2
   exact he hh2
theorem own_at {w: World} {b: Nat} {e: TypeId} {s n: Nat} {v: Value} {xs: List Value} (h: w.ownsRow b e s v n xs) {g: Nat} (hg: v.ownBlock = some g): b <= g /\ ∃ cur,w.heap[g]? = some (.cells cur e (0,0)):=by
 rcases h.2 with ⟨rfl,_⟩ | ⟨g1,cap1,cur1,rfl,hb,hh1,_⟩
 ·cases hg
 ·injection hg with hg
  simp only at hg
  subst hg
  exact ⟨hb,cur1,hh1⟩
end
end Go.Proofs.YtlfekmbalgkmeaaGreatDoor
