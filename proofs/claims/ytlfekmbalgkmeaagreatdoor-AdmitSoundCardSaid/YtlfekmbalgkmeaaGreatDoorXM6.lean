import Derived.Test.YtlfekmbalgkmeaaGreatDoorXM5
import Derived.Test.YtlfekmbalgkmeaaGreatDoorXM2
import Derived.Test.YtlfekmbalgkmeaaGreatDoorXM3
import Derived.Shelf.Abstract
import Derived.Test.YtlfekmbalgkmeaaGreatDoorChecked
import Derived.WalkKit
import Derived.WalkSmall
import Derived.Laws.BitsAllLaws
import Derived.Lib.Hide
set_option linter.unusedSimpArgs false
set_option linter.unnecessarySimpa false
set_option linter.unusedVariables false
set_option maxRecDepth 100000
set_option maxHeartbeats 8000000
namespace Go.Proofs.YtlfekmbalgkmeaaGreatDoor
open Go Go.RowKit
section
variable {A: Option Addr} {n c: Nat} {es: List Shp}
end
theorem fit_iff {es: List Shp} (hM: MayE es): FitE es ↔ ∀ u,1 <= u -> u < horE es + 1 -> AtE es u:=⟨fun h u a b => h.2 u a (by omega),fun h => ⟨hM,fun t a b => h t a (by omega)⟩⟩
section
variable {A: Option Addr} {n c: Nat} {es: List Shp}
theorem efits_any (r: Bool) (hr: r = true ↔ FitE es) (w: World) (hT: DTab w) (hn: es.length = n) (hl: n <= 1000) (hS: Shps w w.heap.size A es) :
  Calls Tryz.prog 73 #[.slice A n c] w fun e w' => e = .returned (.bool r) /\ Below w.heap.size w w':=by
 have K:=Lib.hid (echeck_any (c:=c) w hT hn hl hS)
 by_cases hM: MayE es
 ·have KH:=Lib.hid (fun W (b: Below w.heap.size w W) => ehor_any (c:=c) W (hT.via b) hn hl (hS.via b))
  have KD:=Lib.hid (fun t h0 h1 W (b: Below w.heap.size w W) => edem_any (c:=c) t W hn (hS.via b) hM h0 h1)
  have KB:=Lib.hid (fun t W (b: Below w.heap.size w W) => eblk_any (c:=c) t W hn hl (hS.via b))
  have DB:=Lib.hid (fun t (h0: 0 <= t) => demE_le hM (t:=t) h0)
  have BB:=Lib.hid (fun t => blkE_le hM (t:=t))
  have HR:=Lib.hid (hr.trans (fit_iff hM))
  have hh:=hor_le (L:=es)
  obtain ⟨H,hH⟩: ∃ H,H = horE es:=⟨_,rfl⟩
  rw [chkEd_ok hM] at K
  rw [<- hH] at KH HR hh
  obtain ⟨h0,h1⟩:=hh
  clear hS hT hn hl hM hH hr
  go_enter Tryz.func73,Tryz.ntmps73
  go_wp2_with fail
  refine K.out.mono ?_
  rintro e w1 ⟨rfl,b⟩
  have B:=Lib.hid b
  clear b
  go_wp2_with fail
  refine (KH.out _ B.out).mono ?_
  rintro e w2 ⟨rfl,b⟩
  have B:=Lib.hid (B.out.trans (b.mono B.out.size))
  clear b
  go_wp2_with fail
  go_loopw [4] (fun v wr => ∃ t: Int,1 <= t /\ t <= H + 1 /\ v = .int .i64 t /\ Hid (Below w.heap.size w wr) /\ Hid (∀ u,1 <= u -> u < t -> AtE es u)) (fun v _ => (H + 1 - intOf v).toNat)
  case atStart => exact ⟨1,by omega,by omega,rfl,B,Lib.hid (fun u a b => by omega)⟩
  case round =>
   obtain ⟨t,t0,t1,rfl,HI,HA⟩:=hrel
   by_cases hlt: t <= H
   ·obtain ⟨d,hd⟩: ∃ d,d = demE es t:=⟨_,rfl⟩
    obtain ⟨b,hb⟩: ∃ b,b = blkE es t:=⟨_,rfl⟩
    have K1:=Lib.hid (KD.out t (by omega) (by omega) wr HI.out)
    have K2:=Lib.hid (fun W b => KB.out t W b)
    have D1:=DB.out t (by omega)
    have B1:=BB.out t
    have HAT: Hid (AtE es t ↔ (d = 0 \/ d + b <= t)):=Lib.hid (by unfold AtE; rw [<- hd,<- hb])
    have HRF:=Lib.hid (fun (h: ¬ AtE es t) => (show r = false by
     rw [<- Bool.not_eq_true]
     exact fun q => h (HR.out.mp q t t0 (by omega))))
    have HNX:=Lib.hid (fun (h: AtE es t) => (show ∀ u,1 <= u -> u < t + 1 -> AtE es u from fun u a q => by
     by_cases e: u = t
     ·rw [e]; exact h
     ·exact HA.out u a (by omega)))
    rw [<- hd] at K1 D1
    rw [<- hb] at K2 B1
    obtain ⟨d0,d1⟩:=D1
    obtain ⟨b0,b1⟩:=B1
    clear hd hb
    by_cases hz: d = 0
    ·have HN2:=Lib.hid (HNX.out (HAT.out.mpr (.inl hz)))
     have hz2: (d == 0) = true:=by simpa using hz
     subst hz
     go_wp2_with fail
     refine K1.out.mono ?_
     rintro e w3 ⟨rfl,b⟩
     have HI:=Lib.hid (HI.out.trans (b.mono HI.out.size))
     clear b
     go_wp2
     go_roundw
     case rel => exact ⟨t + 1,by omega,by omega,by go_num,HI,HN2⟩
     case measure => simp [intOf]; omega
    ·have hz2: (d == 0) = false:=by simpa using hz
     by_cases hg: d + b <= t
     ·have HN2:=Lib.hid (HNX.out (HAT.out.mpr (.inr hg)))
      go_wp2_with fail
      refine K1.out.mono ?_
      rintro e w3 ⟨rfl,b⟩
      have HI:=Lib.hid (HI.out.trans (b.mono HI.out.size))
      clear b
      go_wp2_with fail
      refine (K2.out _ HI.out).mono ?_
      rintro e w4 ⟨rfl,b⟩
      have HI:=Lib.hid (HI.out.trans (b.mono HI.out.size))
      clear b
      go_wp2
      go_roundw
      case rel => exact ⟨t + 1,by omega,by omega,by go_num,HI,HN2⟩
      case measure => simp [intOf]; omega
     ·obtain rfl: r = false:=HRF.out fun q => by rcases HAT.out.mp q with h | h <;> omega
      go_wp2_with fail
      refine K1.out.mono ?_
      rintro e w3 ⟨rfl,b⟩
      have HI:=Lib.hid (HI.out.trans (b.mono HI.out.size))
      clear b
      go_wp2_with fail
      refine (K2.out _ HI.out).mono ?_
      rintro e w4 ⟨rfl,b⟩
      have HI:=Lib.hid (HI.out.trans (b.mono HI.out.size))
      clear b
      go_wp2
      go_ret
      exact ⟨rfl,HI.out⟩
   ·obtain rfl: r = true:=HR.out.mpr fun u a q => HA.out u a (by omega)
    go_wp2
    go_ret
    exact ⟨rfl,HI.out⟩
 ·obtain rfl: r = false:=by
   rw [<- Bool.not_eq_true]
   exact fun q => hM (hr.mp q).1
  rw [chkEd_no hM] at K
  clear hS hT hn hl hM hr
  go_enter Tryz.func73,Tryz.ntmps73
  go_wp2_with fail
  refine K.out.mono ?_
  rintro e w1 ⟨rfl,b⟩
  have B:=Lib.hid b
  clear b
  go_wp2
  go_ret
  exact ⟨rfl,B.out⟩
end
theorem wpList_pushS {ops : Array Oper} {rest : List Oper} {o : Oper} {a : Act} {Q : Exit -> Act -> World -> Prop} (hgd : o.guard = none) (s x : Operand)
    (ho : o.op = .call { callee := .builtin .append, args := #[s, x], argTypes := #[25, 25] })
    (w1 : World) (base : Nat) (v : Value) (es : List Shp) (t l m d p : Int) (len : Nat) (hlen : es.length = len) (hl : len <= 900) (hO : OwnS w1 base v es) (hB : base <= w1.heap.size)
    (hs : a.eval s = v) (hx : a.eval x = .slice (some ⟨w1.heap.size, 0, none⟩) 1 1)
    (h : ∀ F' d' w', OwnS w' base (.slice F' (len + 1) d') (es ++ [⟨t, l, m, d, p⟩]) -> Below base w1 w' -> wpList Tryz.prog ops Q rest (a.put o.dst (.slice F' (len + 1) d')) w') :
    wpList Tryz.prog ops Q (o :: rest) a (w1.alloc (.cells #[.int .i64 t, .int .i64 l, .int .i64 m, .int .i64 d, .int .i64 p] 44)) := by
  obtain ⟨j0, hj0, hy0, hy1, hy2⟩ := shape_info
  subst hlen
  refine wpList_append_own _ hgd s x 25 ho base 44 j0 (.agg #[.int .i64 0, .int .i64 0, .int .i64 0, .int .i64 0, .int .i64 0]) 5 40 Tryz.underlying25 hj0 hy0 hy1 hy2 rfl (by omega) v es.length (flatS es) hs (own_below hO (below_alloc _)) ⟨w1.heap.size, 0, none⟩ 1 1 [.int .i64 t, .int .i64 l, .int .i64 m, .int .i64 d, .int .i64 p] hx rfl ?_ ?_
    (by unfold maxLen; omega) (by omega) (by simp; omega) ?_
  · intro j u hu
    rw [addr_add, World.cell?_alloc_at _ _ _ _ rfl]
    match j with
    | 0 => obtain rfl : Value.int .i64 t = u := by simpa using hu
           rfl
    | 1 => obtain rfl : Value.int .i64 l = u := by simpa using hu
           rfl
    | 2 => obtain rfl : Value.int .i64 m = u := by simpa using hu
           rfl
    | 3 => obtain rfl : Value.int .i64 d = u := by simpa using hu
           rfl
    | 4 => obtain rfl : Value.int .i64 p = u := by simpa using hu
           rfl
    | j + 5 => simp at hu
  · intro u hu
    rcases (by simpa using hu : u = .int .i64 t \/ u = .int .i64 l \/ u = .int .i64 m \/ u = .int .i64 d \/ u = .int .i64 p) with rfl | rfl | rfl | rfl | rfl <;> rfl
  · intro v' w' hown' hg _
    have hO' : OwnS w' base v' (es ++ [⟨t, l, m, d, p⟩]) := by
      unfold OwnS
      rw [List.length_append, List.length_singleton, flatS_app]
      exact hown'
    obtain ⟨F', d', rfl, _⟩ := hO'.slice
    rw [show (es ++ [(⟨t, l, m, d, p⟩ : Shp)]).length = es.length + 1 by simp] at hO' ⊢
    exact h F' d' w' hO' (((Below.refl base w1).alloc hB _).grown hg (by simp; omega) (fun k hk => (World.ownsRow.lt hO k hk).1))
theorem OwnS.nil (w: World) (base: Nat): OwnS w base (.slice none 0 0) []:=⟨rfl,.inl ⟨rfl,rfl⟩⟩
theorem maybe_any (m: Int) (w: World): Calls Tryz.prog 118 #[.int .i64 m] w fun e w' => e = .returned (.bool (decide (0 <= m /\ m <= 8))) /\ w = w':=by
 by_cases h0: 0 <= m
 ·by_cases h8: m <= 8
  ·rw [decide_eq_true ⟨h0,h8⟩]
   go_enter Tryz.func118,Tryz.ntmps118
   go_wp2
   go_ret
   exact ⟨rfl,rfl⟩
  ·rw [decide_eq_false (fun q => h8 q.2)]
   go_enter Tryz.func118,Tryz.ntmps118
   go_wp2
   go_ret
   exact ⟨rfl,rfl⟩
 ·rw [decide_eq_false (fun q => h0 q.1)]
  go_enter Tryz.func118,Tryz.ntmps118
  go_wp2
  go_ret
  exact ⟨rfl,rfl⟩
section
variable {A P: Option Addr} {n c m d: Nat} {es: List Shp} {at_: List Int}
theorem on_any (k: Int) (w: World) (hn: es.length = n) (hl: n <= 800) (hS: Shps w w.heap.size A es) (hm: at_.length = m) (hm2: m <= 1000) (hP: Ints w w.heap.size P at_) :
  Calls Tryz.prog 156 #[.slice A n c,.slice P m d,.int .i64 k] w (GotShps (onP es at_ k) w):=by
 have HS:=Lib.hid hS
 have HP:=Lib.hid hP
 obtain ⟨q,hq⟩: ∃ q,q = min n m:=⟨_,rfl⟩
 have hmin: min (n: Int) (m: Int) = (q: Int):=by omega
 have HQ:=Lib.hid hq
 have HE: Hid (onP (es.take q) (at_.take q) k = onP es at_ k):=Lib.hid (by rw [hq,<- hn,<- hm]; exact onP_min es at_ k)
 have HN:=Lib.hid (show es.length = n /\ at_.length = m /\ q <= n /\ q <= m from ⟨hn,hm,by omega,by omega⟩)
 have hq8: q <= 800:=by omega
 have hcases: (m < n /\ q = m) \/ (¬ m < n /\ q = n):=by omega
 clear hn hS hm hP hq hl hm2 hmin
 rcases hcases with ⟨h,rfl⟩ | ⟨h,rfl⟩
 all_goals
  go_enter Tryz.func156,Tryz.ntmps156
  go_wp2
  go_loopw [7,14] (fun v i wr => ∃ (j len: Nat) (F: Option Addr) (f: Nat),j <= q /\ len <= j /\ i = .int .i64 j /\ v = .slice F len f /\ Hid (len = (onP (es.take j) (at_.take j) k).length) /\ Hid (OwnS wr w.heap.size (.slice F len f) (onP (es.take j) (at_.take j) k)) /\ Hid (Below w.heap.size w wr)) (fun _ i _ => q - (intOf i).toNat)
  case atStart => exact ⟨0,0,none,0,Nat.zero_le _,Nat.le_refl _,rfl,rfl,Lib.hid (by simp [onP]),Lib.hid (by simp only [List.take_zero,onP]; exact OwnS.nil _ _),Lib.hid (Below.refl _ _)⟩
  case round =>
   obtain ⟨j,len,F,f,hj,hlj,rfl,rfl,HL,HO,HI⟩:=hrel
   by_cases hlt: j < q
   ·obtain ⟨bk,off,t,l,mm,dd,pp,rfl,hbg,hek,d1,d2,d3,d4,d5⟩:=(HS.out.below HI.out).at_ (k:=j) (by have:=HN.out; omega)
    obtain ⟨b3,o3,x,rfl,hb3,hx,d6⟩:=(HP.out.below HI.out).at_ (k:=j) (by have:=HN.out; omega)
    have HSN:=Lib.hid (onP_snoc (c:=k) hek hx)
    clear hek hx
    by_cases hxk: x = k
    ·subst hxk
     rw [if_pos rfl] at HSN
     go_wp2_with (at_builtin; refine wpList_pushS rfl _ _ rfl wr w.heap.size _ _ t l mm dd pp len HL.out.symm (by omega) HO.out HI.out.size rfl rfl ?_; intro F' d' w3 hO3 hb3; have HO3:=Lib.hid hO3; have HI3:=Lib.hid (HI.out.trans hb3); clear hO3 hb3)
     go_roundw
     case rel => exact ⟨j + 1,len + 1,F',d',by omega,by omega,by go_num,rfl,Lib.hid (by rw [HSN.out,List.length_append,<- HL.out]; rfl),Lib.hid (by rw [HSN.out]; exact HO3.out),HI3⟩
     case measure => simp [intOf]; omega
    ·rw [if_neg hxk,List.append_nil] at HSN
     go_wp2
     go_roundw
     case rel => exact ⟨j + 1,len,F,f,by omega,by omega,by go_num,rfl,Lib.hid (by rw [HSN.out]; exact HL.out),Lib.hid (by rw [HSN.out]; exact HO.out),HI⟩
     case measure => simp [intOf]; omega
   ·obtain rfl: q = j:=by omega
    rw [HE.out] at HL HO
    go_wp2
    go_ret
    exact ⟨F,f,by rw [<- HL.out]; rfl,by rw [<- HL.out]; exact HO.out,HI.out⟩
theorem on_n (k: Int) (w: World) (hn: es.length = n) (hl: n <= 800) (hS: Shps w w.heap.size A es) (hm: at_.length = m) (hm2: m <= 1000) (hP: Ints w w.heap.size P at_) :
  Calls Tryz.prog 156 #[.slice A n c,.slice P m d,.int .i64 k] w fun e w' => ∃ A1 n1 c1,e = .returned (.slice A1 n1 c1) /\ n1 <= n /\ (onP es at_ k).length = n1 /\ OwnS w' w.heap.size (.slice A1 n1 c1) (onP es at_ k) /\ Below w.heap.size w w':=by
 refine (on_any (c:=c) (d:=d) k w hn hl hS hm hm2 hP).mono ?_
 rintro e w' ⟨A1,c1,rfl,ho,hb⟩
 exact ⟨A1,_,c1,rfl,by rw [<- hn]; exact onP_len _ _ _,rfl,ho,hb⟩
end
theorem existsB (q: Prop): ∃ r: Bool,r = true ↔ q:=by
 by_cases h: q
 ·exact ⟨true,fun _ => h,fun _ => rfl⟩
 ·exact ⟨false,fun k => Bool.noConfusion k,fun k => absurd k h⟩
section
variable {A P: Option Addr} {n c m d: Nat} {es: List Shp} {at_: List Int}
end
theorem and_small: ∀ n: Fin 32,bits .and .u64 (n.1: Int) 4294967295 = n.1:=by decide
theorem mul64_one (n: Nat) (hn: n <= 31) (w: World): Calls Tryz.prog 181 #[.int .u64 1,.int .u64 n] w fun e w' => e = .returned (.tuple #[.int .u64 0,.int .u64 n]) /\ w = w':=by
 have h1: bits .and .u64 1 4294967295 = 1:=by decide
 have h0: bits .and .u64 0 4294967295 = 0:=by decide
 have h2: bits .and .u64 (n: Int) 4294967295 = n:=and_small ⟨n,by omega⟩
 have h3: (n: Int) / 4294967296 = 0:=by omega
 have h4: IntKind.u64.wrap (n: Int) = n:=by simp [IntKind.wrap,IntKind.signed,IntKind.bits]; omega
 have h5: IntKind.u64.wrap 0 = 0:=by decide
 clear hn
 go_enter Tryz.func181,Tryz.ntmps181
 go_wp2
 refine bodyPost_ret (v:=.tuple #[.int .u64 0,.int .u64 n]) ?_ rfl ⟨rfl,rfl⟩
 simp [results,Tryz.results181,go_sem,h0,h1,h2,h3,h4,h5]
theorem mul_one (n: Nat) (hn: n <= 31) (w: World): Calls Tryz.prog 174 #[.int .u64 1,.int .u64 n] w fun e w' => e = .returned (.tuple #[.int .u64 0,.int .u64 n]) /\ w = w':=by
 have C:=Lib.hid (fun W => mul64_one n hn W)
 clear hn
 go_enter Tryz.func174,Tryz.ntmps174
 go_wp2_with fail
 refine (C.out _).mono ?_
 rintro e w1 ⟨rfl,rfl⟩
 go_wp2
 refine bodyPost_ret (v:=.tuple #[.int .u64 0,.int .u64 n]) ?_ rfl ⟨rfl,rfl⟩
 simp [results,Tryz.results174,go_sem]
end Go.Proofs.YtlfekmbalgkmeaaGreatDoor
