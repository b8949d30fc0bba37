import Derived.Test.YtlfekmbalgkmeaaGreatDoorYM32
import Derived.Lib.SliceRun
import Derived.Lib.EndianMore
import Derived.Test.YtlfekmbalgkmeaaGreatDoorYM29
import Derived.Test.YtlfekmbalgkmeaaGreatDoorYM5
import Derived.Test.YtlfekmbalgkmeaaGreatDoorYM11
set_option linter.unusedSimpArgs false
set_option linter.unnecessarySimpa false
set_option linter.unusedVariables false
set_option maxRecDepth 100000
set_option maxHeartbeats 16000000
namespace Go.Proofs.YtlfekmbalgkmeaaGreatDoor
open Go Go.RowKit
def setL: List Value -> Nat -> List Value -> List Value
 | L,_,[] => L
 | L,o,v :: vs => setL (L.set o v) (o + 1) vs
theorem setL_take : ∀ (vs L : List Value) (o i : Nat), i <= o -> (setL L o vs).take i = L.take i
  | [], L, o, i, _ => rfl
  | v :: vs, L, o, i, h => by
    unfold setL
    rw [setL_take vs _ (o + 1) i (by omega), List.take_set_of_le h]
theorem setL_len : ∀ (vs L : List Value) (o : Nat), (setL L o vs).length = L.length
  | [], L, o => rfl
  | v :: vs, L, o => by
    unfold setL
    rw [setL_len vs, List.length_set]
theorem RowV.setCells {g: Nat} {t: TypeId}: ∀ (vs L: List Value) (o: Nat) (w: World),RowV g t L w -> RowV g t (setL L o vs) (w.setCells g o vs)
 | [],L,o,w,h => h
 | v :: vs,L,o,w,h => RowV.setCells vs (L.set o v) (o + 1) (w.setCell ⟨g,o,none⟩ v) (h.set o v)
theorem zero_int17 (w: World): (zeroValue 3).run Tryz.prog w = .ok (.int .i64 0) w:=by
 obtain ⟨i0,hi,hz0,hz1,hz2⟩:=int_info
 simp [zeroValue,typeInfo,hi,hz0]
theorem idx17 {B : Nat} (A : Option Addr) (c n : Nat) (zs : List Int) (g : Nat) (lb : Array Value) (eg : ∀ args w, (callFunc g args).run Tryz.prog w = .ok (.enter g args) w) (p : Int -> Bool) (w : World) (hn : zs.length = n) (hl : n <= 1000) (hT : Ints w w.heap.size A zs)
    (hp : ∀ z W, z ∈ zs -> Below w.heap.size w W -> Calls Tryz.prog g (#[.int .i64 z] ++ lb) W fun e w' => e = .returned (.bool (p z)) /\ Below W.heap.size W w') :
    Calls Tryz.prog 81 #[.slice A n c, .func (.func g) #[] lb] w fun e w' => ∃ r, e = .returned (.int .i64 r) /\ Below w.heap.size w w' /\ ((r = -1 /\ ∀ z ∈ zs, p z = false) \/ ∃ i : Nat, r = (i : Int) /\ i < n /\ (∀ z ∈ zs.take i, p z = false) /\ ∀ z, zs[i]? = some z -> p z = true) := by
  have HT := Lib.hid hT
  have HP := Lib.hid hp
  have HN := Lib.hid hn
  clear hT hp hn
  go_enter Tryz.func81, Tryz.ntmps81
  go_wp2
  go_loopw [8] (fun v wr => ∃ k : Nat, k <= n /\ v = .int .i64 k /\ Hid (Below w.heap.size w wr) /\ Hid (∀ s ∈ zs.take k, p s = false)) (fun v _ => n - (intOf v).toNat)
  case atStart => exact ⟨0, Nat.zero_le _, rfl, Lib.hid (Below.refl _ _), Lib.hid (fun s hs => by simp at hs)⟩
  case round =>
    obtain ⟨k, hk, rfl, HI, HF⟩ := hrel
    by_cases hlt : k < n
    · obtain ⟨bk, off, z, rfl, hbg, hek, d1⟩ := (HT.out.below HI.out).at_ (k := k) (by rw [HN.out]; exact hlt)
      have HEK := Lib.hid hek
      have hcall := HP.out z wr (List.mem_of_getElem? hek) HI.out
      clear hek
      cases hq : p z with
      | true =>
        have HQ := Lib.hid hq
        rw [hq] at hcall
        clear hq
        go_wp2_with (go_at_fn g; refine hcall.mono ?_; rintro e w' ⟨rfl, hb'⟩)
        go_ret
        exact ⟨_, rfl, HI.out.trans (hb'.mono HI.out.size), .inr ⟨k, rfl, hlt, HF.out, fun y hy => by rw [HEK.out] at hy; obtain rfl := Option.some.inj hy; exact HQ.out⟩⟩
      | false =>
        have HQ := Lib.hid hq
        rw [hq] at hcall
        clear hq
        go_wp2_with (go_at_fn g; refine hcall.mono ?_; rintro e w' ⟨rfl, hb'⟩; have HB := Lib.hid (HI.out.trans (hb'.mono HI.out.size)); clear hb')
        go_roundw
        case rel => exact ⟨k + 1, by omega, by go_num, HB, Lib.hid (fun s hs => by
          rw [List.take_add_one, HEK.out] at hs
          rcases List.mem_append.mp hs with h | h
          · exact HF.out s h
          · obtain rfl : s = z := by simpa using h
            exact HQ.out)⟩
        case measure => simp [intOf]; omega
    · obtain rfl : n = k := by omega
      go_wp2
      go_ret
      exact ⟨-1, rfl, HI.out, .inl ⟨rfl, fun s hs => HF.out s (by rw [List.take_of_length_le (by rw [HN.out]; exact Nat.le_refl _)]; exact hs)⟩⟩
def keepF (p: Int -> Bool) (zs: List Int): List Int:=zs.filter fun x => !p x
theorem keepF_all {p: Int -> Bool} {zs: List Int} (h: ∀ z ∈ zs,p z = false): keepF p zs = zs:=List.filter_eq_self.mpr fun z hz => by simp [h z hz]
theorem keepF_snoc {p: Int -> Bool} {zs: List Int} {k: Nat} {z: Int} (h: zs[k]? = some z): keepF p (zs.take (k + 1)) = keepF p (zs.take k) ++ if p z = true then [] else [z]:=by
 unfold keepF
 rw [take_one h,List.filter_append]
 congr 1
 cases hp: p z <;> simp [hp]
theorem del17 {B ob : Nat} {n c : Nat} {zs : List Int} {row : List Value} (g : Nat) (lb : Array Value) (eg : ∀ args w, (callFunc g args).run Tryz.prog w = .ok (.enter g args) w) (p : Int -> Bool) (w : World) (hn : zs.length = n) (hl : n <= 1000)
    (hO : RowV ob 3 row w) (hr : row.length = c) (hnc : n <= c) (ht : row.take n = zs.map (Value.int .i64)) (hB : B <= ob)
    (hp : ∀ z W, z ∈ zs -> Below B w W -> Calls Tryz.prog g (#[.int .i64 z] ++ lb) W fun e w' => e = .returned (.bool (p z)) /\ Below W.heap.size W w') :
    Calls Tryz.prog 48 #[.slice (some ⟨ob, 0, none⟩) n c, .func (.func g) #[] lb] w fun e w' => e = .returned (.slice (some ⟨ob, 0, none⟩) (keepF p zs).length c) /\ Below B w w' /\
      ∃ row', RowV ob 3 row' w' /\ row'.length = c /\ row'.take (keepF p zs).length = (keepF p zs).map (Value.int .i64) := by
  have hlt0 := hO.lt
  have hcell0 : ∀ (t : Nat) (z : Int), zs[t]? = some z -> row[t]? = some (Value.int .i64 z) := fun t z hz => by
    have h1 : (row.take n)[t]? = (zs.map (Value.int .i64))[t]? := by rw [ht]
    have hl2 := (List.getElem?_eq_some_iff.mp hz).1
    rw [List.getElem?_take, if_pos (by omega), List.getElem?_map, hz] at h1
    exact h1
  have hI : Ints w w.heap.size (some ⟨ob, 0, none⟩) zs := fun hp0 => ⟨ob, 0, rfl, hlt0, fun t ht' => by
    rw [Nat.zero_add, List.getD_eq_getElem?_getD, List.getElem?_eq_getElem ht']
    exact hO.cell (hcell0 t _ (List.getElem?_eq_getElem ht'))⟩
  have KI := Lib.hid (idx17 (B := B) (some ⟨ob, 0, none⟩) c n zs g lb eg p w hn hl hI (fun z W hz b => hp z W hz (b.mono (by omega))))
  have HP := Lib.hid hp
  have HN := Lib.hid hn
  have HO := Lib.hid hO
  have HRL := Lib.hid hr
  have HT := Lib.hid ht
  have HC0 := Lib.hid hcell0
  have HB := Lib.hid hB
  clear hp hn hO hr ht hcell0 hI hB
  go_enter Tryz.func48, Tryz.ntmps48
  go_wp2_with fail
  refine KI.out.mono ?_
  rintro e w1 ⟨r, rfl, b1, hway⟩
  have HB1 := Lib.hid (show Below B w w1 from b1.mono (by have := HB.out; omega))
  have HR1 := Lib.hid (HO.out.below b1 hlt0)
  clear b1 KI
  rcases hway with ⟨rfl, hall⟩ | ⟨i0, rfl, hi0, hbef, hat⟩
  · have HK := Lib.hid (keepF_all hall)
    clear hall
    go_wp2
    refine bodyPost_ret (v := .slice (some ⟨ob, 0, none⟩) n c) ?_ rfl ?_
    · simp [results, Tryz.results48, go_sem]
    · rw [HK.out, HN.out]
      exact ⟨rfl, HB1.out, row, HR1.out, HRL.out, HT.out⟩
  · have hne : decide ((i0 : Int) = -1) = false := decide_eq_false (by omega)
    have hz0 : ∃ z, zs[i0]? = some z := ⟨_, List.getElem?_eq_getElem (by rw [HN.out]; exact hi0)⟩
    have HS0 := Lib.hid (show keepF p (zs.take (i0 + 1)) = zs.take i0 from by
      obtain ⟨z, hz⟩ := hz0
      rw [keepF_snoc hz, if_pos (hat z hz), List.append_nil, keepF_all hbef])
    obtain ⟨i1, hi1⟩ : ∃ i1 : Nat, i1 = i0 + 1 := ⟨_, rfl⟩
    have hwr : IntKind.wrap .i64 ((i0 : Int) + 1) = (i1 : Int) := by rw [hi1]; exact IntWalk.i64_in _ (by omega)
    have hne2 : ((i0 : Int) == -1) = false := by simpa using hne
    rw [<- hi1] at HS0
    have HI1 := Lib.hid hi1
    have hi1n : i1 <= n := by omega
    have hi01 : i0 < i1 := by omega
    clear hz0 hbef hat hi1
    go_wp2
    clear hne hne2 hwr
    go_loopw [5, 6] (fun iv jv wr => ∃ (i j : Nat) (rw_ : List Value), j <= n /\ i < j /\ iv = .int .i64 i /\ jv = .int .i64 j /\ Hid (i = (keepF p (zs.take j)).length) /\ Hid (RowV ob 3 rw_ wr) /\ Hid (rw_.length = c) /\ Hid (rw_.take i = (keepF p (zs.take j)).map (Value.int .i64)) /\ Hid (∀ (t : Nat) (z : Int), j <= t -> zs[t]? = some z -> rw_[t]? = some (Value.int .i64 z)) /\ Hid (Below B w wr)) (fun _ jv _ => n - (intOf jv).toNat)
    case atStart => exact ⟨i0, i1, row, hi1n, hi01, rfl, rfl, Lib.hid (by rw [HS0.out, List.length_take, HN.out]; omega), HR1, HRL, Lib.hid (by rw [HS0.out, List.map_take, <- HT.out, List.take_take]; congr 1; omega), Lib.hid (fun t z _ hz => HC0.out t z hz), HB1⟩
    case round =>
      obtain ⟨i, j, L, hj, hij, rfl, rfl, HI, HR, HL, HTk, HC, HBe⟩ := hrel
      have hBw : B <= wr.heap.size := by have := HB.out; have := HR.out.lt; omega
      by_cases hlt : j < n
      · obtain ⟨z, hz⟩ : ∃ z, zs[j]? = some z := ⟨_, List.getElem?_eq_getElem (by rw [HN.out]; exact hlt)⟩
        have hcz := HR.out.cell (HC.out j z (Nat.le_refl _) hz)
        have hcall := HP.out z wr (List.mem_of_getElem? hz) HBe.out
        have HS := Lib.hid (keepF_snoc (p := p) hz)
        have HZ := Lib.hid hz
        have hwr : IntKind.wrap .i64 ((j : Int) + 1) = (j : Int) + 1 := IntWalk.i64_in _ (by omega)
        have hwr2 : IntKind.wrap .i64 ((i : Int) + 1) = (i : Int) + 1 := IntWalk.i64_in _ (by omega)
        clear hz
        cases hq : p z with
        | true =>
          have HQ := Lib.hid hq
          rw [hq] at hcall
          clear hq
          go_wp2_with (go_at_fn g; refine hcall.mono ?_; rintro e w' ⟨rfl, hb'⟩; have HB' := Lib.hid (HBe.out.trans (hb'.mono hBw)); have HR' := Lib.hid (HR.out.below hb' HR.out.lt); clear hb')
          go_roundw
          case rel => exact ⟨i, j + 1, L, by omega, by omega, rfl, by go_num, Lib.hid (by rw [HS.out, if_pos HQ.out, List.append_nil]; exact HI.out), HR', HL, Lib.hid (by rw [HS.out, if_pos HQ.out, List.append_nil]; exact HTk.out), Lib.hid (fun t z' ht hz' => HC.out t z' (by omega) hz'), HB'⟩
          case measure => simp [intOf]; omega
        | false =>
          have HQ := Lib.hid hq
          rw [hq] at hcall
          clear hq
          have hiL : i < L.length := by rw [HL.out]; omega
          go_wp2_with (go_at_fn g; refine hcall.mono ?_; rintro e w' ⟨rfl, hb'⟩; have HB' := Lib.hid (HBe.out.trans (hb'.mono hBw)); have hR' := HR.out.below hb' HR.out.lt; have hc1 := hR'.cell (List.getElem?_eq_getElem hiL); have hf1 := hR'.frozen i; have HR' := Lib.hid hR'; clear hb' hR')
          go_roundw
          case rel =>
            refine ⟨i + 1, j + 1, L.set i (.int .i64 z), by omega, by omega, by go_num, by go_num, Lib.hid ?_, Lib.hid (HR'.out.set i (.int .i64 z)), Lib.hid (by rw [List.length_set]; exact HL.out), Lib.hid ?_, Lib.hid ?_, Lib.hid (HB'.out.setCell (p := ⟨ob, i, none⟩) HB.out _)⟩
            · rw [HS.out, if_neg (by rw [HQ.out]; decide), List.length_append, <- HI.out]; rfl
            · have e1 : (L.set i (Value.int .i64 z))[i]? = some (.int .i64 z) := List.getElem?_set_self hiL
              rw [HS.out, if_neg (by rw [HQ.out]; decide), take_one e1, List.take_set_of_le (Nat.le_refl _), HTk.out, List.map_append]
              rfl
            · intro t z' ht hz'
              rw [List.getElem?_set_ne (by omega)]
              exact HC.out t z' (by omega) hz'
          case measure => simp [intOf]; omega
      · obtain rfl : j = n := by omega
        have hall : zs.take j = zs := List.take_of_length_le (by rw [HN.out]; exact Nat.le_refl _)
        rw [hall] at HI HTk
        clear hall
        have hcl := fun ty => Lib.run_clear_slice (P := Tryz.prog) wr 40 3 ty (.int .i64 0) Tryz.underlying40 zero_int17 rfl rfl ob i (j - i) (c - i) (by omega)
          (fun t ht => by rw [HR.out.cell (List.getElem?_eq_getElem (show i + t < L.length by rw [HL.out]; omega))]; rfl) (fun t _ => HR.out.frozen _)
        have hic : i <= c := by omega
        have hij2 : i <= j := by omega
        go_wp2
        refine bodyPost_ret (v := .slice (some ⟨ob, 0, none⟩) i c) ?_ rfl ⟨by rw [<- HI.out], HBe.out.trans (Lib.below_setCells_w HB.out _ _ _), setL L i (List.replicate (j - i) (.int .i64 0)), RowV.setCells _ _ _ _ HR.out, by rw [setL_len, HL.out], by rw [<- HI.out, setL_take _ _ _ _ (Nat.le_refl _), HTk.out]⟩
        simp [results, Tryz.results48, go_sem]
theorem owns_lt {S: List Shp} {C: List (List Int)} {k: Int} {i: Nat} (h: i ∈ owns S C k): i < S.length:=by have:=ownT_lt h; omega
theorem light_heavy {s: Shp} (h: s.Ok): (!(decide (LightS s))) = heavyS s:=by
 by_cases z: s.d < s.t
 ·have h1: ¬ LightS s:=fun q => by have:=q.2; omega
  have h2: heavyS s = true:=decide_eq_true ⟨h,z⟩
  rw [decide_eq_false h1,h2]
  rfl
 ·have h1: LightS s:=⟨h,by omega⟩
  have h2: heavyS s = false:=decide_eq_false fun q => z q.2
  rw [decide_eq_true h1,h2]
  rfl
theorem firstH_at {S: List Shp} {l: List Nat} {x i: Nat} (h0: ∀ y ∈ l.take x,hvT S y = false) (hi: l[x]? = some i) (h1: hvT S i = true): firstH S l = (i: Int):=by
 unfold firstH
 have e: l = l.take x ++ i :: l.drop (x + 1):=list_cut hi
 rw [e,List.find?_append,List.find?_eq_none.mpr (fun y hy => by rw [h0 y hy]; decide)]
 simp [h1]
theorem firstH_no {S: List Shp} {l: List Nat} (h0: ∀ y ∈ l,hvT S y = false): firstH S l = -1:=by
 unfold firstH
 rw [List.find?_eq_none.mpr (fun y hy => by rw [h0 y hy]; decide)]
theorem nums_at {l: List Nat} {x i: Nat} (h: l[x]? = some i): (nums l)[x]? = some (i: Int):=by unfold nums; rw [List.getElem?_map,h]; rfl
theorem OwnI.cellZ {w: World} {base: Nat} {A: Option Addr} {n c: Nat} {zs: List Int} (h: OwnI w base (.slice A n c) zs) {x: Nat} {z: Int} (hx: zs[x]? = some z): ∃ b,A = some ⟨b,0,none⟩ /\ w.cell? ⟨b,0 + x,none⟩ = some (.int .i64 z):=by
 have hl:=(List.getElem?_eq_some_iff.mp hx).1
 rcases h.2 with ⟨e,h0⟩ | ⟨g,cap,cur,e,hg,hh,h1,h2,h3,h4⟩
 ·omega
 ·injection e with e1 e2 e3
  subst e1
  refine ⟨g,rfl,?_⟩
  have:=h.cells (g:=g) rfl x (.int .i64 z) (by rw [List.getElem?_map,hx]; rfl)
  rw [addr_add] at this
  exact this
theorem aheavy_any {A : Option Addr} {n c : Nat} {G : Option Addr} {m d : Nat} {S : List Shp} {C : List (List Int)} (k : Int) (wf : World) (h : IsPl wf A n c G m d S C) (hf : FewP S C) (hT : DTab wf) :
    Calls Tryz.prog 19 #[.agg #[.slice A n c, .slice G m d], .int .i64 k] wf fun e w' => e = .returned (.int .i64 (heavyQ S C k)) /\ Below wf.heap.size wf w' := by
  obtain ⟨g, hg⟩ : ∃ g, g = wf.heap.size := ⟨_, rfl⟩
  have HGs := Lib.hid hg
  obtain ⟨w0, hw0⟩ : ∃ w0, w0 = wf.alloc (.cells #[.slice A n c, .slice G m d] 28) := ⟨_, rfl⟩
  have HR := Lib.hid (show RowV g 28 [.slice A n c, .slice G m d] w0 from by rw [hg, hw0]; exact h.box)
  have HB := Lib.hid (show Below g wf w0 from by rw [hg, hw0]; exact below_alloc _)
  have HS := Lib.hid (fun W (b : Below g wf W) => h.shp.via (by rw [<- hg]; exact b))
  have HTB := Lib.hid (fun W (b : Below g wf W) => DTab.via hT (by rw [<- hg]; exact b))
  have KO := Lib.hid (owners_any k w0 (h.via (by rw [<- hg]; exact HB.out)) hf)
  have HN := Lib.hid (show S.length = n /\ n <= 20 from ⟨h.l1, by have := hf.f1; rw [h.l1] at this; exact this⟩)
  have HW0 := Lib.hid hw0
  have HC2 := Lib.hid (show C.length = m /\ m <= 20 from ⟨h.l2, by have := hf.f2; rw [h.l2] at this; exact this⟩)
  rw [<- hg]
  have q0 := HR.out.cell (j := 0) rfl
  have q1 := HR.out.cell (j := 1) rfl
  rw [hw0, hg] at q0 q1
  clear h hf hT hg hw0
  go_enter Tryz.func19, Tryz.ntmps19
  go_wp2_with fail
  rw [<- HW0.out, <- HGs.out]
  refine KO.out.mono ?_
  rintro e w1 ⟨F, q, d1, rfl, b1, hq, hO⟩
  have HB1 := Lib.hid (HB.out.trans (b1.mono (Nat.le_of_lt HR.out.lt)))
  have HR1 := Lib.hid (HR.out.below b1 HR.out.lt)
  have HO1 := Lib.hid hO
  have HQ := Lib.hid hq
  have hq20 : q <= 20 := by
    have := ownT_len C k (min S.length C.length)
    have h2 := HN.out
    have h3 : (owns S C k).length <= min S.length C.length := this
    rw [hq] at h3
    omega
  clear b1 hO hq KO HB HR q0 q1 HW0
  obtain ⟨l, hl⟩ : ∃ l, l = owns S C k := ⟨_, rfl⟩
  rw [<- hl] at HO1 HQ
  have HL := Lib.hid hl
  have HLt := Lib.hid (show ∀ i ∈ l, i < n from fun i hi => by rw [hl] at hi; have := owns_lt hi; rw [HN.out.1] at this; exact this)
  clear hl
  go_wp2
  go_loopw [11] (fun i wr => ∃ x : Nat, x <= q /\ i = .int .i64 x /\ Hid (∀ y ∈ l.take x, hvT S y = false) /\ Hid (OwnI wr w0.heap.size (.slice F q d1) (nums l)) /\ Hid (RowV g 28 [.slice A n c, .slice G m d] wr) /\ Hid (Below g wf wr)) (fun i _ => q - (intOf i).toNat)
  case atStart => exact ⟨0, Nat.zero_le _, rfl, Lib.hid (fun y hy => by simp at hy), HO1, HR1, HB1⟩
  case round =>
    obtain ⟨x, hx, rfl, HF, HO, HR, HB⟩ := hrel
    by_cases hlt : x < q
    · obtain ⟨i, hi⟩ : ∃ i, l[x]? = some i := ⟨_, List.getElem?_eq_getElem (by rw [HQ.out]; exact hlt)⟩
      have hin := HLt.out i (List.mem_of_getElem? hi)
      obtain ⟨b1, rfl, hc1⟩ := HO.out.cellZ (nums_at hi)
      obtain ⟨b, off, t, lg, mo, dd, pp, rfl, hbg, hek, c0, c1, c2, c3, c4⟩ := (HS.out wr HB.out).at_ (k := i) (by rw [HN.out.1]; exact hin)
      have q0 := HR.out.cell (j := 0) rfl
      have HI := Lib.hid hi
      obtain ⟨hv, hhv⟩ : ∃ hv, hv = heavyS ⟨t, lg, mo, dd, pp⟩ := ⟨_, rfl⟩
      have CH := Lib.hid (cheavy_any ⟨t, lg, mo, dd, pp⟩ wr (HTB.out wr HB.out))
      rw [<- hhv] at CH
      have HV := Lib.hid (show hvT S i = hv by rw [hhv]; exact hvT_at hek)
      unfold Shp.val at CH
      clear hhv hek hi
      dsimp only at CH
      simp only [Nat.zero_add] at hc1
      go_wp2_with fail
      refine CH.out.mono ?_
      rintro e w3 ⟨rfl, b3⟩
      cases hv with
      | true =>
        have HF2 := Lib.hid (firstH_at HF.out HI.out HV.out)
        have HB3 := Lib.hid (HB.out.trans (b3.mono (Nat.le_of_lt HR.out.lt)))
        clear b3
        go_wp2
        refine bodyPost_ret (v := .int .i64 i) ?_ rfl ⟨?_, HB3.out⟩
        · simp [results, Tryz.results19, go_sem]
        · unfold heavyQ
          rw [<- HL.out, HF2.out]
      | false =>
        have HB3 := Lib.hid (HB.out.trans (b3.mono (Nat.le_of_lt HR.out.lt)))
        have HO3 := Lib.hid (HO.out.below b3)
        have HR3 := Lib.hid (HR.out.below b3 HR.out.lt)
        clear b3
        go_wp2
        go_roundw
        case rel => exact ⟨x + 1, by omega, by go_num, Lib.hid (fun y hy => by
          rw [take_one HI.out] at hy
          rcases List.mem_append.mp hy with z | z
          · exact HF.out y z
          · rw [List.mem_singleton.mp z]; exact HV.out), HO3, HR3, HB3⟩
        case measure => simp [intOf]; omega
    · obtain rfl : x = q := by omega
      have HF2 := Lib.hid (show firstH S l = -1 from firstH_no (fun y hy => HF.out y (by rw [List.take_of_length_le (by rw [HQ.out]; exact Nat.le_refl _)]; exact hy)))
      go_wp2
      refine bodyPost_ret (v := .int .i64 (-1)) ?_ rfl ⟨?_, HB.out⟩
      · simp [results, Tryz.results19, go_sem]
      · unfold heavyQ
        rw [<- HL.out, HF2.out]
theorem lclo_any {A: Option Addr} {n c: Nat} {v2: Value} {S: List Shp} {g i: Nat} (w: World) (hn: S.length = n) (hi: i < n) (hR: RowV g 28 [.slice A n c,v2] w) (hS: Shps w w.heap.size A S) (hT: DTab w) :
  Calls Tryz.prog 46 #[.int .i64 i,.pointer (some ⟨g,0,none⟩)] w fun e w' => e = .returned (.bool (!(ltT S i))) /\ Below w.heap.size w w':=by
 obtain ⟨b,off,t,lg,mo,dd,pp,rfl,hbg,hek,c0,c1,c2,c3,c4⟩:=hS.at_ (k:=i) (by rw [hn]; exact hi)
 have q0:=hR.cell (j:=0) rfl
 have HLT:=Lib.hid (ltT_at hek)
 have KC:=Lib.hid (clcheck_any ⟨t,lg,mo,dd,pp⟩ w hT)
 have HS:=Lib.hid (fun W (b: Below w.heap.size w W) => hS.via b)
 have HTB:=Lib.hid (fun W (b: Below w.heap.size w W) => DTab.via hT b)
 have HR:=Lib.hid hR
 unfold Shp.val at KC
 dsimp only at KC
 by_cases hok: (⟨t,lg,mo,dd,pp⟩: Shp).Ok
 ·rw [chkS_ok hok] at KC
  obtain ⟨hv,hhv⟩: ∃ hv,hv = heavyS ⟨t,lg,mo,dd,pp⟩:=⟨_,rfl⟩
  have CH:=Lib.hid (fun W (hD: DTab W) => cheavy_any ⟨t,lg,mo,dd,pp⟩ W hD)
  rw [<- hhv] at CH
  unfold Shp.val at CH
  dsimp only at CH
  have HV:=Lib.hid (show (!(ltT S i)) = hv by
   rw [HLT.out,hhv]
   exact light_heavy hok)
  have HCe:=Lib.hid (show ∀ W,Below w.heap.size w W -> (W.cell? ⟨b,off + i * 5,none⟩ = some (.int .i64 t) /\ W.cell? ⟨b,off + i * 5 + 1,none⟩ = some (.int .i64 lg)) /\ W.cell? ⟨b,off + i * 5 + 2,none⟩ = some (.int .i64 mo) /\ W.cell? ⟨b,off + i * 5 + 3,none⟩ = some (.int .i64 dd) /\ W.cell? ⟨b,off + i * 5 + 4,none⟩ = some (.int .i64 pp) from fun W hb =>
   ⟨⟨(hb.cell (p:=⟨_,_,_⟩) hbg).trans c0,(hb.cell (p:=⟨_,_,_⟩) hbg).trans c1⟩,(hb.cell (p:=⟨_,_,_⟩) hbg).trans c2,(hb.cell (p:=⟨_,_,_⟩) hbg).trans c3,(hb.cell (p:=⟨_,_,_⟩) hbg).trans c4⟩)
  clear hS hT hR hhv hok hek hn
  go_enter Tryz.func46,Tryz.ntmps46
  go_wp2_with fail
  refine KC.out.mono ?_
  rintro e w1 ⟨rfl,b1⟩
  have HD:=Lib.hid (HTB.out w1 b1)
  have q1:=(HR.out.below b1 HR.out.lt).cell (j:=0) rfl
  obtain ⟨⟨e0,e1⟩,e2,e3,e4⟩:=HCe.out w1 b1
  have HB1:=Lib.hid b1
  clear c0 c1 c2 c3 c4 q0 b1
  go_wp2_with fail
  refine (CH.out w1 HD.out).mono ?_
  rintro e w2 ⟨rfl,b2⟩
  have HB2:=Lib.hid (HB1.out.trans (b2.mono HB1.out.size))
  clear b2 q1 e0 e1 e2 e3 e4
  go_wp2
  refine bodyPost_ret (v:=.bool hv) ?_ rfl ⟨by rw [HV.out],HB2.out⟩
  simp [results,Tryz.results46,go_sem]
 ·rw [chkS_no hok] at KC
  have HV:=Lib.hid (show (!(ltT S i)) = true by rw [HLT.out,decide_eq_false (fun q => hok q.1)]; rfl)
  clear hS hT hR hok hek hn
  go_enter Tryz.func46,Tryz.ntmps46
  go_wp2_with fail
  refine KC.out.mono ?_
  rintro e w1 ⟨rfl,b1⟩
  have HB1:=Lib.hid b1
  clear b1
  go_wp2
  refine bodyPost_ret (v:=.bool true) ?_ rfl ⟨by rw [HV.out],HB1.out⟩
  simp [results,Tryz.results46,go_sem]
theorem keep_nums (p : Nat -> Bool) (l : List Nat) : keepF (fun z => !(p z.toNat)) (nums l) = nums (l.filter p) := by
  unfold keepF nums
  induction l with
  | nil => rfl
  | cons x l ih =>
    have e : (!(fun z : Int => !p z.toNat) (Int.ofNat x)) = p x := by simp
    rw [List.map_cons, List.filter_cons, List.filter_cons, e]
    cases p x
    · simpa using ih
    · simpa using ih
theorem del17_nil {B: Nat} (g: Nat) (lb: Array Value) (eg: ∀ args w,(callFunc g args).run Tryz.prog w = .ok (.enter g args) w) (w: World) :
  Calls Tryz.prog 48 #[.slice none 0 0,.func (.func g) #[] lb] w fun e w' => e = .returned (.slice none 0 0) /\ Below w.heap.size w w':=by
 have KI:=Lib.hid (idx17 (B:=B) none 0 0 [] g lb eg (fun _ => true) w rfl (by omega) (fun h => absurd h (by simp)) (fun z W hz => by cases hz))
 go_enter Tryz.func48,Tryz.ntmps48
 go_wp2_with fail
 refine KI.out.mono ?_
 rintro e w1 ⟨r,rfl,b1,hway⟩
 obtain rfl: r = -1:=by
  rcases hway with ⟨q,_⟩ | ⟨i,_,q,_⟩
  ·exact q
  ·omega
 have HB:=Lib.hid b1
 clear b1 hway
 go_wp2
 refine bodyPost_ret (v:=.slice none 0 0) ?_ rfl ⟨rfl,HB.out⟩
 simp [results,Tryz.results48,go_sem]
theorem alight_any {A: Option Addr} {n c: Nat} {G: Option Addr} {m d: Nat} {S: List Shp} {C: List (List Int)} (k: Int) (wf: World) (h: IsPl wf A n c G m d S C) (hf: FewP S C) (hT: DTab wf) :
  Calls Tryz.prog 22 #[.agg #[.slice A n c,.slice G m d],.int .i64 k] wf fun e w' => ∃ F q d1,e = .returned (.slice F q d1) /\ Below wf.heap.size wf w' /\ ((lightQ S C k).length = q /\ OwnI w' wf.heap.size (.slice F q d1) (nums (lightQ S C k))):=by
 obtain ⟨g,hg⟩: ∃ g,g = wf.heap.size:=⟨_,rfl⟩
 have HGs:=Lib.hid hg
 obtain ⟨w0,hw0⟩: ∃ w0,w0 = wf.alloc (.cells #[.slice A n c,.slice G m d] 28):=⟨_,rfl⟩
 have HR:=Lib.hid (show RowV g 28 [.slice A n c,.slice G m d] w0 from by rw [hg,hw0]; exact h.box)
 have HB:=Lib.hid (show Below g wf w0 from by rw [hg,hw0]; exact below_alloc _)
 have HS:=Lib.hid (fun W (b: Below g wf W) => h.shp.via (by rw [<- hg]; exact b))
 have HTB:=Lib.hid (fun W (b: Below g wf W) => DTab.via hT (by rw [<- hg]; exact b))
 have KO:=Lib.hid (owners_any k w0 (h.via (by rw [<- hg]; exact HB.out)) hf)
 have HN:=Lib.hid (show S.length = n /\ n <= 20 from ⟨h.l1,by have:=hf.f1; rw [h.l1] at this; exact this⟩)
 have HC2:=Lib.hid (show C.length = m /\ m <= 20 from ⟨h.l2,by have:=hf.f2; rw [h.l2] at this; exact this⟩)
 have HW0:=Lib.hid hw0
 rw [<- hg]
 have q0:=HR.out.cell (j:=0) rfl
 have q1:=HR.out.cell (j:=1) rfl
 rw [hw0,hg] at q0 q1
 clear h hf hT hg hw0
 go_enter Tryz.func22,Tryz.ntmps22
 go_wp2_with fail
 rw [<- HW0.out,<- HGs.out]
 refine KO.out.mono ?_
 rintro e w1 ⟨F,q,d1,rfl,b1,hq,hO⟩
 have HB1:=Lib.hid (HB.out.trans (b1.mono (Nat.le_of_lt HR.out.lt)))
 have HR1:=Lib.hid (HR.out.below b1 HR.out.lt)
 obtain ⟨l,hl⟩: ∃ l,l = owns S C k:=⟨_,rfl⟩
 rw [<- hl] at hq hO
 have hLt: ∀ i ∈ l,i < n:=fun i hi => by rw [hl] at hi; have:=owns_lt hi; rw [HN.out.1] at this; exact this
 have HLQ:=Lib.hid (show lightQ S C k = l.filter (ltT S) by rw [hl]; rfl)
 have hq20: q <= 20:=by
  have h2:=HN.out
  have h3: l.length <= min S.length C.length:=by rw [hl]; exact ownT_len C k (min S.length C.length)
  omega
 have hgw: g + 1 <= w0.heap.size:=HR.out.lt
 have eg: ∀ args w,(callFunc 46 args).run Tryz.prog w = .ok (.enter 46 args) w:=eg_of Tryz.func46 (by kernel_rfl) rfl
 have KD: Hid (Calls Tryz.prog 48 #[.slice F q d1,.func (.func 46) #[] #[.pointer (some ⟨g,0,none⟩)]] w1 fun e w' => ∃ q',e = .returned (.slice F q' d1) /\ Below (g + 1) w1 w' /\ ((l.filter (ltT S)).length = q' /\ OwnI w' (g + 1) (.slice F q' d1) (nums (l.filter (ltT S))))):=by
  refine Lib.hid ?_
  rcases hO.2 with ⟨e,h0⟩ | ⟨ob,cap,cur,e,hob,hh,h1,h2,h3,h4⟩
  ·injection e with e1 e2 e3
   subst e1 e2 e3
   obtain rfl: l = []:=List.eq_nil_of_length_eq_zero hq
   refine (del17_nil (B:=0) _ _ eg w1).mono ?_
   rintro e w' ⟨rfl,b⟩
   exact ⟨0,rfl,b.mono (by have:=HR1.out.lt; omega),rfl,rfl,.inl ⟨rfl,rfl⟩⟩
  ·injection e with e1 e2 e3
   subst e1 e3
   have hlen: (nums l).length = q:=by rw [nums_len]; exact hq
   have hrow: RowV ob 3 cur.toList w1:=by unfold RowV; rw [Array.toArray_toList]; exact hh
   rw [hlen,Nat.mul_one] at h4
   refine (del17 (B:=g + 1) 46 #[.pointer (some ⟨g,0,none⟩)] eg (fun z => !(ltT S z.toNat)) w1 hlen (by omega) hrow (by rw [Array.length_toList,h3,Nat.mul_one]) (by omega) h4 (by omega) (fun z W hz hb => ?_)).mono ?_
   ·obtain ⟨i,hi,rfl⟩:=List.mem_map.mp hz
    have hbW: Below g wf W:=HB1.out.trans (hb.mono (by omega))
    exact lclo_any W HN.out.1 (hLt i hi) (HR1.out.below hb (by omega)) (HS.out W hbW) (HTB.out W hbW)
   ·rintro e w' ⟨rfl,b,row',r1,r2,r3⟩
    have e1:=keep_nums (ltT S) l
    rw [e1] at r3 ⊢
    refine ⟨_,rfl,b,(nums_len _).symm,by rw [List.length_map,Nat.mul_one],.inr ⟨ob,d1,row'.toArray,by rw [nums_len],by omega,r1,?_,h2,by rw [List.size_toArray,r2,Nat.mul_one],by rw [Nat.mul_one]; exact r3⟩⟩
    have:=List.length_filter_le (ltT S) l
    rw [nums_len]
    omega
 have HBf:=Lib.hid (show ∀ W,Below (g + 1) w1 W -> Below g wf W from fun W hb => HB1.out.trans (hb.mono (by omega)))
 clear b1 hO hq KO HB HR q0 q1 HW0 hLt hl
 go_wp2_with fail
 refine KD.out.mono ?_
 rintro e w2 ⟨q',rfl,b2,hq2,hO2⟩
 have HB2:=Lib.hid (HBf.out w2 b2)
 have HO2:=Lib.hid (hO2.down (show g <= g + 1 by omega))
 have HQ2:=Lib.hid hq2
 clear b2 hO2 hq2 KD
 go_wp2
 refine bodyPost_ret (v:=.slice F q' d1) ?_ rfl ⟨F,q',d1,rfl,HB2.out,by rw [HLQ.out]; exact HQ2.out,by rw [HLQ.out]; exact HO2.out⟩
 simp [results,Tryz.results22,go_sem]
theorem ownT_more (C : List (List Int)) (k : Int) (j : Nat) : ∀ x : Nat, ∃ R, ownT C k (j + x) = ownT C k j ++ R
  | 0 => ⟨[], by simp⟩
  | x + 1 => by
    obtain ⟨R, hR⟩ := ownT_more C k j x
    refine ⟨R ++ (([j + x] : List Nat).filter fun i => decide (k ∈ C.getD i [])), ?_⟩
    rw [<- List.append_assoc, <- hR]
    unfold ownT
    rw [<- Nat.add_assoc, List.range_succ, List.filter_append]
theorem heavyQ_at {S: List Shp} {C: List (List Int)} {k: Int} {j: Nat} {s: Shp} {c: List Int} (h0: ∀ y ∈ ownT C k j,hvT S y = false) (hs: S[j]? = some s) (hc: C[j]? = some c) (hh: heavyS s = true) (hk: k ∈ c): heavyQ S C k = (j: Int):=by
 have l1:=(List.getElem?_eq_some_iff.mp hs).1
 have l2:=(List.getElem?_eq_some_iff.mp hc).1
 obtain ⟨R,hR⟩:=ownT_more C k (j + 1) (min S.length C.length - (j + 1))
 rw [show j + 1 + (min S.length C.length - (j + 1)) = min S.length C.length by omega,ownT_succ hc,if_pos hk] at hR
 unfold heavyQ owns firstH
 rw [hR,List.append_assoc,List.find?_append]
 have hn: (ownT C k j).find? (hvT S) = none:=List.find?_eq_none.mpr fun y hy => by rw [h0 y hy]; simp
 rw [hn]
 simp [hvT_at hs,hh]
theorem heavyQ_no {S: List Shp} {C: List (List Int)} {k: Int} {j: Nat} (h0: ∀ y ∈ ownT C k j,hvT S y = false) (hj: min S.length C.length <= j): heavyQ S C k = -1:=by
 obtain ⟨R,hR⟩:=ownT_more C k (min S.length C.length) (j - min S.length C.length)
 rw [show min S.length C.length + (j - min S.length C.length) = j by omega] at hR
 exact firstH_no fun y hy => h0 y (by rw [hR]; exact List.mem_append_left _ hy)
theorem ownT_next {S: List Shp} {C: List (List Int)} {k: Int} {j: Nat} {s: Shp} {c: List Int} (h0: ∀ y ∈ ownT C k j,hvT S y = false) (hs: S[j]? = some s) (hc: C[j]? = some c) (hn: ¬ (heavyS s = true /\ k ∈ c)): ∀ y ∈ ownT C k (j + 1),hvT S y = false:=fun y hy => by
 rw [ownT_succ hc] at hy
 rcases List.mem_append.mp hy with z | z
 ·exact h0 y z
 ·by_cases hk: k ∈ c
  ·rw [if_pos hk] at z
   rw [List.mem_singleton.mp z,hvT_at hs]
   cases hh: heavyS s with
   | false => rfl
   | true => exact absurd ⟨hh,hk⟩ hn
  ·rw [if_neg hk] at z
   cases z
theorem rheavy17_any {A : Option Addr} {n c : Nat} {G : Option Addr} {m d : Nat} {S : List Shp} {C : List (List Int)} (k : Int) (wf : World) (h : IsPl wf A n c G m d S C) (hf : FewP S C) :
    Calls Tryz.prog 20 #[.agg #[.slice A n c, .slice G m d], .int .i64 k] wf fun e w' => e = .returned (.int .i64 (heavyQ S C k)) /\ Below wf.heap.size wf w' := by
  have HPl := Lib.hid (fun W (b : Below wf.heap.size wf W) => h.via b)
  have HF := Lib.hid hf
  have HN := Lib.hid (show (S.length = n /\ n <= 20) /\ C.length = m /\ m <= 20 from ⟨⟨h.l1, by have := hf.f1; rw [h.l1] at this; exact this⟩, h.l2, by have := hf.f2; rw [h.l2] at this; exact this⟩)
  have HRW := Lib.hid (RowV.new wf 28 [.slice A n c, .slice G m d])
  have HB0 := Lib.hid (show Below wf.heap.size wf (wf.alloc (.cells #[.slice A n c, .slice G m d] 28)) from below_alloc _)
  have HLT := Lib.hid (show wf.heap.size < (wf.alloc (.cells #[.slice A n c, .slice G m d] 28)).heap.size by simp)
  clear h hf
  go_enter Tryz.func20, Tryz.ntmps20
  go_wp2
  go_loopw [5] (fun i wr => ∃ j : Nat, j <= n /\ j <= m /\ i = .int .i64 j /\ Hid (∀ y ∈ ownT C k j, hvT S y = false) /\ Hid (RowV wf.heap.size 28 [.slice A n c, .slice G m d] wr /\ wf.heap.size < wr.heap.size) /\ Hid (Below wf.heap.size wf wr)) (fun i _ => n - (intOf i).toNat)
  case atStart => exact ⟨0, Nat.zero_le _, Nat.zero_le _, rfl, Lib.hid (fun x hx => by simp [ownT] at hx), Lib.hid ⟨HRW.out, HLT.out⟩, HB0⟩
  case round =>
    obtain ⟨j, hj, hjm, rfl, HO, HRr, HB⟩ := hrel
    clear HRW HB0 HLT
    have r0 := (show RowV wf.heap.size 28 [.slice A n c, .slice G m d] wr from HRr.out.1).cell (j := 0) rfl
    have r1 := HRr.out.1.cell (j := 1) rfl
    have hn20 : n <= 20 := HN.out.1.2
    by_cases hlt : j < n
    · by_cases hlm : j < m
      · have hP := HPl.out _ HB.out
        obtain ⟨b, off, t, lg, mo, dd, pp, rfl, hbg, hek, c0, c1, c2, c3, c4⟩ := hP.shp.at_ (k := j) (by rw [HN.out.1.1]; exact hlt)
        obtain ⟨b2, off2, cr, K, nk, ck, rfl, hb2, hcr, hnk, x1, i1, z1⟩ := hP.lol.at_ (k := j) (by rw [HN.out.2.1]; exact hlm)
        have HEK := Lib.hid hek
        have HCR := Lib.hid hcr
        have hbx : Below wr.heap.size wr (wr.alloc (.cells #[.int .i64 t, .int .i64 lg, .int .i64 mo, .int .i64 dd, .int .i64 pp] 44)) := below_alloc _
        have HBx := Lib.hid hbx
        have HRS := Lib.hid (RowV.new wr 44 [.int .i64 t, .int .i64 lg, .int .i64 mo, .int .i64 dd, .int .i64 pp])
        have CK := Lib.hid (rchk_any ⟨t, lg, mo, dd, pp⟩ (wr.alloc (.cells #[.int .i64 t, .int .i64 lg, .int .i64 mo, .int .i64 dd, .int .i64 pp] 44)))
        obtain ⟨ok, hok⟩ : ∃ y, y = decide (Shp.Ok ⟨t, lg, mo, dd, pp⟩) := ⟨_, rfl⟩
        rw [<- hok] at CK
        have HOKs := Lib.hid hok
        unfold Shp.val at CK
        dsimp only at CK
        have HX := Lib.hid (fun W (b' : Below wr.heap.size wr W) => And.intro ((b'.cell (p := ⟨b2, off2 + j, none⟩) hb2).trans x1) ((i1.below b').more b'.size))
        have HNK := Lib.hid (show cr.length = nk /\ nk <= 12 from ⟨hnk, by have := HF.out.f3 _ (List.mem_of_getElem? hcr); omega⟩)
        clear hP hek hcr hbx hok hnk x1 i1 z1 hb2 hbg
        go_wp2_with fail
        refine CK.out.mono ?_
        rintro e w1 ⟨rfl, b1⟩
        have HB1 := Lib.hid (HBx.out.trans (b1.mono HBx.out.size))
        have HRS := Lib.hid (HRS.out.below b1 (by simp))
        have HBn := Lib.hid (HB.out.trans (HB1.out.mono HB.out.size))
        have HRn := Lib.hid (show RowV wf.heap.size 28 [.slice (some ⟨b, off, none⟩) n c, .slice (some ⟨b2, off2, none⟩) m d] w1 /\ wf.heap.size < w1.heap.size from ⟨HRr.out.1.below HB1.out HRr.out.2, Nat.lt_of_lt_of_le HRr.out.2 HB1.out.size⟩)
        have s0 := (show RowV wr.heap.size 44 [.int .i64 t, .int .i64 lg, .int .i64 mo, .int .i64 dd, .int .i64 pp] w1 from HRS.out).cell (j := 0) rfl
        have s3 := (show RowV wr.heap.size 44 [.int .i64 t, .int .i64 lg, .int .i64 mo, .int .i64 dd, .int .i64 pp] w1 from HRS.out).cell (j := 3) rfl
        have q1 := HRn.out.1.cell (j := 1) rfl
        have y1 := (HX.out w1 HB1.out).1
        clear b1 CK
        cases ok with
        | false =>
          have HO2 := Lib.hid (ownT_next HO.out HEK.out HCR.out (fun z => by have h1 : heavyS ⟨t, lg, mo, dd, pp⟩ = false := decide_eq_false (fun w => of_decide_eq_false HOKs.out.symm w.1); rw [h1] at z; cases z.1))
          clear c0 c1 c2 c3 c4 r0 r1
          go_wp2
          go_roundw
          case rel => exact ⟨j + 1, by omega, by omega, by go_num, HO2, HRn, HBn⟩
          case measure => simp [intOf]; omega
        | true =>
          by_cases hdt : t > dd
          · have e1 : decide (t > dd) = true := decide_eq_true hdt
            have hhv : heavyS ⟨t, lg, mo, dd, pp⟩ = true := decide_eq_true ⟨of_decide_eq_true HOKs.out.symm, hdt⟩
            have HHv := Lib.hid hhv
            obtain ⟨rr, hrr⟩ : ∃ y, y = decide (k ∈ cr) := ⟨_, rfl⟩
            have KHs := Lib.hid (has_any K ck cr k w1 nk HNK.out.1 (by have := HNK.out.2; omega) (HX.out w1 HB1.out).2)
            rw [<- hrr] at KHs
            have HRR := Lib.hid hrr
            clear hhv hrr
            go_wp2_with fail
            refine KHs.out.mono ?_
            rintro e w3 ⟨rfl, rfl⟩
            clear KHs
            cases rr with
            | false =>
              have HO2 := Lib.hid (ownT_next HO.out HEK.out HCR.out (fun z => of_decide_eq_false HRR.out.symm z.2))
              clear c0 c1 c2 c3 c4 r0 r1
              go_wp2
              go_roundw
              case rel => exact ⟨j + 1, by omega, by omega, by go_num, HO2, HRn, HBn⟩
              case measure => simp [intOf]; omega
            | true =>
              have HQ := Lib.hid (heavyQ_at HO.out HEK.out HCR.out HHv.out (of_decide_eq_true HRR.out.symm))
              clear c0 c1 c2 c3 c4 r0 r1
              go_wp2
              refine bodyPost_ret (v := .int .i64 j) ?_ rfl ⟨by rw [HQ.out], HBn.out⟩
              simp [results, Tryz.results20, go_sem]
          · have e1 : decide (t > dd) = false := decide_eq_false hdt
            have HO2 := Lib.hid (ownT_next HO.out HEK.out HCR.out (fun z => by have h1 : heavyS ⟨t, lg, mo, dd, pp⟩ = false := decide_eq_false (fun w => hdt w.2); rw [h1] at z; cases z.1))
            clear c0 c1 c2 c3 c4 r0 r1
            go_wp2
            go_roundw
            case rel => exact ⟨j + 1, by omega, by omega, by go_num, HO2, HRn, HBn⟩
            case measure => simp [intOf]; omega
      · have HQ := Lib.hid (heavyQ_no HO.out (by rw [HN.out.1.1, HN.out.2.1]; omega))
        go_wp2
        refine bodyPost_ret (v := .int .i64 (-1)) ?_ rfl ⟨by rw [HQ.out], HB.out⟩
        simp [results, Tryz.results20, go_sem]
    · have HQ := Lib.hid (heavyQ_no HO.out (by rw [HN.out.1.1, HN.out.2.1]; omega))
      go_wp2
      refine bodyPost_ret (v := .int .i64 (-1)) ?_ rfl ⟨by rw [HQ.out], HB.out⟩
      simp [results, Tryz.results20, go_sem]
end Go.Proofs.YtlfekmbalgkmeaaGreatDoor
