/- list.ready, its closure and list.Ready in the seat YtmmogdccjiagnaaDoor: their contracts.
   slices.Clone at integers in the seat YtmmogdccjiagnaaDoor: its contract; nil compared.
   list.copied in the seat YtmmogdccjiagnaaDoor: its contract (printed by list/mk_copied.py).
   Words for crews that are written in place, in the seat YtmmogdccjiagnaaDoor.
   No statement is proved here. -/
import Derived.Test.YtmmogdccjiagnaaDoorZM23
import Derived.Test.YtmmogdccjiagnaaDoorZM20
import Derived.Laws.EntriesVeiled
import Derived.Test.YtmmogdccjiagnaaDoorZM1
import Derived.Test.YtmmogdccjiagnaaDoorZM4
import Derived.Lib.Hide
import Derived.Deep.RegionWith
import Derived.Test.YtmmogdccjiagnaaDoorZM15
import Derived.StillTailTactics
set_option linter.unusedSimpArgs false
set_option linter.unusedVariables false
namespace Go.Proofs.YtmmogdccjiagnaaDoor
open Go.RowKit

section
variable {A : Option Addr} {n c : Nat} {F : Option Addr} {m d : Nat} {W : List Int} {E : List (Int × Int)} {A' : Option Addr} {n' c' : Nat} {F' : Option Addr} {m' d' : Nat} {O L : List Int}
/-- Behind waiting: the boxes, who waits, its closure in a box. -/
structure StRd (w0 : World) (g gw : Nat) (A : Option Addr) (n c : Nat) (F : Option Addr) (m d : Nat) (W : List Int) (E : List (Int × Int)) (A' : Option Addr) (n' c' : Nat) (F' : Option Addr) (m' d' : Nat) (O L : List Int) (w : World) : Prop where
  bx : BxDC w0 A n c F m d W E A' n' c' F' m' d' O L w
  wb : WaitB g E L w
  fn : w.cell? ⟨gw, 0, none⟩ = some (.func (.func 82) #[] #[.pointer (some ⟨g, 0, none⟩)])
  l1 : w0.heap.size + 1 < gw
  l2 : g < gw
  l3 : gw < w.heap.size
theorem StRd.later {w0 w w' : World} {g gw : Nat} (h : StRd w0 g gw A n c F m d W E A' n' c' F' m' d' O L w) (hb : Below (gw + 1) w w') : StRd w0 g gw A n c F m d W E A' n' c' F' m' d' O L w' :=
  ⟨h.bx.later (hb.mono (by have := h.l1; omega)), RowV.below h.wb hb (by have := h.l2; omega), (hb.cell (show gw < gw + 1 by omega)).trans h.fn, h.l1, h.l2, Nat.lt_of_lt_of_le h.l3 hb.size⟩
theorem StRd.next {w0 w w' : World} {g gw : Nat} (h : StRd w0 g gw A n c F m d W E A' n' c' F' m' d' O L w) (hb : Below w.heap.size w w') : StRd w0 g gw A n c F m d W E A' n' c' F' m' d' O L w' := h.later (hb.mono h.l3)
set_option maxRecDepth 100000 in
set_option maxHeartbeats 2000000 in
theorem isReady_any (j : Nat) (w0 w : World) (g gw : Nat) (hs : StRd w0 g gw A n c F m d W E A' n' c' F' m' d' O L w) (hj : j < m') (h64 : m' ≤ 64) :
    Calls Tryd.prog 64 #[.int .i64 j, .pointer (some ⟨w0.heap.size + 1, 0, none⟩), .pointer (some ⟨gw, 0, none⟩)] w fun e w' => e = .returned (.bool (decide (ReadyC E O L j))) ∧ w' = w := by
  have q0 := hs.bx.c0
  have q1 := hs.bx.c1
  have f0 := hs.fn
  have hk := hs.bx.k
  have ln := hk.ln
  obtain ⟨bk, off, y, rfl, hbk, hy, d1⟩ := hk.left.at_ (k := j) (by rw [hk.hm]; exact hj)
  have HY : Hid (leftC L (j : Int) = y) := Lib.hid (leftC_at hy)
  have C1 := Lib.hid (contains_any A' c' n' O (j : Int) w.heap.size w hk.hn (by omega) hk.on)
  have C2 := Lib.hid (waits_any j w hs.wb (by omega))
  obtain ⟨r, hr⟩ : ∃ r, r = decide (ReadyC E O L j) := ⟨_, rfl⟩
  rw [← hr]
  have HR := Lib.hid hr
  clear hs hk hy hbk hr
  by_cases h0 : 0 < y
  · by_cases hm : (j : Int) ∈ O
    · obtain rfl : r = false := HR.out.trans (decide_eq_false fun h => h.2.1 hm)
      rw [decide_eq_true hm] at C1
      clear hm C2
      go_enter Tryd.func64, Tryd.ntmps64
      go_wp2_with fail
      refine C1.out.mono ?_
      rintro e w1 ⟨rfl, rfl⟩
      go_wp2
      go_ret
      exact ⟨rfl, rfl⟩
    · rw [decide_eq_false hm] at C1
      by_cases ho : OverC E L (j : Int)
      · obtain rfl : r = true := HR.out.trans (decide_eq_true ⟨by rw [HY.out]; exact h0, hm, ho⟩)
        rw [decide_eq_false (fun q => q ho)] at C2
        clear hm ho
        go_enter Tryd.func64, Tryd.ntmps64
        go_wp2_with fail
        refine C1.out.mono ?_
        rintro e w1 ⟨rfl, rfl⟩
        go_wp2_with (go_at_call 82; refine C2.out.mono ?_; rintro e w' ⟨rfl, rfl⟩)
        go_ret
        exact ⟨rfl, rfl⟩
      · obtain rfl : r = false := HR.out.trans (decide_eq_false fun h => ho h.2.2)
        rw [decide_eq_true ho] at C2
        clear hm ho
        go_enter Tryd.func64, Tryd.ntmps64
        go_wp2_with fail
        refine C1.out.mono ?_
        rintro e w1 ⟨rfl, rfl⟩
        go_wp2_with (go_at_call 82; refine C2.out.mono ?_; rintro e w' ⟨rfl, rfl⟩)
        go_ret
        exact ⟨rfl, rfl⟩
  · obtain rfl : r = false := HR.out.trans (decide_eq_false fun h => h0 (by have := h.1; rw [HY.out] at this; exact this))
    have h0b : decide (0 < y) = false := decide_eq_false h0
    clear h0 C1 C2
    go_enter Tryd.func64, Tryd.ntmps64
    go_wp2
    go_ret
    exact ⟨rfl, rfl⟩
set_option maxRecDepth 100000 in
set_option maxHeartbeats 4000000 in
theorem pready_any (w : World) (hg : IsG w A n c F m d W E) (hk : IsC w A' n' c' F' m' d' O L) (hF : Fits W.length E) (h64 : W.length ≤ 64) (hl : L.length = W.length) :
    Calls Tryd.prog 40 #[.agg #[.slice A n c, .slice F m d], .agg #[.slice A' n' c', .slice F' m' d']] w (GotOwn (readyW E O L m') w) := by
  obtain ⟨w0, hw0⟩ : ∃ w0, w0 = (w.alloc (.cells #[.slice A n c, .slice F m d] 25)).alloc (.cells #[.slice A' n' c', .slice F' m' d'] 27) := ⟨_, rfl⟩
  have B0 : Hid (BxDC w A n c F m d W E A' n' c' F' m' d' O L w0) := Lib.hid (by rw [hw0]; exact BxDC.start hg hk)
  have HW := Lib.hid hw0
  have HM := Lib.hid hk.hm
  have hm64 : m' ≤ 64 := by have := hk.hm; omega
  have CW := Lib.hid (waiting_any (q := d') w0 B0.out.g hF h64 B0.out.k.hm hl B0.out.k.left)
  clear hg hk hF hl h64 hw0
  have p0 := B0.out.d0
  have p1 := B0.out.d1
  have q0 := B0.out.c0
  have q1 := B0.out.c1
  go_enter Tryd.func40, Tryd.ntmps40
  go_wp2_with fail
  rw [← HW.out]
  clear HW
  go_wp2_with fail
  refine CW.out.mono ?_
  rintro e w1 ⟨g, rfl, hwb, hg, b1⟩
  obtain ⟨w2, hw2⟩ : ∃ w2, w2 = w1.alloc (.cells #[.func (.func 82) #[] #[.pointer (some ⟨g, 0, none⟩)]] 67) := ⟨_, rfl⟩
  obtain ⟨gw, hgw⟩ : ∃ gw, gw = w1.heap.size := ⟨_, rfl⟩
  have HGW := Lib.hid hgw
  have HW2 := Lib.hid hw2
  have S2 : Hid (StRd w g gw A n c F m d W E A' n' c' F' m' d' O L w2) := Lib.hid (by
    have hb2 : Below w1.heap.size w1 w2 := by rw [hw2]; exact below_alloc _
    have hlt : g < w1.heap.size := RowV.lt hwb
    refine ⟨(B0.out.next b1).next hb2, RowV.below hwb hb2 hlt, ?_, ?_, by omega, by rw [hw2, hgw]; simp⟩
    · rw [hw2, hgw, World.cell?_alloc_at _ _ _ _ rfl]; rfl
    · have := (B0.out.next b1).lt; omega)
  have r1 := (B0.out.next b1).c1
  have r2 : w.heap.size + 1 < w1.heap.size := (B0.out.next b1).lt
  clear hwb hg b1 B0 CW p0 p1 q0 q1 hgw hw2
  go_wp2
  rw [← HW2.out, ← HGW.out]
  clear HW2 HGW r1 r2
  go_loopw [7, 17] (fun v i wr => ∃ (j k : Nat) (A1 : Option Addr) (c1 : Nat), j ≤ m' ∧ k ≤ j ∧ i = .int .i64 j ∧ v = .slice A1 k c1 ∧ Hid (k = (readyW E O L j).length) ∧ Hid (OwnI wr (gw + 1) v (readyW E O L j)) ∧ Hid (StRd w g gw A n c F m d W E A' n' c' F' m' d' O L wr)) (fun _ i _ => m' - (intOf i).toNat)
  case atStart => exact ⟨0, 0, _, _, Nat.zero_le _, Nat.le_refl _, rfl, rfl, Lib.hid rfl, Lib.hid ⟨rfl, .inl ⟨rfl, rfl⟩⟩, S2⟩
  case round =>
    clear S2
    obtain ⟨j, k, A1, c1, hj, hkj, rfl, rfl, HK, HO, HB⟩ := hrel
    have hsz : gw + 1 ≤ wr.heap.size := HB.out.l3
    by_cases hlt : j < m'
    · have HS := Lib.hid (readyW_step E O L j)
      have C1 := Lib.hid (isReady_any j w wr g gw HB.out hlt hm64)
      by_cases hr : ReadyC E O L j
      · have HN : Hid (readyW E O L (j + 1) = readyW E O L j ++ [(j : Int)]) := Lib.hid (by rw [HS.out, if_pos hr])
        rw [decide_eq_true hr] at C1
        clear HS hr
        go_wp2_with (first
          | (go_at_call 64; refine C1.out.mono ?_; rintro e w' ⟨rfl, rfl⟩)
          | (at_builtin; refine wpList_push rfl _ _ rfl w' (gw + 1) _ (readyW E O L j) (j : Int) k HK.out.symm (by omega) HO.out hsz rfl rfl ?_; intro A2 c2 w3 HO3 HB3; (have HO3' := Lib.hid HO3); (have HB3' := Lib.hid HB3); clear HO3 HB3))
        have HB4 := Lib.hid (HB.out.later HB3'.out)
        go_roundw
        case rel => exact ⟨j + 1, k + 1, A2, c2, by omega, by omega, by go_num, rfl, Lib.hid (by rw [HN.out, List.length_append, ← HK.out]; rfl), Lib.hid (by rw [HN.out]; exact HO3'.out), HB4⟩
        case measure => simp [intOf]; omega
      · have HN : Hid (readyW E O L (j + 1) = readyW E O L j) := Lib.hid (by rw [HS.out, if_neg hr])
        rw [decide_eq_false hr] at C1
        clear HS hr
        go_wp2_with (go_at_call 64; refine C1.out.mono ?_; rintro e w' ⟨rfl, rfl⟩)
        go_roundw
        case rel => exact ⟨j + 1, k, A1, c1, by omega, by omega, by go_num, rfl, Lib.hid (by rw [HN.out, HK.out]), Lib.hid (by rw [HN.out]; exact HO.out), HB⟩
        case measure => simp [intOf]; omega
    · obtain rfl : m' = j := by omega
      go_wp2
      go_ret
      exact ⟨A1, c1, by rw [← HK.out]; rfl, by rw [← HK.out]; exact HO.out.down (by have := HB.out.l1; omega), HB.out.bx.bel⟩
set_option maxRecDepth 100000 in
set_option maxHeartbeats 2000000 in
theorem cready_any (w : World) (hg : IsG w A n c F m d W E) (hk : IsC w A' n' c' F' m' d' O L) :
    Calls Tryd.prog 15 #[.agg #[.slice A n c, .slice F m d], .agg #[.slice A' n' c', .slice F' m' d']] w fun e w' => ∃ v, e = .returned v ∧ GotL (readyV W E O L) v w' ∧ Below w.heap.size w w' := by
  obtain ⟨w0, hw0⟩ : ∃ w0, w0 = (w.alloc (.cells #[.slice A n c, .slice F m d] 25)).alloc (.cells #[.slice A' n' c', .slice F' m' d'] 27) := ⟨_, rfl⟩
  have B0 : Hid (BxDC w A n c F m d W E A' n' c' F' m' d' O L w0) := Lib.hid (by rw [hw0]; exact BxDC.start hg hk)
  have HW := Lib.hid hw0
  have CK := Lib.hid (ccheck_any w0 B0.out.g B0.out.k)
  obtain ⟨z, hz⟩ : ∃ z, z = crewE W E O L := ⟨_, rfl⟩
  rw [← hz] at CK
  have hmw := hk.hm
  clear hw0 hg hk
  have p0 := B0.out.d0
  have p1 := B0.out.d1
  have q0 := B0.out.c0
  have q1 := B0.out.c1
  by_cases he : z = 0
  · subst he
    obtain ⟨hM, hC⟩ := crewE_zero.mp hz.symm
    have CR := Lib.hid (fun W' (h1 : IsG W' A n c F m d W E) (h2 : IsC W' A' n' c' F' m' d' O L) => pready_any W' h1 h2 hM.fits hM.nodes hC.ln)
    have HV : Hid (readyV W E O L = readyW E O L m') := Lib.hid (by unfold readyV; rw [if_pos hz.symm, ← hC.ln, hmw])
    clear hM hC hz hmw
    go_enter Tryd.func15, Tryd.ntmps15
    go_wp2_with fail
    rw [← HW.out]
    refine CK.out.mono ?_
    rintro e w1 ⟨rfl, b1⟩
    have B1 := Lib.hid (B0.out.next b1)
    clear b1 B0 CK p0 p1 q0 q1
    have p0 := B1.out.d0
    have p1 := B1.out.d1
    have q0 := B1.out.c0
    have q1 := B1.out.c1
    go_wp2_with fail
    refine (CR.out w1 B1.out.g B1.out.k).mono ?_
    rintro e w2 ⟨A1, c1, rfl, ho, b2⟩
    have B2 := Lib.hid (B1.out.next b2)
    have HO := Lib.hid ho
    clear ho b2
    go_wp2
    go_ret
    exact ⟨.slice A1 (readyW E O L m').length c1, rfl, ⟨A1, c1, by rw [HV.out], by rw [HV.out]; exact HO.out.ints⟩, B2.out.bel⟩
  · have heb : (z != 0) = true := bne_iff_ne.mpr he
    have HV : Hid (readyV W E O L = []) := Lib.hid (by unfold readyV; rw [if_neg (by rw [← hz]; exact he)])
    clear hz he hmw
    go_enter Tryd.func15, Tryd.ntmps15
    go_wp2_with fail
    rw [← HW.out]
    refine CK.out.mono ?_
    rintro e w1 ⟨rfl, b1⟩
    have B1 := Lib.hid (B0.out.next b1)
    clear b1 B0 CK p0 p1 q0 q1
    go_wp2
    go_ret
    exact ⟨.slice none 0 0, rfl, ⟨none, 0, by rw [HV.out]; rfl, by rw [HV.out]; exact Ints.nil_ _ _ _⟩, B1.out.bel⟩
end
end Go.Proofs.YtmmogdccjiagnaaDoor
set_option linter.unusedVariables false
namespace Go.Proofs.YtmmogdccjiagnaaDoor
open Go.RowKit

theorem int_info1 : ∃ i, Tryd.prog.info? 3 = some i ∧ i.zero = some (.int .i64 0) ∧ i.size = 1 ∧ i.bytes = 8 := by
  have h := int_cell_info
  cases hi : Tryd.prog.info? 3 with
  | none => rw [hi] at h; cases h
  | some i =>
    rw [hi] at h
    simp at h
    exact ⟨i, rfl, h.1, h.2.1, h.2.2⟩
theorem wpList_append_plain {P : Program} {ops : Array Oper} {rest : List Oper} {o : Oper} {a : Act} {Q : Exit → Act → World → Prop} {w w' : World} {v : Value} (hgd : o.guard = none) (s x : Operand) (t : TypeId) (vs vx : Value)
    (ho : o.op = .call { callee := .builtin .append, args := #[s, x], argTypes := #[t, t] }) (hs : a.eval s = vs) (hx : a.eval x = vx) (hr : (Builtin.append_ #[t, t] o.type #[vs, vx]).run P w = .ok v w')
    (h : wpList P ops Q rest (a.put o.dst v) w') : wpList P ops Q (o :: rest) a w := by
  refine wpList_plain hgd fun K hK => ?_
  unfold Oper.wp execOp
  simp only [ho, resolve, invoke, builtin, Sem.run_bind, Sem.run_pure, Result.andThen_ok, List.map_toArray, List.map_cons, List.map_nil, hs, hx, hr]
  exact hK _ _ h
theorem equalIn_nil (W : World) (d : Nat) (t e : TypeId) (a : Option Addr) (l c : Nat) (h : Tryd.prog.underlying t = some (.slice e)) : (Op.equalIn (d + 1) t (.slice a l c) (.slice none 0 0)).run Tryd.prog W = .ok a.isNone W := by
  cases a <;> simp [Op.equalIn, run_underlying h]
theorem equal_nil (W : World) (t e : TypeId) (a : Option Addr) (l c : Nat) (h : Tryd.prog.underlying t = some (.slice e)) : (Op.equal t (.slice a l c) (.slice none 0 0)).run Tryd.prog W = .ok a.isNone W := equalIn_nil W 9999 t e a l c h
theorem eql_nil (W : World) (t e : TypeId) (a : Option Addr) (l c : Nat) (h : Tryd.prog.underlying t = some (.slice e)) : (binOp .eql t (.slice a l c) (.slice none 0 0)).run Tryd.prog W = .ok (.bool a.isNone) W := by
  simp [binOp, equal_nil W t e a l c h]
theorem new_ints8 (W : World) (ty : TypeId) (A : Option Addr) (c : Nat) (zs : List Int) (hl : zs.length ≤ 1000) (hZ : Ints W W.heap.size A zs) (hA : A = none → zs.length = 0 ∧ c = 0) :
    ∃ v' w', (Builtin.append_ #[22, 22] ty #[.slice (some ⟨W.heap.size, 0, none⟩) 0 0, .slice A zs.length c]).run Tryd.prog (W.alloc (.cells #[] 3)) = .ok v' w' ∧ OwnI w' W.heap.size v' zs ∧ Below W.heap.size W w' := by
  obtain ⟨i0, hi, hz0, hz1, hz2⟩ := int_info1
  obtain ⟨v', w', hr, ho, hb⟩ := fresh_append (P := Tryd.prog) (W.alloc (.cells #[] 3)) 22 ty 3 i0 (.int .i64 0) 1 8 Tryd.underlying22 hi hz0 hz1 hz2 rfl (by decide) W.heap.size W.heap.size (heap_alloc_new W _) (Nat.le_refl _) (by simp) A zs.length c (zs.map (Value.int .i64)) (by simp) hA (fun ad e => by subst e; exact (hZ.below (below_alloc _)).cells) (oneCell_ints zs) (by unfold maxLen; omega) (by omega)
  exact ⟨v', w', hr, ho, (below_alloc _).trans (hb.mono (by simp))⟩
set_option maxRecDepth 100000 in
set_option maxHeartbeats 2000000 in
theorem clone_i (w : World) (A : Option Addr) (n c : Nat) (zs : List Int) (hn : zs.length = n) (hl : n ≤ 1000) (hZ : Ints w w.heap.size A zs) (hA : A = none → n = 0 ∧ c = 0) :
    Calls Tryd.prog 51 #[.slice A n c] w (GotOwn zs w) := by
  subst hn
  rcases A with _ | ad
  · obtain ⟨h0, rfl⟩ := hA rfl
    obtain rfl : zs = [] := List.eq_nil_of_length_eq_zero h0
    clear hZ hA h0
    have hnil := fun W a l c => eql_nil W 22 3 a l c Tryd.underlying22
    go_enter Tryd.func51, Tryd.ntmps51
    go_wp2
    go_ret
    exact ⟨none, 0, rfl, ⟨rfl, .inl ⟨rfl, rfl⟩⟩, Below.refl _ _⟩
  · obtain ⟨v', w1, hr, hO, hB⟩ := new_ints8 w 22 (some ad) c zs hl hZ hA
    obtain ⟨A', c', rfl, _⟩ := hO.slice
    have HO := Lib.hid hO
    have HB := Lib.hid hB
    obtain ⟨n, hn⟩ : ∃ n, n = zs.length := ⟨_, rfl⟩
    unfold GotOwn
    rw [← hn] at hr hl HO ⊢
    clear hZ hA hO hB hn
    have hnil := fun W a l c => eql_nil W 22 3 a l c Tryd.underlying22
    go_enter Tryd.func51, Tryd.ntmps51
    go_wp2_with (at_builtin; refine wpList_append_plain rfl _ _ 22 _ _ rfl rfl rfl hr ?_)
    go_ret
    exact ⟨A', c', rfl, HO.out, HB.out⟩
end Go.Proofs.YtmmogdccjiagnaaDoor
set_option linter.unusedVariables false
set_option linter.unusedSimpArgs false
namespace Go.Proofs.YtmmogdccjiagnaaDoor
open Go Go.RowKit

/-- A crew's two lists, in two blocks of their own. -/
structure RowsC (B gO : Nat) (FL : Option Addr) (n m cO cL : Nat) (O L : List Int) (w : World) : Prop where
  rO : OwnI w B (.slice (some ⟨gO, 0, none⟩) n cO) O
  rL : OwnI w B (.slice FL m cL) L
  ne : 0 < m → ∃ gL, FL = some ⟨gL, 0, none⟩ ∧ gO ≠ gL
theorem RowsC.next {B gO : Nat} {FL : Option Addr} {n m cO cL : Nat} {O L : List Int} {w w' : World} (h : RowsC B gO FL n m cO cL O L w) (hb : Below w.heap.size w w') : RowsC B gO FL n m cO cL O L w' := ⟨own_below h.rO hb, own_below h.rL hb, h.ne⟩
theorem StC.rows {hb g gO : Nat} {FL : Option Addr} {n m cO cL : Nat} {O L : List Int} {w : World} (h : StC hb g gO FL n m cO cL O L w) : RowsC hb gO FL n m cO cL O L w := ⟨h.rO, h.rL, h.ne⟩
theorem RowsC.isC {B gO : Nat} {FL : Option Addr} {n m cO cL : Nat} {O L : List Int} {w : World} (h : RowsC B gO FL n m cO cL O L w) (l1 : n ≤ 400) (l2 : m ≤ 400) : IsC w (some ⟨gO, 0, none⟩) n cO FL m cL O L :=
  own_isC h.rO h.rL h.rO.len_eq h.rL.len_eq l1 l2
def ThCo (wf : World) (n m : Nat) (O L : List Int) (f : Nat → Value) (w : World) : Prop := ∃ gO FL cO cL, Below wf.heap.size wf w ∧ StC wf.heap.size (wf.heap.size + 1) gO FL n m cO cL O L w
theorem ThCo.below {wf w w' : World} {n m : Nat} {O L : List Int} {f : Nat → Value} (h : ThCo wf n m O L f w) (hb : Below w.heap.size w w') : ThCo wf n m O L f w' := by
  obtain ⟨gO, FL, cO, cL, h1, h2⟩ := h
  exact ⟨gO, FL, cO, cL, h1.trans (hb.mono h1.size), h2.next hb⟩

def PhiCo (sb hb : Nat) (A : Option Addr) (n c : Nat) (F : Option Addr) (m d : Nat) (O L : List Int) : Nat → Value → World → Prop
  | 0, v, w => v = .pointer (some ⟨sb, 0, none⟩)
  | 1, v, w => v = .slice A n c
  | 2, v, w => OwnI w hb v O
  | 3, v, w => v = .pointer (some ⟨sb, 1, none⟩)
  | 4, v, w => v = .slice F m d
  | 5, v, w => OwnI w hb v L
  | 6, v, w => GBc hb n m O L v w
  | 7, v, w => True
  | _, _, _ => True
theorem phiCo_below (sb hb : Nat) (A : Option Addr) (n c : Nat) (F : Option Addr) (m d : Nat) (O L : List Int) : ∀ kq v w w', PhiCo sb hb A n c F m d O L kq v w → Below w.heap.size w w' → PhiCo sb hb A n c F m d O L kq v w' := by
  intro kq v w w' h hb'
  match kq, h with
  | 0, h => exact h
  | 1, h => exact h
  | 2, h => exact own_below h hb'
  | 3, h => exact h
  | 4, h => exact h
  | 5, h => exact own_below h hb'
  | 6, h => exact GBc.below h hb'
  | 7, h => exact h
  | kq + 8, h => exact trivial
section
variable {A' : Option Addr} {n' c' : Nat} {F' : Option Addr} {m' d' : Nat} {O L : List Int}
set_option maxRecDepth 100000 in
set_option maxHeartbeats 16000000 in
theorem copied_any (wf : World) (hk : IsC wf A' n' c' F' m' d' O L) (hn0 : 0 < n') :
    Calls Tryd.prog 37 #[.agg #[.slice A' n' c', .slice F' m' d']] wf fun e w' => ∃ gO cO FL cL, e = .returned (.agg #[.slice (some ⟨gO, 0, none⟩) n' cO, .slice FL m' cL]) ∧ RowsC wf.heap.size gO FL n' m' cO cL O L w' ∧ Below wf.heap.size wf w' := by
  obtain ⟨w0, hw0⟩ : ∃ w0, w0 = (wf.alloc (.cells #[.slice A' n' c', .slice F' m' d'] 27)).alloc (.cells #[.slice none 0 0, .slice none 0 0] 27) := ⟨_, rfl⟩
  have B0 : Hid (BxK wf A' n' c' F' m' d' O L w0 ∧ w0.heap[wf.heap.size + 1]? = some (.cells #[.slice none 0 0, .slice none 0 0] 27 (0, 0))) := Lib.hid (by
    have h1 := BxK.start hk
    obtain ⟨v1, hv1⟩ : ∃ v1, v1 = wf.alloc (.cells #[.slice A' n' c', .slice F' m' d'] 27) := ⟨_, rfl⟩
    have s1 : v1.heap.size = wf.heap.size + 1 := by rw [hv1]; simp
    rw [← hv1] at h1 hw0
    have h2 := heap_alloc_new v1 (.cells #[.slice none 0 0, .slice none 0 0] 27)
    rw [s1, ← hw0] at h2
    exact ⟨h1.next (by rw [hw0]; exact below_alloc _), h2⟩)
  have HW := Lib.hid hw0
  clear hk hw0
  go_enter Tryd.func37, Tryd.ntmps37
  go_wp2_with fail
  rw [← HW.out]
  clear HW
  refine wp_region_stored3 7 [3, 4, 5, 6, 7, 8, 9, 1000] [] wf.heap.size 2 5 (by kernel_rfl) (by kernel_rfl) (by intro d hd; simp at hd ⊢; omega) (fun x => BxK wf A' n' c' F' m' d' O L x ∧ (Below wf.heap.size wf x ∧ x.heap[wf.heap.size + 1]? = some (.cells #[.slice none 0 0, .slice none 0 0] 27 (0, 0)))) (PhiCo wf.heap.size wf.heap.size A' n' c' F' m' d' O L) (ThCo wf n' m' O L) (fun u v _ => 0 < m' → ApartV u v) (by decide) (fun o ho => by have hoo := Option.some.inj ho; subst hoo; exact ⟨⟨2, .chain⟩, by simp, rfl, by rfl⟩) (fun u v w w' h hb => h)
    (fun x y h hb => ⟨h.1.next hb, h.2.1.trans (hb.mono h.2.1.size), by rw [hb.block _ (Array.getElem?_eq_some_iff.1 h.2.2).1]; exact h.2.2⟩) (phiCo_below wf.heap.size wf.heap.size A' n' c' F' m' d' O L) (⟨B0.out.1.next (Below.refl _ _).drew, B0.out.1.bel.drew, by exact B0.out.2⟩) ?hstep ?hside ?hstore ?htheta ?hthetab B0.out.1.bel.size ?hend
  case hstep =>
    intro kq o hkp hkS ho a w hI hA hd hps K hK
    obtain ⟨ρ, hρ⟩ : ∃ ρ, a.eval = ρ := ⟨_, rfl⟩
    rw [hρ] at hA hd hps hK
    match kq, hkp, hkS, ho with
    | 0, _, _, ho =>
      have hoo := Option.some.inj ho
      subst hoo
      have hK := fun v w' h b => hK v w' h b (fun e => absurd e (by decide))
      exact fx_val hK hρ (.pointer (some ⟨wf.heap.size, 0, none⟩)) (by have h := hA.tmp 1 (by decide); simp [execOp, h, go_sem]) rfl
    | 1, _, _, ho =>
      have hoo := Option.some.inj ho
      subst hoo
      have f0 : (ρ (.tmp 3)) = .pointer (some ⟨wf.heap.size, 0, none⟩) := hd ⟨0, .data⟩ (by simp) (by rfl)
      have hK := fun v w' h b => hK v w' h b (fun e => absurd e (by decide))
      exact fx_val hK hρ _ (by have h0 := hI.1.c0; simp [execOp, f0, h0, go_sem]) rfl
    | 2, _, _, ho =>
      have hoo := Option.some.inj ho
      subst hoo
      have f1 : (ρ (.tmp 4)) = .slice A' n' c' := hd ⟨1, .data⟩ (by simp) (by rfl)
      have hK := fun v w' h b => hK v w' h b (fun e => absurd e (by decide))
      exact fx_call hK hρ 51 _ _ #[.slice A' n' c'] rfl (by simp only [List.map_toArray, List.map_cons, List.map_nil, f1]) (eg_of Tryd.func51 (by kernel_rfl) rfl) ((clone_i _ _ _ _ O (hI.1.k).hn (by have := (hI.1.k).ln; omega) (hI.1.k).on (hI.1.k).hA).mono fun e w' ⟨A1, c1, he, ho, hb⟩ => ⟨_, he, ho.down hI.2.1.size, hb⟩)
    | 3, _, _, ho =>
      have hoo := Option.some.inj ho
      subst hoo
      have hK := fun v w' h b => hK v w' h b (fun e => absurd e (by decide))
      exact fx_val hK hρ (.pointer (some ⟨wf.heap.size, 1, none⟩)) (by have h := hA.tmp 1 (by decide); simp [execOp, h, go_sem]) rfl
    | 4, _, _, ho =>
      have hoo := Option.some.inj ho
      subst hoo
      have f3 : (ρ (.tmp 6)) = .pointer (some ⟨wf.heap.size, 1, none⟩) := hd ⟨3, .data⟩ (by simp) (by rfl)
      have hK := fun v w' h b => hK v w' h b (fun e => absurd e (by decide))
      exact fx_val hK hρ _ (by have h0 := hI.1.c1; simp [execOp, f3, h0, go_sem]) rfl
    | 5, _, _, ho =>
      have hoo := Option.some.inj ho
      subst hoo
      have f4 : (ρ (.tmp 7)) = .slice F' m' d' := hd ⟨4, .data⟩ (by simp) (by rfl)
      have f2 := hd ⟨2, .chain⟩ (by simp) (by rfl)
      exact fx_call (k := 5) (Φ := fun _ v w' => OwnI w' wf.heap.size v L ∧ (0 < m' → ApartV (ρ (.tmp 5)) v)) (fun v w' h b => hK v w' h.1 b (fun _ => h.2)) hρ 51 _ _ #[.slice F' m' d'] rfl (by simp only [List.map_toArray, List.map_cons, List.map_nil, f4]) (eg_of Tryd.func51 (by kernel_rfl) rfl) ((clone_i _ _ _ _ L (hI.1.k).hm (by have := (hI.1.k).lm; omega) (hI.1.k).left (hI.1.k).hF).mono fun e w' ⟨A1, c1, he, ho, hb⟩ => ⟨_, he, ⟨ho.down hI.2.1.size, fun _ b e1 e2 => by have h1 := (OwnI.blockLt f2 b e1).2; have h2 := (ho.blockLt b e2).1; omega⟩, hb⟩)
    | 6, _, _, ho =>
      have hoo := Option.some.inj ho
      subst hoo
      have f2 : OwnI w wf.heap.size (ρ (.tmp 5)) O := hd ⟨2, .data⟩ (by simp) (by rfl)
      have f5 : OwnI w wf.heap.size (ρ (.tmp 8)) L := hd ⟨5, .data⟩ (by simp) (by rfl)
      have hK := fun v w' h b => hK v w' h b (fun e => absurd e (by decide))
      have hap := hps ⟨5, .data⟩ (by simp) (by rfl) rfl
      obtain ⟨A1, a1, g2, _⟩ := OwnI.slice f2
      obtain ⟨A2, a2, g5, _⟩ := OwnI.slice f5
      rw [(hI.1.k).hn] at g2
      rw [(hI.1.k).hm] at g5
      exact fx_val hK hρ (.agg #[.slice A1 n' a1, .slice A2 m' a2]) (by simp [execOp, g2, g5, go_sem]) ⟨A1, a1, A2, a2, rfl, g2 ▸ f2, g5 ▸ f5, fun hm => g2 ▸ g5 ▸ hap hm⟩
    | 7, hkp, _, _ => exact absurd rfl hkp
    | kq + 8, _, _, ho => simp at ho
  case hside =>
    intro kq o hkS ho ρ w hbw hA hd
    exact absurd hkS (by simp)
  case hstore =>
    intro o ho a w hI hA hF hps K hK
    have hoo := Option.some.inj ho
    subst hoo
    refine stC (slot := 2) rfl rfl rfl (show GNc wf.heap.size _ w from ⟨wf.heap.size + 1, hA.tmp 2 (by decide), by omega, hI.2.2⟩) (hF 6 (by decide) (by decide) (by decide)) hn0 hI.2.1 (fun w' h1 h2 h3 => hK w' ?_ ?_ (fun k hk => absurd hk (by simp)))
    · obtain ⟨g, gO, FL, cO, cL, e, r⟩ := h1
      replace e := (hA.tmp 2 (by decide)).symm.trans e
      exact ⟨gO, FL, cO, cL, by have e2 : wf.heap.size + 1 = g := (by injection e with e; injection e with e; injection e with e); subst e2; exact ⟨r.1, r.2.2⟩⟩
    · exact h2
  case htheta =>
    intro f g w h hT
    exact hT
  case hthetab =>
    intro f w w' hT hb
    exact ThCo.below hT hb
  case hend =>
    intro vals w1 hT hF
    obtain ⟨gO, FL, cO, cL, hb1, hst⟩ := hT
    simp only [fillA, fillL, List.contains_cons, List.contains_nil, Nat.reduceBEq, Bool.or_false, Bool.false_or, Bool.or_true, Bool.true_or, cond_true, cond_false, Nat.zero_add, Nat.reduceAdd]
    have x0 := hst.x0
    have x1 := hst.x1
    have HS := Lib.hid hst
    have HB := Lib.hid hb1
    clear hF hst hb1 B0
    go_wp2
    refine bodyPost_ret (v := .agg #[.slice (some ⟨gO, 0, none⟩) n' cO, .slice FL m' cL]) ?_ rfl ⟨gO, cO, FL, cL, rfl, HS.out.rows, HB.out⟩
    exact results_cell_row rfl _ _ (wf.heap.size + 1) _ _ _ _ rfl HS.out.x Tryd.underlying27 rfl (by kernel_rfl)
end
end Go.Proofs.YtmmogdccjiagnaaDoor
set_option linter.unusedVariables false
namespace Go.Proofs.YtmmogdccjiagnaaDoor
open Go Go.RowKit

/-- Two blocks at most are otherwise; and new ones. -/
structure Turn2 (gD gV : Nat) (w w' : World) : Prop where
  os : w'.os = w.os
  tape : w'.tape = w.tape
  output : w'.output = w.output
  size : w.heap.size ≤ w'.heap.size
  block : ∀ k, k < w.heap.size → k ≠ gD → k ≠ gV → w'.heap[k]? = w.heap[k]?
section
variable {gD gV : Nat} {w w1 w2 : World}
theorem Turn2.refl (gD gV : Nat) (w : World) : Turn2 gD gV w w := ⟨rfl, rfl, rfl, Nat.le_refl _, fun _ _ _ _ => rfl⟩
theorem Turn2.trans (h : Turn2 gD gV w w1) (k : Turn2 gD gV w1 w2) : Turn2 gD gV w w2 :=
  ⟨k.os.trans h.os, k.tape.trans h.tape, k.output.trans h.output, Nat.le_trans h.size k.size, fun i hi h1 h2 => (k.block i (Nat.lt_of_lt_of_le hi h.size) h1 h2).trans (h.block i hi h1 h2)⟩
theorem Turn2.more (h : Turn2 gD gV w w1) (k : Below w1.heap.size w1 w2) : Turn2 gD gV w w2 :=
  h.trans ⟨k.os, k.tape, k.output, k.size, fun i hi _ _ => k.block i hi⟩
theorem Turn2.setD (h : Turn2 gD gV w w1) (j : Nat) (v : Value) : Turn2 gD gV w (w1.setCell ⟨gD, j, none⟩ v) :=
  h.trans ⟨rfl, rfl, rfl, by simp [World.setCell], fun i hi h1 _ => heap_setCell_other _ _ _ _ h1⟩
theorem Turn2.setV (h : Turn2 gD gV w w1) (j : Nat) (v : Value) : Turn2 gD gV w (w1.setCell ⟨gV, j, none⟩ v) :=
  h.trans ⟨rfl, rfl, rfl, by simp [World.setCell], fun i hi _ h2 => heap_setCell_other _ _ _ _ h2⟩
theorem Turn2.drew (h : Turn2 gD gV w w1) : Turn2 gD gV w w1.drew := ⟨h.os, h.tape, h.output, h.size, h.block⟩
theorem Turn2.below {B : Nat} (h : Turn2 gD gV w w1) (hB : B ≤ w.heap.size) (hD : B ≤ gD) (hV : B ≤ gV) : Below B w w1 :=
  ⟨h.os, h.tape, h.output, h.size, fun k hk => h.block k (by omega) (by omega) (by omega)⟩
theorem Turn2.cell (h : Turn2 gD gV w w1) {p : Addr} (hp : p.block < w.heap.size) (h1 : p.block ≠ gD) (h2 : p.block ≠ gV) : w1.cell? p = w.cell? p := World.cell?_of_block (w := w) (h.block p.block hp h1 h2)
theorem Turn2.wide (h : Turn2 gD gD w w1) : Turn2 gD gV w w1 := ⟨h.os, h.tape, h.output, h.size, fun k hk h1 _ => h.block k hk h1 h1⟩
end
/-- A list of numbers that lies in another block than g. -/
def IntsN (w : World) (g : Nat) (A : Option Addr) (zs : List Int) : Prop :=
  0 < zs.length → ∃ b off, A = some ⟨b, off, none⟩ ∧ b < w.heap.size ∧ b ≠ g ∧ ∀ k, k < zs.length → w.cell? ⟨b, off + k, none⟩ = some (.int .i64 (zs.getD k 0))
theorem IntsN.of {w : World} {B g : Nat} {A : Option Addr} {n c : Nat} {zs : List Int} (h : OwnI w B (.slice A n c) zs) (hg : g < B) : IntsN w g A zs := fun hp => by
  obtain ⟨b, off, e, hb, hc⟩ := h.ints hp
  refine ⟨b, off, e, hb, ?_, hc⟩
  subst e
  rcases h.2 with ⟨e, _⟩ | ⟨g', cap, cur, e, hg', _⟩
  · cases e
  · injection e with e1 e2 e3
    injection e1 with e1
    injection e1 with e1 e4
    omega
theorem IntsN.turn {w w1 : World} {g : Nat} {A : Option Addr} {zs : List Int} (h : IntsN w g A zs) (ht : Turn2 g g w w1) : IntsN w1 g A zs := fun hp => by
  obtain ⟨b, off, e, hb, hn, hc⟩ := h hp
  exact ⟨b, off, e, Nat.lt_of_lt_of_le hb ht.size, hn, fun k hk => (ht.cell (p := ⟨b, off + k, none⟩) hb hn hn).trans (hc k hk)⟩
theorem IntsN.head {w : World} {g : Nat} {A : Option Addr} {z : Int} {zs : List Int} (h : IntsN w g A (z :: zs)) : ∃ b off, A = some ⟨b, off, none⟩ ∧ b < w.heap.size ∧ b ≠ g ∧ w.cell? ⟨b, off, none⟩ = some (.int .i64 z) := by
  obtain ⟨b, off, e, hb, hn, hc⟩ := h (by simp)
  exact ⟨b, off, e, hb, hn, by have := hc 0 (by simp); simpa using this⟩
/-- What 's[1:]' has for its address. -/
def tailA (A : Option Addr) (c : Nat) : Option Addr := if c = 1 then A else A.map (·.add 1)
theorem IntsN.tail {w : World} {g c : Nat} {A : Option Addr} {z : Int} {zs : List Int} (h : IntsN w g A (z :: zs)) (hc : zs.length + 1 ≤ c) : IntsN w g (tailA A c) zs := fun hp => by
  obtain ⟨b, off, e, hb, hn, hcell⟩ := h (by simp)
  refine ⟨b, off + 1, ?_, hb, hn, fun k hk => ?_⟩
  · unfold tailA
    rw [if_neg (by omega), e]
    show some ((⟨b, off, none⟩ : Addr).add 1) = _
    rw [addr_add]
  · have := hcell (k + 1) (by simpa using hk)
    rw [show off + 1 + k = off + (k + 1) by omega, this]
    rfl
theorem run_tail (b off k c : Nat) (hk : 1 ≤ k) (W : World) : (Instr.sliceAt 22 (.slice (some ⟨b, off, none⟩) k c) (some (.int .i64 1)) none none).run Tryd.prog W = .ok (.slice (tailA (some ⟨b, off, none⟩) c) (k - 1) (c - 1)) W := by
  have hu : Tryd.prog.underlying 22 = some (.slice (Tryd.prog.elem 22)) := by kernel_rfl
  rw [run_sliceAt_slice (h := hu), run_slice_l (ht := hu) (h0 := by omega) (h1 := by omega)]
  simp [go_sem, sliced, tailA]
/-- Who is ready behind one who has begun. -/
theorem readyU_next {n : Nat} {E : List (Int × Int)} {O L : List Int} {i x : Nat} {r : List Nat} (hi : i < O.length) (h0 : O.getD i 0 = -1) (h : readyU n E O L = x :: r) : readyU n E (O.set i (x : Int)) L = r := by
  have hmem : ∀ y : Nat, (y : Int) ∈ O.set i (x : Int) ↔ y = x ∨ (y : Int) ∈ O := by
    intro y
    constructor
    · intro hy
      rcases mem_set_ready hy with q | q
      · exact .inr q
      · exact .inl (by omega)
    · rintro (rfl | q)
      · exact List.mem_set hi _
      · obtain ⟨j, hj, he⟩ := List.getElem_of_mem q
        have hji : i ≠ j := fun e => by
          subst e
          rw [List.getD_eq_getElem?_getD, List.getElem?_eq_getElem hj] at h0
          have h1 : O[i] = -1 := h0
          omega
        have : (O.set i (x : Int))[j]? = some (y : Int) := by rw [List.getElem?_set_ne hji, List.getElem?_eq_getElem hj, he]
        exact List.mem_of_getElem? this
  have hnd : (readyU n E O L).Nodup := (List.nodup_range).filter _
  have hR : readyU n E (O.set i (x : Int)) L = (readyU n E O L).filter fun y => decide (y ≠ x) := by
    unfold readyU
    rw [List.filter_filter]
    refine List.filter_congr fun y _ => ?_
    rw [Bool.eq_iff_iff]
    simp only [Bool.and_eq_true, decide_eq_true_iff]
    unfold ReadyC
    rw [hmem y]
    constructor
    · rintro ⟨h1, h2, h3⟩
      exact ⟨fun e => h2 (.inl e), h1, fun q => h2 (.inr q), h3⟩
    · rintro ⟨h1, h2, h3, h4⟩
      exact ⟨h2, fun q => q.elim h1 h3, h4⟩
  rw [hR, h]
  rw [h, List.nodup_cons] at hnd
  rw [List.filter_cons_of_neg (by simp), List.filter_eq_self]
  intro y hy
  exact decide_eq_true (fun e => hnd.1 (e ▸ hy))
end Go.Proofs.YtmmogdccjiagnaaDoor
