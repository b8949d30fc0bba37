/- deque.New, Items, Push in the seat YtcjmljpfhabmnaaDoor: their contracts.
   A list of one's own: one number of it is written, in the seat YtcjmljpfhabmnaaDoor.
   No statement is proved here. -/
import Derived.Test.YtcjmljpfhabmnaaDoorZM9
import Derived.Test.YtcjmljpfhabmnaaDoorZM3
import Derived.Laws.Rows
set_option linter.unusedSimpArgs false
set_option linter.unusedVariables false
set_option linter.unusedSimpArgs false
namespace Go.Proofs.YtcjmljpfhabmnaaDoor
open Go Go.RowKit

theorem Rws.later {w0 w w' : World} {L : List (TypeId × List Value)} (h : Rws w0 L w) {B : Nat} (hb : Below B w w') (hB : w0.heap.size + L.length ≤ B) : Rws w0 L w' := by
  refine ⟨h.bel.trans (hb.mono (by omega)), fun i t vs hi => ?_⟩
  have hl : i < L.length := (List.getElem?_eq_some_iff.mp hi).1
  exact (h.row i t vs hi).below hb (by omega)
/-- A deque that is handed out, of the call's own memory. -/
def OwnQ (w' : World) (b : Nat) (A : Option Addr) (n c : Nat) (R : List Int) : Prop := OwnI w' b (.slice A n c) R ∧ R.length = n ∧ n ≤ 1000
theorem OwnQ.isQ {w : World} {b : Nat} {A : Option Addr} {n c : Nat} {R : List Int} (h : OwnQ w b A n c R) : IsQ w A n c R := own_isQ h.1 h.2.1 h.2.2
theorem noOwnQ (w : World) (b : Nat) : OwnQ w b none 0 0 [] := ⟨⟨rfl, .inl ⟨rfl, rfl⟩⟩, rfl, by decide⟩
def newRd (n : Int) : List Int := if SizeOk n then List.replicate n.toNat 0 else []
def newEd (n : Int) : Int := if SizeOk n then 0 else 120
theorem make_intsD (n : Nat) (hn : n ≤ 1000) (W : World) : (Instr.makeSlice 25 (.int .i64 n) (.int .i64 n)).run Tryd.prog W = .ok (.slice (some ⟨W.heap.size, 0, none⟩) n n) (W.alloc (.cells (List.replicate n (Value.int .i64 0)).toArray 3)) := by
  obtain ⟨i0, hi, hz0, hz1, hz2⟩ := int_info1
  have h := run_make (P := Tryd.prog) W 25 3 i0 (.int .i64 0) Tryd.underlying25 hi hz0 .i64 .i64 n n (by omega) (by omega) (by rw [hz2]; omega) (by omega)
  rw [hz1] at h
  have e : madeCells (Value.int .i64 0).cells (((n : Int)).toNat * 1) = (List.replicate n (Value.int .i64 0)).toArray := by
    apply Array.toList_inj.mp
    rw [show (Value.int .i64 0).cells = #[Value.int .i64 0] from rfl, toList_madeCells_one]
    simp
  rw [e] at h
  exact h
set_option maxHeartbeats 4000000 in
theorem dnew_any (n : Int) (w : World) (hT : DTab w) :
    Calls Tryd.prog 11 #[.int .i64 n] w fun e w' => ∃ A' n' c', e = .returned (.tuple #[.agg #[.slice A' n' c', .int .i64 0, .int .i64 0], .int .i64 (newEd n)]) ∧ OwnQ w' w.heap.size A' n' c' (newRd n) ∧ Below w.heap.size w w' := by
  have CL := Lib.hid (dlen_any n (w.alloc (.cells #[.slice none 0 0, .int .i64 0, .int .i64 0] 27)) (hT.via (below_alloc _)))
  clear hT
  have HB := Lib.hid (below_alloc (w := w) (.cells #[.slice none 0 0, .int .i64 0, .int .i64 0] 27))
  have HR := Lib.hid (RowV.new w 27 [.slice none 0 0, .int .i64 0, .int .i64 0])
  by_cases h : SizeOk n
  · rw [decide_eq_true h] at CL
    have e1 : newEd n = 0 := if_pos h
    have e2 : newRd n = List.replicate n.toNat 0 := if_pos h
    rw [e1, e2]
    obtain ⟨hb1, hb2⟩ := h.bounds
    obtain ⟨k, rfl⟩ : ∃ k : Nat, n = k := ⟨n.toNat, by omega⟩
    have hmk := make_intsD k (by omega)
    rw [Int.toNat_natCast]
    clear e1 e2 h
    go_enter Tryd.func11, Tryd.ntmps11
    go_wp2_with (go_at_call 19; refine CL.out.mono ?_; rintro e w' ⟨rfl, rfl⟩)
    refine bodyPost_ret (ret_qe rfl rfl rfl (RowV.alloc (RowV.new w 27 [.slice (some ⟨w.heap.size + 1, 0, none⟩) k k, .int .i64 0, .int .i64 0]) _) rfl) rfl ⟨some ⟨w.heap.size + 1, 0, none⟩, k, k, rfl, ⟨⟨by simp, .inr ⟨w.heap.size + 1, k, (List.replicate k (Value.int .i64 0)).toArray, by simp, by omega, ?_, by simp, by unfold maxLen; simp; omega, by simp, by simp⟩⟩, by simp, by omega⟩, ?_⟩
    · have := heap_alloc_new (w.alloc (.cells #[.slice (some ⟨w.heap.size + 1, 0, none⟩) k k, .int .i64 0, .int .i64 0] 27)) (.cells (List.replicate k (Value.int .i64 0)).toArray 3)
      simpa using this
    · exact below2 _ _ 0
  · rw [decide_eq_false h] at CL
    have e1 : newEd n = 120 := if_neg h
    have e2 : newRd n = [] := if_neg h
    rw [e1, e2]
    clear e1 e2 h
    go_enter Tryd.func11, Tryd.ntmps11
    go_wp2_with (go_at_call 19; refine CL.out.mono ?_; rintro e w' ⟨rfl, rfl⟩)
    refine bodyPost_ret (ret_qe rfl rfl rfl HR.out rfl) rfl ⟨none, 0, 0, rfl, noOwnQ _ _, HB.out⟩
def PhiIt (wf : World) (n c : Nat) (T B : Int) (A1 : Option Addr) (j c1 : Nat) (kz : Int) (p off bb : Nat) (x : Int) : Nat → Value → World → Prop
  | 0, v, w => v = .slice A1 j c1
  | 1, v, w => v = .pointer (some ⟨wf.heap.size, 0, none⟩)
  | 2, v, w => v = .slice (some ⟨bb, off, none⟩) n c
  | 3, v, w => v = .agg #[.slice (some ⟨bb, off, none⟩) n c, .int .i64 T, .int .i64 B]
  | 4, v, w => v = .int .i64 kz
  | 5, v, w => v = .int .i64 p
  | 6, v, w => v = .pointer (some ⟨bb, off + p, none⟩)
  | 7, v, w => v = .int .i64 x
  | 8, v, w => OwnXs 3 (Value.slice A1 j c1).ownBlock [.int .i64 x] v w
  | _, _, _ => True
theorem phiIt_below {wf : World} {n c : Nat} {T B : Int} {A1 : Option Addr} {j c1 : Nat} {kz : Int} {p off bb : Nat} {x : Int} : ∀ kq v w w', PhiIt wf n c T B A1 j c1 kz p off bb x kq v w → Below w.heap.size w w' → PhiIt wf n c T B A1 j c1 kz p off bb x kq v w' := by
  intro kq v w w' h hb
  match kq, h with
  | 0, h => exact h
  | 1, h => exact h
  | 2, h => exact h
  | 3, h => exact h
  | 4, h => exact h
  | 5, h => exact h
  | 6, h => exact h
  | 7, h => exact h
  | 8, h => exact OwnXs.rx (u := 0) (base := 0) h (.inl hb)
  | kq + 9, h => exact trivial
def rowQ (A : Option Addr) (n c : Nat) (T B : Int) : List (TypeId × List Value) := [(27, [.slice A n c, .int .i64 T, .int .i64 B])]
def ThtIt (wf : World) (n c : Nat) (T B : Int) (A1 : Option Addr) (j c1 : Nat) (zs : List Int) (off bb : Nat) (x : Int) (t : Nat) (f : Nat → Value) (w2 : World) : Prop :=
  9 ≤ t ∧ t ≤ 11 ∧ f 16 = .slice A1 j c1 ∧ Rws wf (rowQ (some ⟨bb, off, none⟩) n c T B) w2 ∧ wf.heap.size + 1 ≤ w2.heap.size ∧
  (t ≤ 9 → OwnI w2 (wf.heap.size + 1) (.slice A1 j c1) zs) ∧ (t = 9 → OwnXs 3 (Value.slice A1 j c1).ownBlock [.int .i64 x] (f 24) w2) ∧
  (10 ≤ t → ∃ A2 c2, f 25 = .slice A2 (j + 1) c2 ∧ OwnI w2 (wf.heap.size + 1) (.slice A2 (j + 1) c2) (zs ++ [x])) ∧ (t = 11 → f 3 = f 25)
theorem ownXs_new {w : World} {b : Nat} {v : Value} {zs : List Int} (h : OwnI w b v zs) (x : Int) : OwnXs 3 v.ownBlock [.int .i64 x] (.slice (some ⟨w.heap.size, 0, none⟩) 1 1) (w.alloc (.cells #[.int .i64 x] 3)) :=
  ⟨w.heap.size, rfl, heap_alloc_new w _, fun e => by have := (row_lts h _ e).2.1; omega⟩
theorem exec_append {P : Program} {o : Oper} {ρ : Operand → Value} {w w' : World} {v : Value} (s x : Operand) (t : TypeId) (vs vx : Value) (ho : o.op = .call { callee := .builtin .append, args := #[s, x], argTypes := #[t, t] }) (hs : ρ s = vs) (hx : ρ x = vx)
    (hr : (Builtin.append_ #[t, t] o.type #[vs, vx]).run P w = .ok v w') : (execOp ρ o).run P w = .ok (.value v) w' := by
  unfold execOp
  simp only [ho, resolve, invoke, builtin, Sem.run_bind, Sem.run_pure, Result.andThen_ok, List.map_toArray, List.map_cons, List.map_nil, hs, hx, hr]
def itemsE (R : List Int) (T B : Int) : List Int := if ChkQ R.length T B then itemsD R T B else []
section
variable {A : Option Addr} {n c : Nat} {R : List Int}
set_option maxRecDepth 100000 in
set_option maxHeartbeats 8000000 in
theorem ditems_any (T B : Int) (wf : World) (hq : IsQ wf A n c R) (hT : DTab wf) :
    Calls Tryd.prog 8 #[.agg #[.slice A n c, .int .i64 T, .int .i64 B]] wf fun e w' => ∃ A' n' c', e = .returned (.slice A' n' c') ∧ OwnQ w' wf.heap.size A' n' c' (itemsE R T B) ∧ Below wf.heap.size wf w' := by
  have B0 := Lib.hid (Rws.start wf (rowQ A n c T B))
  have hln := hq.ln
  have CK := Lib.hid (dcheck_any A n c T B _ hln (hT.via B0.out.bel))
  have HQ := Lib.hid hq
  have HN := Lib.hid hq.hn
  obtain ⟨w0, hw0⟩ : ∃ w0, w0 = allocs wf (rowQ A n c T B) := ⟨_, rfl⟩
  rw [← hw0] at CK B0
  have HW : Hid (w0 = wf.alloc (.cells #[.slice A n c, .int .i64 T, .int .i64 B] 27)) := Lib.hid hw0
  have HS0 : Hid (w0.heap.size = wf.heap.size + 1) := Lib.hid (by rw [hw0]; simp [rowQ, allocs])
  clear hw0 hq hT
  by_cases hc : ¬ ChkQ n T B
  · have e1 : itemsE R T B = [] := by unfold itemsE; rw [HN.out, if_neg hc]
    have e2 : chkQE n T B = 120 := if_neg hc
    rw [e1]
    rw [e2] at CK
    clear e1 e2 hc
    go_enter Tryd.func8, Tryd.ntmps8
    go_wp2_with fail
    rw [← HW.out]
    refine CK.out.mono ?_
    rintro e w1 ⟨rfl, b1⟩
    have B1 := Lib.hid (B0.out.next b1)
    clear b1
    go_wp2
    go_ret
    exact ⟨none, 0, 0, rfl, noOwnQ _ _, B1.out.bel⟩
  replace hc := Classical.not_not.mp hc
  have e1 : itemsE R T B = itemsD R T B := by unfold itemsE; rw [HN.out, if_pos hc]
  have e2 : chkQE n T B = 0 := if_pos hc
  rw [e1]
  rw [e2] at CK
  obtain ⟨c1, c2, c3, c4, c5⟩ := hc
  have hn64 : n ≤ 64 := by have := c1.bounds; omega
  have hn0 : 0 < n := by have := c1.bounds; omega
  obtain ⟨m, hm⟩ : ∃ m, m = (B - T).toNat := ⟨_, rfl⟩
  have HM : Hid (itemsD R T B = itemsD R T (T + m)) := Lib.hid (by
    by_cases h : T ≤ B
    · rw [show T + (m : Int) = B by omega]
    · rw [itemsD_empty (by omega), itemsD_empty (by omega)])
  rw [HM.out]
  have hm1 : T + m = B ∨ (B < T ∧ m = 0) := by omega
  have hm64 : m ≤ 64 := by omega
  clear e1 e2 c1 hm
  go_enter Tryd.func8, Tryd.ntmps8
  go_wp2_with fail
  rw [← HW.out]
  refine CK.out.mono ?_
  rintro e w1 ⟨rfl, b1⟩
  have B1 := Lib.hid (B0.out.next b1)
  have HS1 : Hid (wf.heap.size + 1 ≤ w1.heap.size) := Lib.hid (by have := b1.size; have := HS0.out; omega)
  clear b1 B0 CK HW HS0
  have c00 := B1.out.cell 0 0 rfl rfl
  have c01 := B1.out.cell 0 1 rfl rfl
  have c02 := B1.out.cell 0 2 rfl rfl
  simp only [Nat.add_zero] at c00 c01 c02
  go_wp2
  go_loopw [3, 4] (fun l k wr => ∃ (j : Nat) (A1 : Option Addr) (c1 : Nat), j ≤ m ∧ l = .slice A1 j c1 ∧ k = .int .i64 (T + j) ∧ Hid (OwnI wr (wf.heap.size + 1) (.slice A1 j c1) (itemsD R T (T + j))) ∧ Hid (Rws wf (rowQ A n c T B) wr) ∧ Hid (wf.heap.size + 1 ≤ wr.heap.size)) (fun _ k _ => m - (intOf k - T).toNat)
  case atStart =>
    refine ⟨0, none, 0, Nat.zero_le _, rfl, by simp, Lib.hid ?_, B1, HS1⟩
    rw [show T + ((0 : Nat) : Int) = T by omega, itemsD_empty (Int.le_refl _)]
    exact ⟨rfl, .inl ⟨rfl, rfl⟩⟩
  case round =>
    clear B1 HS1 c00 c01 c02
    obtain ⟨j, A1, c1, hj, rfl, rfl, HO, B1, HS1⟩ := hrel
    have c00 := B1.out.cell 0 0 rfl rfl
    have c01 := B1.out.cell 0 1 rfl rfl
    have c02 := B1.out.cell 0 2 rfl rfl
    simp only [Nat.add_zero] at c00 c01 c02
    by_cases hlt : T + (j : Int) < B
    · have hd : decide (T + (j : Int) < B) = true := decide_eq_true hlt
      obtain ⟨kz, hk⟩ : ∃ kz : Int, kz = T + j := ⟨_, rfl⟩
      have hjm : j < m := by omega
      obtain ⟨p, hp⟩ : ∃ p, p = plN n kz := ⟨_, rfl⟩
      have hpn : p < n := by rw [hp]; exact Nat.mod_lt _ hn0
      have CP := Lib.hid (fun w => dplace_any A n c T B kz w hn0 hln (by omega))
      rw [← hp] at CP
      obtain ⟨bb, off, x, hA0, hbb, hx, hcc⟩ := HQ.out.ints.at_ (k := p) (by rw [HN.out]; exact hpn)
      subst hA0
      have HX : Hid (itemsD R T (T + ((j + 1 : Nat) : Int)) = itemsD R T (T + j) ++ [x]) := Lib.hid (by
        have hxe : placeD R kz = x := by rw [placeD_eq, HN.out, ← hp, List.getD_eq_getElem?_getD, hx]; rfl
        rw [itemsD_last (by omega), show T + ((j + 1 : Nat) : Int) - 1 = T + j by omega, ← hk, hxe])
      have HBB := Lib.hid hbb
      have HCC := Lib.hid hcc
      obtain ⟨zs, hzs⟩ : ∃ zs, zs = itemsD R T (T + j) := ⟨_, rfl⟩
      have HZ := Lib.hid hzs
      rw [← hzs] at HO HX
      have hk2 : kz = T + j := hk
      rw [← hk] at hd ⊢
      have hwr : wrap64 (kz + 1) = kz + 1 := by unfold wrap64; omega
      have HK := Lib.hid hk
      clear hp hbb hx hcc hzs hk hlt hk2
      go_upto_region 7 with fail
      have HZL : Hid (zs.length = j) := Lib.hid (by rw [HZ.out, itemsD_len]; omega)
      refine wp_region_tail 9 [16, 17, 18, 19, 20, 21, 22, 23, 24, 25, 3] [] (by kernel_rfl) (by kernel_rfl) (by intro d hd; simp at hd ⊢; omega) (fun y => Rws wf (rowQ (some ⟨bb, off, none⟩) n c T B) y ∧ OwnI y (wf.heap.size + 1) (.slice A1 j c1) zs ∧ wf.heap.size + 1 ≤ y.heap.size) (PhiIt wf n c T B A1 j c1 kz p off bb x) (fun _ _ => True) (ThtIt wf n c T B A1 j c1 zs off bb x)
        (fun y y' h hb => ⟨h.1.next hb, OwnI.below h.2.1 hb, Nat.le_trans h.2.2 hb.size⟩) phiIt_below (⟨B1.out.next (Below.refl _ _).drew, OwnI.below HO.out (Below.refl _ _).drew, HS1.out⟩) ?hstep ?hloose ?hmid ?htail ?hcon ?hend
      case hstep =>
        intro kq o hkm hkF ho a1 w hI hA hd K hK
        obtain ⟨ρ, hρ⟩ : ∃ ρ, a1.eval = ρ := ⟨_, rfl⟩
        rw [hρ] at hA hd
        match kq, hkm, hkF, ho with
        | 0, _, _, ho =>
          have hoo := Option.some.inj ho
          subst hoo
          exact fx_val hK hρ (.slice A1 j c1) (by have h := hA.tmp 3 (by decide); simp [execOp, h, go_sem]) rfl
        | 1, _, _, ho =>
          have hoo := Option.some.inj ho
          subst hoo
          exact fx_val hK hρ (.pointer (some ⟨wf.heap.size, 0, none⟩)) (by have h := hA.tmp 1 (by decide); simp [execOp, h, go_sem]) rfl
        | 2, _, _, ho =>
          have hoo := Option.some.inj ho
          subst hoo
          have f1 : ρ (.tmp 17) = .pointer (some ⟨wf.heap.size, 0, none⟩) := hd ⟨1, .data⟩ (by simp) (by rfl) (by decide)
          have h0 := hI.1.cell 0 0 rfl rfl
          simp only [Nat.add_zero] at h0
          exact fx_val hK hρ (.slice (some ⟨bb, off, none⟩) n c) (by simp [execOp, f1, h0, go_sem]) rfl
        | 3, _, _, ho =>
          have hoo := Option.some.inj ho
          subst hoo
          have h0 := hI.1.cell 0 0 rfl rfl
          have h1 := hI.1.cell 0 1 rfl rfl
          have h2 := hI.1.cell 0 2 rfl rfl
          simp only [Nat.add_zero] at h0 h1 h2
          have hs := hA.tmp 1 (by decide)
          exact fx_val hK hρ (.agg #[.slice (some ⟨bb, off, none⟩) n c, .int .i64 T, .int .i64 B]) (by simp [execOp, hs, h0, h1, h2, go_sem]) rfl
        | 4, _, _, ho =>
          have hoo := Option.some.inj ho
          subst hoo
          exact fx_val hK hρ (.int .i64 kz) (by have h := hA.tmp 4 (by decide); simp [execOp, h, go_sem]) rfl
        | 5, _, _, ho =>
          have hoo := Option.some.inj ho
          subst hoo
          have f3 : ρ (.tmp 19) = .agg #[.slice (some ⟨bb, off, none⟩) n c, .int .i64 T, .int .i64 B] := hd ⟨3, .data⟩ (by simp) (by rfl) (by decide)
          have f4 : ρ (.tmp 20) = .int .i64 kz := hd ⟨4, .data⟩ (by simp) (by rfl) (by decide)
          exact fx_call hK hρ 18 _ _ #[.agg #[.slice (some ⟨bb, off, none⟩) n c, .int .i64 T, .int .i64 B], .int .i64 kz] rfl (by simp only [List.map_toArray, List.map_cons, List.map_nil, hA.const, f3, f4]) (eg_of Tryd.func18 (by kernel_rfl) rfl) ((CP.out w).mono fun e w' ⟨he, hb⟩ => ⟨_, he, rfl, hb⟩)
        | 6, _, _, ho =>
          have hoo := Option.some.inj ho
          subst hoo
          have f2 : ρ (.tmp 18) = .slice (some ⟨bb, off, none⟩) n c := hd ⟨2, .data⟩ (by simp) (by rfl) (by decide)
          have f5 : ρ (.tmp 21) = .int .i64 p := hd ⟨5, .data⟩ (by simp) (by rfl) (by decide)
          exact fx_val hK hρ (.pointer (some ⟨bb, off + p, none⟩)) (by simp [execOp, f2, f5, go_sem]; omega) rfl
        | 7, _, _, ho =>
          have hoo := Option.some.inj ho
          subst hoo
          have f6 : ρ (.tmp 22) = .pointer (some ⟨bb, off + p, none⟩) := hd ⟨6, .data⟩ (by simp) (by rfl) (by decide)
          have h0 := (hI.1.bel.cell (p := ⟨bb, off + p, none⟩) HBB.out).trans HCC.out
          exact fx_val hK hρ (.int .i64 x) (by simp [execOp, f6, h0, go_sem]) rfl
        | 8, _, _, ho =>
          have hoo := Option.some.inj ho
          subst hoo
          have f7 : ρ (.tmp 23) = .int .i64 x := hd ⟨7, .data⟩ (by simp) (by rfl) (by decide)
          exact fx_make hK hρ (.slice (some ⟨w.heap.size, 0, none⟩) 1 1) (w.alloc (.cells #[.int .i64 x] 3)) (by simp [execOp, f7, go_sem]) (ownXs_new hI.2.1 x) (below_alloc _)
        | kq + 9, h, _, _ => exact absurd h (by omega)
      case hloose =>
        intro kq o hkF ho ρ w hA hd
        exact absurd hkF (by simp)
      case hmid =>
        intro vals w hI hF
        exact ⟨Nat.le_refl _, by decide, hF 0 (by decide) (by decide), hI.1, hI.2.2, fun _ => hI.2.1, fun _ => hF 8 (by decide) (by decide), fun h => absurd h (by decide), fun h => absurd h (by decide)⟩
      case htail =>
        intro t o htm ho a1 w hA hT hL K hK
        have htl : t < 11 := (Array.getElem?_eq_some_iff.1 ho).1
        obtain ⟨ρ, hρ⟩ : ∃ ρ, a1.eval = ρ := ⟨_, rfl⟩
        rw [hρ] at hA
        try rw [hρ] at hL
        obtain rfl | rfl : t = 9 ∨ t = 10 := by omega
        · have hoo := Option.some.inj ho
          subst hoo
          obtain ⟨t1, t2, g0, hr, hs, ho1, hx1, ho2, h3⟩ := hT
          simp only [hρ] at g0 hx1 ho2 h3
          have ho := ho1 (by decide)
          have hx2 := hx1 (by simp)
          obtain ⟨yv, hx3⟩ : ∃ yv, ρ (.tmp 24) = yv := ⟨_, rfl⟩
          rw [hx3] at hx2
          obtain ⟨v', w', hrun, ⟨F, d, rfl, ho'⟩, hRX, hat⟩ := ownXs_append (tl := 25) (s := 1) (bytes := 8) (z := .int .i64 0) Tryd.underlying25 (by kernel_rfl) rfl (by decide) (by decide) ho hx2 rfl (by simp [Value.oneCell']) (by have := ho.1; simp at this; have := HZL.out; omega) hs
          have hb := hRX.below hs
          have hlz : zs.length = j := HZL.out
          unfold OwnI at ho
          rw [hlz] at ho' hrun
          unfold Oper.wp
          rw [show (execOp a1.eval _).run Tryd.prog w = .ok (.value (.slice F (j + 1) d)) w' from by rw [hρ]; exact exec_append (.tmp 16) (.tmp 24) 25 _ _ rfl g0 hx3 hrun, Oper.upon_value]
          refine hK _ _ ⟨by decide, by decide, ?_⟩
          simp only [Option.some.injEq, Nat.reduceEqDiff, if_false, if_true, hρ]
          exact ⟨g0, hr.later hb (by simp [rowQ]), Nat.le_trans hs hRX.size, fun h => absurd h (by decide), fun h => absurd h (by decide), fun _ => ⟨F, d, rfl, by unfold OwnI; rw [List.length_append, List.length_singleton, hlz, List.map_append]; exact ho'⟩, fun h => absurd h (by decide)⟩
        · have hoo := Option.some.inj ho
          subst hoo
          obtain ⟨t1, t2, g0, hr, hs, ho1, hx1, ho2, h3⟩ := hT
          simp only [hρ] at g0 hx1 ho2 h3
          obtain ⟨A2, c2, e2, ho3⟩ := ho2 (by decide)
          unfold Oper.wp
          rw [show (execOp a1.eval _).run Tryd.prog w = .ok (.value (.slice A2 (j + 1) c2)) (w) from by rw [hρ]; simp [execOp, e2, go_sem], Oper.upon_value]
          refine hK _ _ ⟨by decide, by decide, ?_⟩
          simp only [Option.some.injEq, Nat.reduceEqDiff, if_false, if_true, hρ]
          exact ⟨g0, hr, hs, fun h => absurd h (by decide), fun h => absurd h (by decide), fun _ => ⟨A2, c2, e2, ho3⟩, fun _ => e2.symm⟩
      case hcon =>
        intro t f g w h hT
        obtain ⟨t1, t2, g0, hr, hs, ho1, hx1, ho2, h3⟩ := hT
        have q0 := h 0 (by omega) (by simp)
        simp only [List.getD_cons_zero, List.getD_cons_succ] at q0
        refine ⟨t1, t2, q0 ▸ g0, hr, hs, ho1, fun e => ?_, fun e => ?_, fun e => ?_⟩
        · have q8 := h 8 (by omega) (by simp)
          simp only [List.getD_cons_zero, List.getD_cons_succ] at q8
          exact q8 ▸ hx1 e
        · have q9 := h 9 (by omega) (by simp)
          simp only [List.getD_cons_zero, List.getD_cons_succ] at q9
          exact q9 ▸ ho2 e
        · have q9 := h 9 (by omega) (by simp)
          have q10 := h 10 (by omega) (by simp)
          simp only [List.getD_cons_zero, List.getD_cons_succ] at q9 q10
          rw [← q9, ← q10]; exact h3 e
      case hend =>
        intro vals w3 hT
        obtain ⟨_, _, _, hr, hs, _, _, ho2, h3⟩ := hT
        obtain ⟨A2, c2, e2, ho3⟩ := ho2 (by decide)
        have e3 := (h3 rfl).trans e2
        have HO3 := Lib.hid ho3
        have HR3 := Lib.hid hr
        have HS3 := Lib.hid hs
        clear h3 ho2 ho3 hr hs
        simp only [fillA, fillL, List.contains_cons, List.contains_nil, Nat.reduceBEq, Bool.or_false, Bool.false_or, Bool.or_true, Bool.true_or, cond_true, cond_false, Nat.zero_add, Nat.reduceAdd]
        rw [e3]
        go_wp2
        go_roundw
        case rel => exact ⟨j + 1, A2, c2, by omega, rfl, by (try rw [hwr]); rw [HK.out]; simp; omega, Lib.hid (by rw [HX.out]; exact HO3.out), HR3, HS3⟩
        case measure => simp [intOf]; have := HK.out; omega
    · have hd : decide (T + (j : Int) < B) = false := decide_eq_false hlt
      obtain rfl : j = m := by omega
      go_wp2
      go_ret
      exact ⟨A1, j, c1, rfl, ⟨OwnI.down HO.out (by omega), by rw [itemsD_len]; omega, by omega⟩, B1.out.bel⟩
end
end Go.Proofs.YtcjmljpfhabmnaaDoor
set_option linter.unusedVariables false
namespace Go.Proofs.YtcjmljpfhabmnaaDoor
open Go Go.RowKit

theorem OwnI.blockC {w : World} {base gg nn cc : Nat} {zs : List Int} (h : OwnI w base (.slice (some ⟨gg, 0, none⟩) nn cc) zs) : ∃ cur, w.heap[gg]? = some (.cells cur 3 (0, 0)) ∧ base ≤ gg ∧ nn ≤ cc ∧ cur.size = cc * 1 := by
  rcases h.2 with ⟨e, _⟩ | ⟨g', cap, cur, e, hg, hgg, hnc, hcm, hcs, _⟩
  · cases e
  · injection e with e1 e2 e3
    injection e1 with e1
    injection e1 with e1
    subst e1 e3
    rw [← e2] at hnc
    exact ⟨cur, hgg, hg, hnc, hcs⟩
theorem OwnI.frozenC {w : World} {base g n c : Nat} {zs : List Int} (h : OwnI w base (.slice (some ⟨g, 0, none⟩) n c) zs) (j : Nat) : w.frozen? ⟨g, j, none⟩ = false := by
  obtain ⟨cur, h1, _⟩ := h.blockC
  exact frozen_of_row w g j _ _ h1
theorem OwnI.len_eq {w : World} {base nn cc : Nat} {A : Option Addr} {zs : List Int} (h : OwnI w base (.slice A nn cc) zs) : zs.length = nn := by
  rcases h.2 with ⟨e, hn⟩ | ⟨g', cap, cur, e, _⟩
  · injection e with _ e2 _
    omega
  · injection e with _ e2 _
    omega
/-- One number of a list of one's own is written. -/
theorem ownI_setC {w : World} {base g n c j : Nat} {zs : List Int} (h : OwnI w base (.slice (some ⟨g, 0, none⟩) n c) zs) (hj : j < zs.length) (z : Int) : OwnI (w.setCell ⟨g, j, none⟩ (.int .i64 z)) base (.slice (some ⟨g, 0, none⟩) n c) (zs.set j z) := by
  unfold OwnI at h ⊢
  rw [List.length_set, List.map_set]
  refine ⟨by rw [List.length_set]; exact h.1, ?_⟩
  rcases h.2 with ⟨e, _⟩ | ⟨g', cap, cur, e, hg, hgg, hnc, hcm, hcs, htake⟩
  · cases e
  · injection e with e1 e2 e3
    injection e1 with e1
    injection e1 with e1
    subst e1 e2 e3
    refine .inr ⟨g, _, cur.setIfInBounds j (.int .i64 z), rfl, hg, heap_setCell_same w g j _ _ _ hgg, hnc, hcm, by rw [Array.size_setIfInBounds]; exact hcs, ?_⟩
    rw [Array.toList_setIfInBounds, ← htake, List.take_set]
theorem own_farC {w w' : World} {base g : Nat} {v : Value} {zs : List Int} (h : OwnI w base v zs) (hne : v.ownBlock ≠ some g) (hk : ∀ k, k ≠ g → w'.heap[k]? = w.heap[k]?) : OwnI w' base v zs := by
  refine ⟨h.1, ?_⟩
  rcases h.2 with hn | ⟨g', cap, cur, rfl, hg, hgg, rest⟩
  · exact .inl hn
  · refine .inr ⟨g', cap, cur, rfl, hg, ?_, rest⟩
    rw [hk g' (fun e => hne (by rw [e]; rfl))]
    exact hgg
theorem OwnI.cellC {w : World} {base g n c : Nat} {zs : List Int} (h : OwnI w base (.slice (some ⟨g, 0, none⟩) n c) zs) {j : Nat} (hj : j < zs.length) : ∃ z, w.cell? ⟨g, j, none⟩ = some (.int .i64 z) := by
  obtain ⟨b, off, z, e, _, _, hc⟩ := h.ints.at_ hj
  injection e with e
  injection e with e1 e2
  subst e1 e2
  exact ⟨z, by simpa using hc⟩
theorem OwnI.someC {w : World} {base n c : Nat} {A : Option Addr} {zs : List Int} (h : OwnI w base (.slice A n c) zs) (hn : 0 < zs.length) : ∃ g, A = some ⟨g, 0, none⟩ ∧ base ≤ g ∧ g < w.heap.size := by
  rcases h.2 with ⟨e, h0⟩ | ⟨g', cap, cur, e, hg, hgg, _⟩
  · omega
  · injection e with e1 _ _
    exact ⟨g', e1, hg, (Array.getElem?_eq_some_iff.1 hgg).1⟩
end Go.Proofs.YtcjmljpfhabmnaaDoor
