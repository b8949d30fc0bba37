/- (*lower.graph).steps in the seat YtkmajhbfmdoamaaGreatDoor: its contract.
   lower.ends in the seat YtkmajhbfmdoamaaGreatDoor: its contract.
   (*lower.graph).barrier and futures in the seat YtkmajhbfmdoamaaGreatDoor: their contracts.
   Where a future's edge leads, in plain words, in the seat YtkmajhbfmdoamaaGreatDoor.
   No statement is proved here. -/
import Derived.Test.YtkmajhbfmdoamaaGreatDoorZM13
import Derived.Test.YtkmajhbfmdoamaaGreatDoorZM11
import Derived.WalkMore
set_option linter.unusedSimpArgs false
set_option linter.unusedVariables false
namespace Go.Proofs.YtkmajhbfmdoamaaGreatDoor
open Go.RowKit Go.Maps

/-- What the reads ahead of 'first[part] = len(pieces)' have yielded. -/
def StepF (gb b1 : Nat) (vP : Value) (x N : Nat) : Nat → Value → World → Prop
  | 0, v, _ => v = .pointer (some ⟨gb, 0, none⟩)
  | 1, v, _ => v = .pointer (some ⟨gb, 0, none⟩)
  | 2, v, _ => v = .pointer (some ⟨gb, 3, none⟩)
  | 3, v, _ => v = .map (some b1)
  | 4, v, _ => v = .int .i64 (x : Int)
  | 5, v, _ => v = .pointer (some ⟨gb, 0, none⟩)
  | 6, v, _ => v = .pointer (some ⟨gb, 0, none⟩)
  | 7, v, _ => v = .pointer (some ⟨gb, 0, none⟩)
  | 8, v, _ => v = .pointer (some ⟨gb, 2, none⟩)
  | 9, v, _ => v = vP
  | 10, v, _ => v = .int .i64 (N : Int)
  | _, _, _ => True
theorem stepF_any {gb b1 : Nat} {vP : Value} {x N : Nat} : ∀ (k : Nat) (v : Value) (w w' : World), StepF gb b1 vP x N k v w → StepF gb b1 vP x N k v w'
  | 0, _, _, _, h | 1, _, _, _, h | 2, _, _, _, h | 3, _, _, _, h | 4, _, _, _, h | 5, _, _, _, h | 6, _, _, _, h | 7, _, _, _, h | 8, _, _, _, h | 9, _, _, _, h | 10, _, _, _, h => h
  | _ + 11, _, _, _, _ => trivial
theorem OwnP.slice {w : World} {base : Nat} {v : Value} {ps : List (Int × Int)} (h : OwnP w base v ps) : ∃ A c, v = .slice A ps.length c := by
  rcases h.2 with ⟨rfl, hn⟩ | ⟨g, cap, cur, rfl, _⟩
  · exact ⟨none, 0, by rw [hn]⟩
  · exact ⟨_, _, rfl⟩
theorem ox_map {o : Oper} {a : Act} {x x' : World} {K : Act → World → Prop} {Q : Exit → Act → World → Prop} {m k v : Operand} {b : Nat} {kx vx : Value} (hop : o.op = .mapUpdate 109 m k v) (hdst : o.dst = none) (hm : a.eval m = .map (some b)) (hk : a.eval k = kx) (hv : a.eval v = vx)
    (hr : (Instr.mapUpdate 109 (.map (some b)) kx vx).run Tryz.prog x = .ok () x') (hK : K a x') : o.wp Tryz.prog a x K Q := by
  unfold Oper.wp
  simp [execOp, hop, hm, hk, hv, hr, Result.andThen]
  rw [Oper.upon_skip, hdst]
  exact hK
theorem OwnI.at_ {w : World} {base m c j : Nat} {A : Option Addr} {l : List Int} (h : OwnI w base (.slice A m c) l) (hj : j < l.length) : ∃ b off, A = some ⟨b, off, none⟩ ∧ w.cell? ⟨b, off + j, none⟩ = some (.int .i64 (l.getD j 0)) := by
  obtain ⟨A', c', e, hI⟩ := h.slice
  injection e with e1 _ _
  subst e1
  obtain ⟨b, off, e2, _, hc⟩ := hI (by omega)
  exact ⟨b, off, e2, hc j hj⟩
theorem Tells.last {D : DataW Unit} {f : Nat → Nat} {x v : Nat} (h : Tells D f x) (hk : D.atKey (.int .i64 (x : Int)) (.lit (.int .i64 0)) = .lit (.int .i64 ((v : Nat) : Int))) (hv : v = f x) : Tells D f (x + 1) := fun k hk' => by
  by_cases e : k = x
  · subst e
    rw [hk, hv]
  · exact h k (by omega)
set_option maxRecDepth 100000 in
set_option maxHeartbeats 16000000 in
theorem steps_any (base gb b1 b2 n1 n2 : Nat) (D1 D2 : DataW Unit) (vW vE vP : Value) (W : List Int) (E P : List (Int × Int)) (x m N c : Nat) (A : Option Addr) (l : List Int) (f1 f2 : Nat → Nat) (w : World) (hx : x ≤ 400) (hm : l.length = m) (hm1 : 1 ≤ m) (hm9 : m ≤ 400) (hz : ∀ z ∈ l, 0 ≤ z ∧ z ≤ 100000) (hW : W.length = N) (hP : P.length = N) (hN : N ≤ 400) (hE : E.length ≤ 400) (hn1 : n1 ≤ 1000) (hn2 : n2 ≤ 1000)
    (h : Gl base gb b1 b2 n1 n2 D1 D2 vW vE vP W E P w) (hX : Side w base vW (.slice A m c) l) (h1 : Tells D1 f1 x) (h2 : Tells D2 f2 x) (e1 : f1 x = N) (e2 : f2 x = N + m - 1) :
    Calls Tryz.prog 71 #[.pointer (some ⟨gb, 0, none⟩), .int .i64 (x : Int), .slice A m c] w fun e w' => e = .returned (.tuple #[]) ∧ ∃ n1' n2' D1' D2' vW' vE' vP', Gl base gb b1 b2 n1' n2' D1' D2' vW' vE' vP' (W ++ stepW 0 l) (E ++ chainE N m) (P ++ stepP x m) w' ∧ Tells D1' f1 (x + 1) ∧ Tells D2' f2 (x + 1) ∧ n1' ≤ n1 + 1 ∧ n2' ≤ n2 + m ∧ Below base w w' := by
  have hbw : base ≤ w.heap.size := by have := h.le; have := h.lt; omega
  have H := Lib.hid h
  have HX := Lib.hid hX
  have HT1 := Lib.hid h1
  have HT2 := Lib.hid h2
  have HL := Lib.hid hm
  have HZ := Lib.hid hz
  have HWL := Lib.hid hW
  have HPL := Lib.hid hP
  have HE1 := Lib.hid e1
  have HE2 := Lib.hid e2
  clear h hX h1 h2 hm hz hW hP e1 e2
  go_enter Tryz.func71, Tryz.ntmps71
  go_wp2_with fail
  refine wp_region_gather2' 11 11 [10, 11, 12, 13, 14, 15, 16, 17, 18, 19, 20] (by kernel_rfl) (by kernel_rfl) (by intro d hd; simp at hd ⊢; omega) (fun y => Below w.heap.size w y) (fun _ => True) (fun y z => Below y.heap.size y z) (StepF gb b1 vP x N)
    (fun _ _ h => h) (fun y z h hr => h.trans (hr.mono h.size)) (fun _ _ h _ => trivial) (fun k v y z _ h _ => stepF_any k v y z h) (fun v y z h _ => trivial) (Below.refl _ _).drew trivial ?hstep ?hlast
  case hstep =>
    intro j o hj ho ρ y hI hA hd hJ
    have h0 : ρ (.tmp 0) = .pointer (some ⟨gb, 0, none⟩) := hA.tmp 0 (by decide)
    have h1 : ρ (.tmp 1) = .int .i64 (x : Int) := hA.tmp 1 (by decide)
    have hG := H.out.below hI
    have c2 : y.cell? ⟨gb, 2, none⟩ = some vP := by rw [hG.cell]; rfl
    have c3 : y.cell? ⟨gb, 3, none⟩ = some (.map (some b1)) := by rw [hG.cell]; rfl
    match j, hj with
    | 0, _ =>
      have hoo := Option.some.inj ho
      subst hoo
      exact ⟨.pointer (some ⟨gb, 0, none⟩), y, by simp [execOp, h0, go_sem], rfl, Below.refl _ _⟩
    | 1, _ =>
      have hoo := Option.some.inj ho
      subst hoo
      have f : ρ (.tmp 10) = .pointer (some ⟨gb, 0, none⟩) := hd ⟨0, .data⟩ (by simp) (by rfl)
      exact ⟨.pointer (some ⟨gb, 0, none⟩), y, by simp [execOp, f, go_sem], rfl, Below.refl _ _⟩
    | 2, _ =>
      have hoo := Option.some.inj ho
      subst hoo
      have f : ρ (.tmp 11) = .pointer (some ⟨gb, 0, none⟩) := hd ⟨1, .data⟩ (by simp) (by rfl)
      exact ⟨.pointer (some ⟨gb, 3, none⟩), y, by simp [execOp, f, go_sem], rfl, Below.refl _ _⟩
    | 3, _ =>
      have hoo := Option.some.inj ho
      subst hoo
      have f : ρ (.tmp 12) = .pointer (some ⟨gb, 3, none⟩) := hd ⟨2, .data⟩ (by simp) (by rfl)
      exact ⟨.map (some b1), y, by simp [execOp, f, c3, go_sem], rfl, Below.refl _ _⟩
    | 4, _ =>
      have hoo := Option.some.inj ho
      subst hoo
      exact ⟨.int .i64 (x : Int), y, by simp [execOp, h1, go_sem], rfl, Below.refl _ _⟩
    | 5, _ =>
      have hoo := Option.some.inj ho
      subst hoo
      exact ⟨.pointer (some ⟨gb, 0, none⟩), y, by simp [execOp, h0, go_sem], rfl, Below.refl _ _⟩
    | 6, _ =>
      have hoo := Option.some.inj ho
      subst hoo
      have f : ρ (.tmp 15) = .pointer (some ⟨gb, 0, none⟩) := hd ⟨5, .data⟩ (by simp) (by rfl)
      exact ⟨.pointer (some ⟨gb, 0, none⟩), y, by simp [execOp, f, go_sem], rfl, Below.refl _ _⟩
    | 7, _ =>
      have hoo := Option.some.inj ho
      subst hoo
      have f : ρ (.tmp 16) = .pointer (some ⟨gb, 0, none⟩) := hd ⟨6, .data⟩ (by simp) (by rfl)
      exact ⟨.pointer (some ⟨gb, 0, none⟩), y, by simp [execOp, f, go_sem], rfl, Below.refl _ _⟩
    | 8, _ =>
      have hoo := Option.some.inj ho
      subst hoo
      have f : ρ (.tmp 17) = .pointer (some ⟨gb, 0, none⟩) := hd ⟨7, .data⟩ (by simp) (by rfl)
      exact ⟨.pointer (some ⟨gb, 2, none⟩), y, by simp [execOp, f, go_sem], rfl, Below.refl _ _⟩
    | 9, _ =>
      have hoo := Option.some.inj ho
      subst hoo
      have f : ρ (.tmp 18) = .pointer (some ⟨gb, 2, none⟩) := hd ⟨8, .data⟩ (by simp) (by rfl)
      exact ⟨vP, y, by simp [execOp, f, c2, go_sem], rfl, Below.refl _ _⟩
    | 10, _ =>
      have hoo := Option.some.inj ho
      subst hoo
      have f : ρ (.tmp 19) = vP := hd ⟨9, .data⟩ (by simp) (by rfl)
      obtain ⟨AP, cP, eP⟩ := hG.hP.slice
      rw [HPL.out] at eP
      exact ⟨.int .i64 (N : Int), y, by simp [execOp, resolve, invoke, builtin, f, eP, go_sem, Result.andThen], rfl, Below.refl _ _⟩
    | j + 11, hk => omega
  case hlast =>
    intro o ho vals y hI hF
    have hoo := Option.some.inj ho
    subst hoo
    have q3 : vals 13 = .map (some b1) := hF 3 (by decide)
    have q4 : vals 14 = .int .i64 (x : Int) := hF 4 (by decide)
    have q10 : vals 20 = .int .i64 (N : Int) := hF 10 (by decide)
    have hG := H.out.below hI
    obtain ⟨y2, hu, hm2, hg2⟩ := map_put hG.m1 (by omega) (x := (x : Int)) (v := (N : Int)) (by omega) (by omega) (by omega) (by omega)
    have HG := Lib.hid (hG.mapped1 hg2 hm2)
    have HS := Lib.hid ((HX.out.below hI).mapped hG.m1 hg2)
    have HB := Lib.hid ((hI.mono hbw).trans (mapped_below hG.le1 hg2 (Nat.le_trans hbw hI.size)))
    have HD1 := Lib.hid (HT1.out.put hG.m1.isMap HE1.out.symm)
    refine ox_map rfl rfl q3 q4 q10 hu ?_
    clear hu hm2 hg2 hG hI hF q3 q4 q10 H HX HT1 HE1
    simp only [fillA, fillL, List.contains_cons, List.contains_nil, Nat.reduceBEq, Bool.or_false, Bool.false_or, Bool.or_true, Bool.true_or, cond_true, cond_false, Nat.zero_add, Nat.reduceAdd]
    obtain ⟨D1', hD1⟩ : ∃ D, D = D1.put (.int .i64 (x : Int)) (.lit (.int .i64 (N : Int))) := ⟨_, rfl⟩
    rw [← hD1] at HG HD1
    clear hD1
    have hG0 : Hid (Gl base gb b1 b2 (n1 + 1) n2 D1' D2 vW vE vP (W ++ (stepW 0 l).take 0) (E ++ chainE N 0) (P ++ stepP x 0) y2) := Lib.hid (by have h := HG.out; simpa [chainE_zero, stepP] using h)
    clear HG
    go_wp2
    go_loopw [6, 23] (fun bv iv wr => ∃ (j nz : Nat) (bb : Int) (Dz : DataW Unit) (uW uE uP : Value), j ≤ m ∧ bv = .int .i64 bb ∧ iv = .int .i64 (j : Int) ∧ 0 ≤ bb ∧ bb ≤ 100000 ∧ nz ≤ n2 + j ∧ Hid (bb = befE l j) ∧ Hid (Gl base gb b1 b2 (n1 + 1) nz D1' Dz uW uE uP (W ++ (stepW 0 l).take j) (E ++ chainE N j) (P ++ stepP x j) wr) ∧ Hid (Side wr base uW (.slice A m c) l) ∧ Hid (Tells Dz f2 x) ∧ Hid (0 < j → Dz.atKey (.int .i64 (x : Int)) (.lit (.int .i64 0)) = .lit (.int .i64 ((N + j - 1 : Nat) : Int))) ∧ Hid (Below base w wr)) (fun _ iv _ => m - (intOf iv).toNat)
    case atStart => exact ⟨0, n2, 0, D2, vW, vE, vP, Nat.zero_le _, rfl, rfl, by omega, by omega, by omega, Lib.hid rfl, hG0, HS, HT2, Lib.hid (fun h => absurd h (by omega)), HB⟩
    case round =>
      obtain ⟨j, nz, bb, Dz, uW, uE, uP, hj, rfl, rfl, hb0, hb9, hnz, HBB, HGJ, HSJ, HTJ, HKJ, HBJ⟩ := hrel
      clear hG0 HS HT2 HB
      by_cases hlt : j < m
      · obtain ⟨z, he⟩ : ∃ z, l[j]? = some z := ⟨_, List.getElem?_eq_getElem (by rw [HL.out]; exact hlt)⟩
        have hz := HZ.out z (List.mem_of_getElem? he)
        obtain ⟨hz0, hz9⟩ := hz
        have HST := Lib.hid (stepW_take 0 l j z he)
        have hgd : l.getD j 0 = z := by rw [List.getD_eq_getElem?_getD, he]; rfl
        obtain ⟨eb, eo, eA2, hq⟩ := HSJ.out.own.at_ (j := j) (by rw [HL.out]; exact hlt)
        rw [hgd] at hq
        subst eA2
        have HGD := Lib.hid hgd
        obtain ⟨nn, hnn⟩ : ∃ nn, nn = N + j := ⟨_, rfl⟩
        have lW : (W ++ (stepW 0 l).take j).length = N + j := by rw [List.length_append, HWL.out, List.length_take, stepW_len, HL.out]; omega
        have lP : (P ++ stepP x j).length = nn := by rw [List.length_append, HPL.out, stepP_len, hnn]
        have lE : (E ++ chainE N j).length ≤ 900 := by rw [List.length_append, chainE_len]; omega
        have CN := gnode_any base gb b1 b2 (n1 + 1) nz D1' Dz uW uE uP (W ++ (stepW 0 l).take j) (E ++ chainE N j) (P ++ stepP x j) (x : Int) (j : Int) (z - bb) wr _ _ (by omega) (by omega) HGJ.out HSJ.out
        rw [lP] at CN
        have HCN := Lib.hid CN
        have HNN := Lib.hid hnn
        have hn9 : nn ≤ 900 := by omega
        have HLE := Lib.hid lE
        clear CN he hgd lW lP lE hnn
        go_wp2_with fail
        refine HCN.out.mono ?_
        rintro e w3 ⟨rfl, uW', uP', hG3, hS3, b3, _⟩
        have HG3 := Lib.hid hG3
        have HS3 := Lib.hid hS3
        have HB3 := Lib.hid (HBJ.out.trans b3)
        have c4 := hG3.cell 4
        simp at c4
        clear hG3 hS3 b3 HCN hq HGJ HSJ HBJ
        cases j with
        | zero =>
          obtain ⟨v0, st, wx, wy, en1, en2, hm2, hg2⟩ := entry_put HG3.out.m2 (by omega) (x := (x : Int)) (v := (nn : Int)) (by omega) (by omega) (by omega) (by omega)
          have HG4 := Lib.hid (HG3.out.mapped2 hg2 hm2)
          have HS4 := Lib.hid (HS3.out.mapped HG3.out.m2 hg2)
          have HB4 := Lib.hid (HB3.out.trans (mapped_below HG3.out.le2 hg2 (Nat.le_trans hbw HB3.out.size)))
          have HT4 := Lib.hid (HTJ.out.over (v := nn))
          have HK4 : Hid ((Dz.put (.int .i64 (x : Int)) (.lit (.int .i64 (nn : Int)))).atKey (.int .i64 (x : Int)) (.lit (.int .i64 0)) = .lit (.int .i64 (nn : Int))) := Lib.hid (atKey_put_same HG3.out.m2.isMap (by simp [WideAt.IsKeyLit]) _ _)
          clear hm2 hg2 HG3 HS3 HB3
          go_wp2
          go_roundw
          case rel => exact ⟨1, nz + 1, z, _, uW', uE, uP', hlt, rfl, by go_num, hz0, hz9, by omega, Lib.hid HGD.out.symm, Lib.hid (by have h := HG4.out; rw [HST.out]; have hb := HBB.out; simp only [befE, if_true] at hb; rw [hb] at h; simpa [List.append_assoc, chainE_one, chainE_zero, stepP] using h), HS4, HT4, Lib.hid (fun _ => by rw [HK4.out, HNN.out]; simp), HB4⟩
          case measure => simp [intOf]; omega
        | succ i =>
          have CE := edge_any base gb b1 b2 (n1 + 1) nz D1' Dz uW' uE uP' _ (E ++ chainE N (i + 1)) _ ((nn : Int) - 1) (nn : Int) w3 _ _ HLE.out HG3.out HS3.out
          have HCE := Lib.hid CE
          clear CE
          go_wp2_with fail
          refine HCE.out.mono ?_
          rintro e w4 ⟨rfl, uE', hG4, hS4, b4, _⟩
          obtain ⟨v0, st, wx, wy, en1, en2, hm2, hg2⟩ := entry_put hG4.m2 (by omega) (x := (x : Int)) (v := (nn : Int)) (by omega) (by omega) (by omega) (by omega)
          have HG5 := Lib.hid (hG4.mapped2 hg2 hm2)
          have HS5 := Lib.hid (hS4.mapped hG4.m2 hg2)
          have HB5 := Lib.hid ((HB3.out.trans b4).trans (mapped_below hG4.le2 hg2 (Nat.le_trans hbw (HB3.out.trans b4).size)))
          have HT5 := Lib.hid (HTJ.out.over (v := nn))
          have HK5 : Hid ((Dz.put (.int .i64 (x : Int)) (.lit (.int .i64 (nn : Int)))).atKey (.int .i64 (x : Int)) (.lit (.int .i64 0)) = .lit (.int .i64 (nn : Int))) := Lib.hid (atKey_put_same hG4.m2.isMap (by simp [WideAt.IsKeyLit]) _ _)
          obtain ⟨Dq, hDq⟩ : ∃ D, D = Dz.put (.int .i64 (x : Int)) (.lit (.int .i64 (nn : Int))) := ⟨_, rfl⟩
          rw [← hDq] at HG5 HT5 HK5
          have c4' := hG4.cell 4
          simp at c4'
          clear hDq hm2 hg2 hG4 hS4 b4 HG3 HS3 HB3 HCE c4
          go_wp2
          go_roundw
          case rel => exact ⟨i + 2, nz + 1, z, _, uW', uE', uP', hlt, rfl, by go_num, hz0, hz9, by omega, Lib.hid HGD.out.symm, Lib.hid (by have h := HG5.out; have hn := HNN.out; rw [HST.out, chainE_succ, stepP_succ]; have hb := HBB.out; unfold befE at hb; rw [hb] at h; rw [show ((nn : Nat) : Int) - 1 = ((N + i : Nat) : Int) by omega, show ((nn : Nat) : Int) = ((N + i + 1 : Nat) : Int) by omega] at h; simpa [List.append_assoc] using h), HS5, HT5, Lib.hid (fun _ => by rw [HK5.out, HNN.out]; simp), HB5⟩
          case measure => simp [intOf]; omega
      · obtain rfl : m = j := by omega
        have htk : (stepW 0 l).take m = stepW 0 l := List.take_of_length_le (by rw [stepW_len, HL.out]; exact Nat.le_refl _)
        have hG := HGJ.out
        rw [htk] at hG
        have HGE := Lib.hid hG
        have HTE := Lib.hid (HTJ.out.last (HKJ.out (by omega)) HE2.out.symm)
        clear htk hG
        go_wp2
        go_end0
        exact ⟨rfl, _, _, _, _, _, _, _, HGE.out, HD1.out, HTE.out, Nat.le_refl _, hnz, HBJ.out⟩
end Go.Proofs.YtkmajhbfmdoamaaGreatDoor
set_option linter.unusedVariables false
namespace Go.Proofs.YtkmajhbfmdoamaaGreatDoor
open Go.RowKit

theorem ends_take {fs : List (Int × Int × Int)} {l : List Nat} {j k : Nat} (h : l[j]? = some k) : ((l.take (j + 1)).map fun k => (futAt fs k).2.2) = ((l.take j).map fun k => (futAt fs k).2.2) ++ [(futAt fs k).2.2] := by
  rw [List.take_add_one, h, List.map_append]
  rfl
theorem touL_lt {fs : List (Int × Int × Int)} {x : Int} {j k : Nat} (h : (touL fs x)[j]? = some k) : k < fs.length := (mem_touK.mp (List.mem_of_getElem? h)).1
set_option maxRecDepth 100000 in
set_option maxHeartbeats 8000000 in
theorem ends_any (s : Sh) (T : Task) (x : Nat) (w : World) (hD : IsD w s T) (hM : MayT T) (hx : x < T.parts.length) :
    Calls Tryz.prog 72 #[s.arg T.period T.deadline, .int .i64 (x : Int)] w (GotOwn (endsL T.futures T.parts x) w) := by
  obtain ⟨P, np, pc, E, ne, ec, F, nf, fc, R, nr, rc⟩ := s
  obtain ⟨p, q, ps, es, fs, bs⟩ := T
  have B0 := Lib.hid (BxI.start hD p q)
  have hm := hD.t.hf
  have hp := hD.t.hp
  have hl := hD.few.nf
  have hlp := hD.few.np
  simp only at hm hl hp hlp hx
  rw [hm] at hl
  rw [hp] at hlp hx
  have HM := Lib.hid hm
  have HP := Lib.hid hp
  have HV : touchesV ⟨p, q, ps, es, fs, bs⟩ (x : Int) = nums (touL fs (x : Int)) := by unfold touchesV; rw [if_pos hM]
  have C := fun W' (h : IsD W' ⟨P, np, pc, E, ne, ec, F, nf, fc, R, nr, rc⟩ ⟨p, q, ps, es, fs, bs⟩) => touches_any5 ⟨P, np, pc, E, ne, ec, F, nf, fc, R, nr, rc⟩ ⟨p, q, ps, es, fs, bs⟩ (x : Int) W' h
  rw [HV] at C
  have HC := Lib.hid C
  have hnt : (touL fs (x : Int)).length ≤ 400 := by have := touK_len fs (x : Int) 99; unfold touL; omega
  obtain ⟨nt, hntE⟩ : ∃ nt, nt = (touL fs (x : Int)).length := ⟨_, rfl⟩
  rw [← hntE] at hnt
  have HNT := Lib.hid hntE
  simp only [Sh.arg] at HC ⊢
  obtain ⟨w0, hw0⟩ : ∃ w0, w0 = w.alloc (.cells #[.int .i64 p, .int .i64 q, .slice P np pc, .slice E ne ec, .slice F nf fc, .slice R nr rc] 27) := ⟨_, rfl⟩
  rw [← hw0] at B0
  clear hD hm hp hM HV C hntE
  obtain ⟨c0, c1, c2, c3, c4, c5⟩ := B0.out.b.cells
  go_enter Tryz.func72, Tryz.ntmps72
  go_wp2_with fail
  rw [← hw0]
  clear hw0
  refine (HC.out _ B0.out.d).mono ?_
  rintro e w1 ⟨A, c, rfl, hO, b1⟩
  rw [nums_length, ← HNT.out] at hO ⊢
  have B1 := Lib.hid (B0.out.next b1)
  have HO := Lib.hid hO
  clear hO b1 HC B0 c0 c1 c2 c3 c4 c5
  go_wp2
  go_loopw [5, 12] (fun v i wr => ∃ (j c' : Nat) (A' : Option Addr), j ≤ nt ∧ i = .int .i64 (j : Int) ∧ v = .slice A' j c' ∧ Hid (OwnI wr w1.heap.size (.slice A' j c') (((touL fs (x : Int)).take j).map fun k => (futAt fs k).2.2)) ∧ Hid (Below w1.heap.size w1 wr)) (fun _ i _ => nt - (intOf i).toNat)
  case atStart => exact ⟨0, 0, none, Nat.zero_le _, rfl, rfl, Lib.hid (ownI_nil _ _), Lib.hid (Below.refl _ _)⟩
  case round =>
    obtain ⟨j, c', A', hj, rfl, rfl, HOJ, HBJ⟩ := hrel
    have HSZ := Lib.hid HBJ.out.size
    have B2 := Lib.hid (B1.out.next HBJ.out)
    have k2 := B2.out.b.c2
    have k4 := B2.out.b.c4
    have hlj : (((touL fs (x : Int)).take j).map fun k => (futAt fs k).2.2).length = j := by rw [List.length_map, List.length_take, ← HNT.out]; omega
    have HLJ := Lib.hid hlj
    by_cases hlt : j < nt
    · obtain ⟨k, hk⟩ : ∃ k, (touL fs (x : Int))[j]? = some k := ⟨_, List.getElem?_eq_getElem (by rw [← HNT.out]; exact hlt)⟩
      have hkf : k < nf := by have := touL_lt hk; rw [HM.out] at this; exact this
      have HET := Lib.hid (ends_take (fs := fs) hk)
      obtain ⟨gb, go, eA, hq⟩ := HO.out.at_ (j := j) (by rw [nums_length, ← HNT.out]; exact hlt)
      have hqv : (nums (touL fs (x : Int))).getD j 0 = (k : Int) := by unfold nums; rw [List.getD_eq_getElem?_getD, List.getElem?_map, hk]; rfl
      rw [hqv] at hq
      subst eA
      have hq1 : wr.cell? ⟨gb, go + j, none⟩ = some (.int .i64 (k : Int)) := (HBJ.out.cell (World.block_lt_of_cell? _ _ hq)).trans hq
      obtain ⟨fb, fo, f1, f2, f3, hFe, hfb, hft, d1, d2, d3⟩ := B2.out.d.t.futures.at_ (k := k) (by rw [HM.out]; exact hkf)
      simp only at hFe
      subst hFe
      have hfa : (futAt fs k).2.2 = f3 := by unfold futAt; rw [List.getD_eq_getElem?_getD, hft]; rfl
      have HFA := Lib.hid hfa
      clear hk hq hqv hft hfa hlj d1 d2
      go_wp2_with (at_builtin; refine wpList_push rfl _ _ rfl wr w1.heap.size _ _ f3 j HLJ.out (by omega) HOJ.out HSZ.out rfl rfl ?_; intro A4 c4' w4 HO4 HB4; (have HO4' := Lib.hid HO4); (have HB4' := Lib.hid (HBJ.out.trans HB4)); clear HO4 HB4)
      go_roundw
      case rel => exact ⟨j + 1, c4', A4, hlt, by go_num, rfl, Lib.hid (by rw [HET.out, HFA.out]; exact HO4'.out), HB4'⟩
      case measure => simp [intOf]; omega
    · obtain rfl : nt = j := by omega
      obtain ⟨pb, po, p1, p2, p3, hPe, hpb, hpt, d1, d2, d3⟩ := B2.out.d.t.parts.at_ (k := x) (by rw [HP.out]; exact hx)
      simp only at hPe
      subst hPe
      have htk : (touL fs (x : Int)).take nt = touL fs (x : Int) := List.take_of_length_le (by rw [← HNT.out]; exact Nat.le_refl _)
      have hpd : (ps.getD x (0, 0, 0)).2.2 = p3 := by rw [List.getD_eq_getElem?_getD, hpt]; rfl
      have HEL : Hid (endsL fs ps x = (((touL fs (x : Int)).take nt).map fun k => (futAt fs k).2.2) ++ [p3]) := Lib.hid (by unfold endsL; rw [htk, hpd])
      have HEN : Hid ((endsL fs ps x).length = nt + 1) := Lib.hid (by rw [endsL_len]; unfold nst; rw [← HNT.out])
      clear htk hpd hpt d1 d2 hlj
      go_wp2_with (at_builtin; refine wpList_push rfl _ _ rfl wr w1.heap.size _ _ p3 nt HLJ.out (by omega) HOJ.out HSZ.out rfl rfl ?_; intro A4 c4' w4 HO4 HB4; (have HO4' := Lib.hid HO4); (have HB4' := Lib.hid (HBJ.out.trans HB4)); clear HO4 HB4)
      go_ret
      refine ⟨A4, c4', by rw [HEN.out]; rfl, ?_, B1.out.b.bel.trans (HB4'.out.mono B1.out.b.bel.size)⟩
      rw [HEN.out, HEL.out]
      exact HO4'.out.down B1.out.b.bel.size
end Go.Proofs.YtkmajhbfmdoamaaGreatDoor
set_option linter.unusedVariables false
namespace Go.Proofs.YtkmajhbfmdoamaaGreatDoor
open Go.RowKit Go.Maps

theorem Ints.cell_ {w : World} {B j : Nat} {A : Option Addr} {l : List Int} (h : Ints w B A l) (hj : j < l.length) : ∃ b off, A = some ⟨b, off, none⟩ ∧ b < B ∧ w.cell? ⟨b, off + j, none⟩ = some (.int .i64 (l.getD j 0)) := by
  obtain ⟨b, off, e, hb, hc⟩ := h (by omega)
  exact ⟨b, off, e, hb, hc j hj⟩
set_option maxRecDepth 100000 in
/-- What 'm[k]' tells, where it tells. -/
theorem tells_run {w : World} {b n x k : Nat} {D : DataW Unit} {f : Nat → Nat} (h : OwnM w b n D) (ht : Tells D f x) (hk : k < x) (hx : x ≤ 1000000) : (Instr.lookup 109 (.map (some b)) (.int .i64 (k : Int)) false).run Tryz.prog w = .ok (.int .i64 ((f k : Nat) : Int)) w := by
  obtain ⟨c, hr, hat, _⟩ := h.lookup_int law_int Tryz.underlying109 Tryz.underlying3 (zero_int w) (key_int (n := (k : Int)) (by omega) (by omega))
  rw [ht k hk] at hat
  injection hat with h1
  injection h1 with _ h2
  rw [hr, h2]
def inE (fs : List (Int × Int × Int)) (n : Nat) (l : List Int) : List (Int × Int) := l.map fun i => (((lasN fs i.toNat : Nat) : Int), ((n : Nat) : Int))
def outE (fs : List (Int × Int × Int)) (n : Nat) (l : List Int) : List (Int × Int) := l.map fun i => (((n : Nat) : Int), ((firN fs i.toNat : Nat) : Int))
theorem take_in {fs : List (Int × Int × Int)} {n j k : Nat} {l : List Int} (h : l[j]? = some (k : Int)) : inE fs n (l.take (j + 1)) = inE fs n (l.take j) ++ [(((lasN fs k : Nat) : Int), ((n : Nat) : Int))] := by unfold inE; rw [List.take_add_one, h, List.map_append]; rfl
theorem take_out {fs : List (Int × Int × Int)} {n j k : Nat} {l : List Int} (h : l[j]? = some (k : Int)) : outE fs n (l.take (j + 1)) = outE fs n (l.take j) ++ [(((n : Nat) : Int), ((firN fs k : Nat) : Int))] := by unfold outE; rw [List.take_add_one, h, List.map_append]; rfl
set_option maxRecDepth 100000 in
set_option maxHeartbeats 16000000 in
theorem barrier_any (fs : List (Int × Int × Int)) (np base gb b1 b2 n1 n2 : Nat) (D1 D2 : DataW Unit) (vW vE vP : Value) (W : List Int) (E P : List (Int × Int)) (x N mi ci mo co : Nat) (Ai Ao : Option Addr) (li lo : List Int) (w : World) (hnp : np ≤ 400) (hW : W.length ≤ 400) (hP : P.length = N) (hN : N ≤ 400) (hE : E.length ≤ 500) (hx : x ≤ 400) (hli : li.length = mi) (hlo : lo.length = mo) (hmi : mi ≤ 100) (hmo : mo ≤ 100)
    (hzi : ∀ z ∈ li, 0 ≤ z ∧ z < (np : Int)) (hzo : ∀ z ∈ lo, 0 ≤ z ∧ z < (np : Int)) (h : Gl base gb b1 b2 n1 n2 D1 D2 vW vE vP W E P w) (hIi : Ints w base Ai li) (hIo : Ints w base Ao lo) (h1 : Tells D1 (firN fs) np) (h2 : Tells D2 (lasN fs) np) :
    Calls Tryz.prog 75 #[.pointer (some ⟨gb, 0, none⟩), .int .i64 (x : Int), .agg #[.slice Ai mi ci, .slice Ao mo co]] w fun e w' => e = .returned (.tuple #[]) ∧ ∃ vW' vE' vP', Gl base gb b1 b2 n1 n2 D1 D2 vW' vE' vP' (W ++ [1]) (E ++ (inE fs N li ++ outE fs N lo)) (P ++ [(-1, (x : Int))]) w' ∧ Below base w w' := by
  have hbw : base ≤ w.heap.size := by have := h.le; have := h.lt; omega
  obtain ⟨w0, hw0⟩ : ∃ w0, w0 = w.alloc (.cells #[.slice Ai mi ci, .slice Ao mo co] 69) := ⟨_, rfl⟩
  have hb0 : Below w.heap.size w w0 := by rw [hw0]; exact below_alloc _
  have hr0 : w0.heap[w.heap.size]? = some (.cells #[.slice Ai mi ci, .slice Ao mo co] 69 (0, 0)) := by rw [hw0]; exact heap_alloc_new w _
  have HR0 := Lib.hid hr0
  have HB0 := Lib.hid (hb0.mono hbw)
  have HG0 := Lib.hid (h.below hb0)
  have HI := Lib.hid hIi
  have HO := Lib.hid hIo
  have HT1 := Lib.hid h1
  have HT2 := Lib.hid h2
  have HLI := Lib.hid hli
  have HLO := Lib.hid hlo
  have HZI := Lib.hid hzi
  have HZO := Lib.hid hzo
  have CN := gnode_any base gb b1 b2 n1 n2 D1 D2 vW vE vP W E P (-1) (x : Int) 1 w0 _ _ (by omega) (by omega) HG0.out (Side.nil w0 base vW)
  rw [hP] at CN
  have HCN := Lib.hid CN
  clear h hb0 hr0 hIi hIo h1 h2 hli hlo hzi hzo CN hP
  go_enter Tryz.func75, Tryz.ntmps75
  go_wp2_with fail
  rw [← hw0]
  clear hw0
  refine HCN.out.mono ?_
  rintro e w1 ⟨rfl, uW, uP, hG1, _, b1', k1'⟩
  have HG1 := Lib.hid hG1
  have HB1 := Lib.hid (HB0.out.trans b1')
  have HK1 := Lib.hid k1'
  have hbx := k1' _ _ _ _ HR0.out (by decide) (by decide) (by decide) (by decide)
  have d0 := cell_of_row w1 w.heap.size 0 _ _ _ hbx
  have d1 := cell_of_row w1 w.heap.size 1 _ _ _ hbx
  simp at d0 d1
  clear hG1 b1' k1' hbx HCN HG0
  go_wp2
  go_loopw [18] (fun iv wr => ∃ (j : Nat) (vE' : Value), j ≤ mi ∧ iv = .int .i64 (j : Int) ∧ Hid (Gl base gb b1 b2 n1 n2 D1 D2 uW vE' uP (W ++ [1]) (E ++ inE fs N (li.take j)) (P ++ [(-1, (x : Int))]) wr) ∧ Hid (Below base w wr) ∧ Hid (Keeps w0 wr)) (fun iv _ => mi - (intOf iv).toNat)
  case atStart => exact ⟨0, _, Nat.zero_le _, rfl, Lib.hid (by have h := HG1.out; simpa [inE] using h), HB1, HK1⟩
  case round =>
    obtain ⟨j, vE', hj, rfl, HGJ, HBJ, HKJ⟩ := hrel
    clear HG1 HB1 HK1
    by_cases hlt : j < mi
    · obtain ⟨eb, eo, eA, heb, hq⟩ := HI.out.cell_ (j := j) (by rw [HLI.out]; exact hlt)
      have hqr := (HBJ.out.cell heb).trans hq
      obtain ⟨z, hz⟩ : ∃ z, li[j]? = some z := ⟨_, List.getElem?_eq_getElem (by rw [HLI.out]; exact hlt)⟩
      have hzv : li.getD j 0 = z := by rw [List.getD_eq_getElem?_getD, hz]; rfl
      obtain ⟨hz0, hz1⟩ := HZI.out z (List.mem_of_getElem? hz)
      obtain ⟨k, rfl⟩ : ∃ k : Nat, z = (k : Int) := ⟨z.toNat, by omega⟩
      rw [hzv] at hqr
      subst eA
      have hkn : k < np := by omega
      have HTK := Lib.hid (take_in (fs := fs) (n := N) hz)
      have c4 := HGJ.out.cell 4
      simp at c4
      have hlk := tells_run HGJ.out.m2 HT2.out hkn (by omega)
      have CE := edge_any base gb b1 b2 n1 n2 D1 D2 uW vE' uP (W ++ [1]) (E ++ inE fs N (li.take j)) (P ++ [(-1, (x : Int))]) ((lasN fs k : Nat) : Int) (N : Int) wr _ _ (by simp only [List.length_append, inE, outE, List.length_map, List.length_take]; omega) HGJ.out (Side.nil wr base uW)
      obtain ⟨nk, hnk⟩ : ∃ nk, nk = lasN fs k := ⟨_, rfl⟩
      rw [← hnk] at hlk CE HTK
      have HCE := Lib.hid CE
      clear hq hz hzv CE hnk
      go_wp2_with fail
      refine HCE.out.mono ?_
      rintro e w4 ⟨rfl, uE', hG4, _, b4, k4⟩
      have HG4 := Lib.hid hG4
      have HB4 := Lib.hid (HBJ.out.trans b4)
      have HK4 := Lib.hid (HKJ.out.trans k4)
      clear hG4 b4 k4 HCE hqr hlk HGJ HBJ HKJ
      go_wp2
      go_roundw
      case rel => exact ⟨j + 1, uE', hlt, by go_num, Lib.hid (by rw [HTK.out]; have h := HG4.out; simpa only [List.append_assoc] using h), HB4, HK4⟩
      case measure => simp [intOf]; omega
    · obtain rfl : mi = j := by omega
      have htk : li.take mi = li := List.take_of_length_le (by rw [HLI.out]; exact Nat.le_refl _)
      have hG := HGJ.out
      rw [htk] at hG
      have HGE := Lib.hid hG
      have hbx := HKJ.out _ _ _ _ HR0.out (by decide) (by decide) (by decide) (by decide)
      have d0 := cell_of_row wr w.heap.size 0 _ _ _ hbx
      have d1 := cell_of_row wr w.heap.size 1 _ _ _ hbx
      simp at d0 d1
      clear htk hG HGJ hbx
      go_wp2
      go_loopw [35] (fun iv wr => ∃ (j : Nat) (vE' : Value), j ≤ mo ∧ iv = .int .i64 (j : Int) ∧ Hid (Gl base gb b1 b2 n1 n2 D1 D2 uW vE' uP (W ++ [1]) (E ++ inE fs N li ++ outE fs N (lo.take j)) (P ++ [(-1, (x : Int))]) wr) ∧ Hid (Below base w wr) ∧ Hid (Keeps w0 wr)) (fun iv _ => mo - (intOf iv).toNat)
      case atStart => exact ⟨0, _, Nat.zero_le _, rfl, Lib.hid (by have h := HGE.out; simpa [outE] using h), HBJ, HKJ⟩
      case round =>
        obtain ⟨j, vE', hj, rfl, HGJ, HBJ, HKJ⟩ := hrel
        clear HGE
        by_cases hlt : j < mo
        · obtain ⟨eb, eo, eA, heb, hq⟩ := HO.out.cell_ (j := j) (by rw [HLO.out]; exact hlt)
          have hqr := (HBJ.out.cell heb).trans hq
          obtain ⟨z, hz⟩ : ∃ z, lo[j]? = some z := ⟨_, List.getElem?_eq_getElem (by rw [HLO.out]; exact hlt)⟩
          have hzv : lo.getD j 0 = z := by rw [List.getD_eq_getElem?_getD, hz]; rfl
          obtain ⟨hz0, hz1⟩ := HZO.out z (List.mem_of_getElem? hz)
          obtain ⟨k, rfl⟩ : ∃ k : Nat, z = (k : Int) := ⟨z.toNat, by omega⟩
          rw [hzv] at hqr
          subst eA
          have hkn : k < np := by omega
          have HTK := Lib.hid (take_out (fs := fs) (n := N) hz)
          have c3 := HGJ.out.cell 3
          simp at c3
          have hlk := tells_run HGJ.out.m1 HT1.out hkn (by omega)
          have CE := edge_any base gb b1 b2 n1 n2 D1 D2 uW vE' uP (W ++ [1]) (E ++ inE fs N li ++ outE fs N (lo.take j)) (P ++ [(-1, (x : Int))]) (N : Int) ((firN fs k : Nat) : Int) wr _ _ (by simp only [List.length_append, inE, outE, List.length_map, List.length_take]; rw [HLI.out]; omega) HGJ.out (Side.nil wr base uW)
          obtain ⟨nk, hnk⟩ : ∃ nk, nk = firN fs k := ⟨_, rfl⟩
          rw [← hnk] at hlk CE HTK
          have HCE := Lib.hid CE
          clear hq hz hzv CE hnk
          go_wp2_with fail
          refine HCE.out.mono ?_
          rintro e w4 ⟨rfl, uE', hG4, _, b4, k4⟩
          have HG4 := Lib.hid hG4
          have HB4 := Lib.hid (HBJ.out.trans b4)
          have HK4 := Lib.hid (HKJ.out.trans k4)
          clear hG4 b4 k4 HCE hqr hlk HGJ HBJ HKJ
          go_wp2
          go_roundw
          case rel => exact ⟨j + 1, uE', hlt, by go_num, Lib.hid (by rw [HTK.out]; have h := HG4.out; simpa only [List.append_assoc] using h), HB4, HK4⟩
          case measure => simp [intOf]; omega
        · obtain rfl : mo = j := by omega
          have htk : lo.take mo = lo := List.take_of_length_le (by rw [HLO.out]; exact Nat.le_refl _)
          have hG := HGJ.out
          rw [htk, List.append_assoc] at hG
          have HGF := Lib.hid hG
          clear htk hG
          go_wp2
          go_end0
          exact ⟨rfl, _, _, _, HGF.out, HBJ.out⟩
end Go.Proofs.YtkmajhbfmdoamaaGreatDoor
set_option linter.unusedVariables false
namespace Go.Proofs.YtkmajhbfmdoamaaGreatDoor

theorem fut_mem {ps fs : List (Int × Int × Int)} (hps : partsOk ps) (hf : FutsOk ps fs) {k : Nat} (hk : k < fs.length) : k ∈ touL fs (futAt fs k).2.1 := by
  have e : futAt fs k = fs[k] := by unfold futAt; rw [List.getD_eq_getElem?_getD, List.getElem?_eq_getElem hk]; rfl
  have h := hf.each fs[k] (List.getElem_mem hk)
  refine mem_touK.mpr ⟨hk, rfl, ?_, ?_⟩
  · rw [e]; exact h.first
  · rw [e]
    have hu := h.user
    have hul : fs[k].2.1.toNat < ps.length := by omega
    have h2 := h.last _ (List.getElem?_eq_getElem hul)
    have h3 := hps _ (List.getElem_mem hul)
    unfold partOk at h3
    omega
theorem stepW_at : ∀ (b : Int) (l : List Int) (p : Nat), p < l.length → (stepW b l).getD p 0 = l.getD p 0 - (if p = 0 then b else l.getD (p - 1) 0)
  | b, [], p, h => by simp at h
  | b, x :: l, 0, h => by simp [stepW]
  | b, x :: l, p + 1, h => by
    have ih := stepW_at x l p (by simpa using h)
    rw [stepW, List.getD_cons_succ, ih, List.getD_cons_succ, if_neg (by omega : ¬ p + 1 = 0)]
    cases p with
    | zero => simp
    | succ p => simp
theorem wPs_at {fs ps : List (Int × Int × Int)} {u p : Nat} (hp : p < nst fs u) : ∀ np, u < np → (wPs fs ps np).getD (firN fs u + p) 0 = (endsL fs ps u).getD p 0 - befE (endsL fs ps u) p
  | 0, h => by omega
  | x + 1, h => by
    rw [wPs]
    by_cases e : u = x
    · subst e
      rw [List.getD_eq_getElem?_getD, List.getElem?_append_right (by rw [wPs_len]; omega), wPs_len, Nat.add_sub_cancel_left, ← List.getD_eq_getElem?_getD, stepW_at 0 _ p (by rw [endsL_len]; exact hp)]
      rfl
    · have hl : firN fs u + p < (wPs fs ps x).length := by
        rw [wPs_len]
        have : firN fs (u + 1) ≤ firN fs x := by
          have : ∀ a b, a ≤ b → firN fs a ≤ firN fs b := fun a b hab => by
            induction b with
            | zero => simp [Nat.le_zero.mp hab]
            | succ b ih =>
              rcases Nat.lt_or_ge a (b + 1) with h1 | h1
              · have := ih (by omega)
                rw [firN]
                omega
              · rw [show a = b + 1 by omega]
                exact Nat.le_refl _
          exact this _ _ (by omega)
        rw [firN] at this
        omega
      rw [List.getD_eq_getElem?_getD, List.getElem?_append_left hl, ← List.getD_eq_getElem?_getD]
      exact wPs_at hp x (by omega)
theorem ends_at {fs ps : List (Int × Int × Int)} {u p k : Nat} (h : (touL fs (u : Int))[p]? = some k) : (endsL fs ps u).getD p 0 = (futAt fs k).2.2 := by
  have hp := (List.getElem?_eq_some_iff.mp h).1
  unfold endsL
  rw [List.getD_eq_getElem?_getD, List.getElem?_append_left (by rw [List.length_map]; exact hp), List.getElem?_map, h]
  rfl
/-- The way to a future's step: as many steps ahead of it as its place says, each ending ahead of its At. -/
structure FutWay (fs ps : List (Int × Int × Int)) (k u q : Nat) : Prop where
  lt : q < nst fs u
  hit : befE (endsL fs ps u) q = (futAt fs k).2.2
  ahead : ∀ p, p < q → befE (endsL fs ps u) p < (futAt fs k).2.2
  node : begN fs k = firN fs u + q
  nonneg : ∀ p, p ≤ q → 0 ≤ befE (endsL fs ps u) p
  small : (futAt fs k).2.2 ≤ 99
theorem pair_at {L : List Nat} {r : Nat → Nat → Prop} (hr : L.Pairwise r) {i j m k : Nat} (hij : i < j) (hi : L[i]? = some m) (hj : L[j]? = some k) : r m k := by
  obtain ⟨h1, rfl⟩ := List.getElem?_eq_some_iff.mp hi
  obtain ⟨h2, rfl⟩ := List.getElem?_eq_some_iff.mp hj
  exact List.pairwise_iff_getElem.mp hr i j h1 h2 hij
theorem idx_at {L : List Nat} {k : Nat} (h : k ∈ L) : L[L.idxOf k]? = some k ∧ L.idxOf k < L.length := by
  have hpos := List.idxOf_lt_length_iff.mpr h
  exact ⟨by rw [List.getElem?_eq_getElem hpos, List.getElem_idxOf hpos], hpos⟩
theorem fut_way {ps fs : List (Int × Int × Int)} (hps : partsOk ps) (hf : FutsOk ps fs) {k u : Nat} (hk : k < fs.length) (hu : (futAt fs k).2.1 = (u : Int)) : ∃ q, FutWay fs ps k u q := by
  have hm := fut_mem hps hf hk
  have hr : (touL fs (u : Int)).Pairwise fun i j => (futAt fs i).2.2 < (futAt fs j).2.2 := touL_rises (x := (u : Int)) hf.once 99
  have h1 : 1 ≤ (futAt fs k).2.2 := (mem_touK.mp hm).2.2.1
  have hn : begN fs k = firN fs u + ((touL fs (u : Int)).idxOf k + 1) := by unfold begN; rw [hu, Int.toNat_natCast, Nat.add_assoc]
  have hE : ∀ (p m : Nat), (touL fs (u : Int))[p]? = some m → (endsL fs ps u).getD p 0 = (futAt fs m).2.2 := fun p m h => ends_at h
  have hN : nst fs u = (touL fs (u : Int)).length + 1 := rfl
  have hQ : ∀ m ∈ touL fs (u : Int), 1 ≤ (futAt fs m).2.2 := fun m h => (mem_touK.mp h).2.2.1
  have h9 : (futAt fs k).2.2 ≤ 99 := (mem_touK.mp hm).2.2.2
  rw [hu] at hm
  generalize touL fs (u : Int) = L at hm hr hn hE hN hQ
  obtain ⟨hat, hpos⟩ := idx_at hm
  refine ⟨L.idxOf k + 1, ⟨by omega, ?_, fun p hp => ?_, hn, fun p hp => ?_, h9⟩⟩
  · unfold befE
    rw [if_neg (by omega), Nat.add_sub_cancel, hE _ _ hat]
  · unfold befE
    by_cases h0 : p = 0
    · rw [if_pos h0]; omega
    · rw [if_neg h0]
      have hj : L[p - 1]? = some L[p - 1] := List.getElem?_eq_getElem (by omega)
      rw [hE _ _ hj]
      exact pair_at hr (by omega : p - 1 < L.idxOf k) hj hat
  · unfold befE
    by_cases h0 : p = 0
    · rw [if_pos h0]; exact Int.le_refl _
    · rw [if_neg h0]
      have hj : L[p - 1]? = some L[p - 1] := List.getElem?_eq_getElem (by omega)
      rw [hE _ _ hj]
      have := hQ _ (List.getElem_mem (by omega : p - 1 < L.length))
      omega
end Go.Proofs.YtkmajhbfmdoamaaGreatDoor
