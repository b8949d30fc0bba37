/- trefoilref11.Fill in the seat YtmmogdccjiagnaaDoor: its contract (printed by list/mk_fill.py).
   A tick of a crew, node by node, core by core (plain), in the seat YtmmogdccjiagnaaDoor.
   No statement is proved here. -/
import Derived.Test.YtmmogdccjiagnaaDoorZM15
import Derived.Test.YtmmogdccjiagnaaDoorZM17
import Derived.Test.YtmmogdccjiagnaaDoorZM16
import Derived.BigRegion
import Derived.StillTailTactics
import Derived.Test.YtmmogdccjiagnaaDoorZM12
import Derived.Test.YtmmogdccjiagnaaDoorZM4
set_option linter.unusedSimpArgs false
set_option linter.unusedVariables false
set_option linter.unusedSimpArgs false
namespace Go.Proofs.YtmmogdccjiagnaaDoor
open Go Go.RowKit

def PhiFi (sb hb : Nat) (A : Option Addr) (n c : Nat) (F : Option Addr) (m d : Nat) (O L : List Int) : Nat → Value → World → Prop
  | 0, v, w => NewR 3 w hb v
  | 1, v, w => v = .pointer (some ⟨sb, 0, none⟩)
  | 2, v, w => v = .slice A n c
  | 3, v, w => OwnI w hb v O
  | 4, v, w => NewR 3 w hb v
  | 5, v, w => v = .pointer (some ⟨sb, 1, none⟩)
  | 6, v, w => v = .slice F m d
  | 7, v, w => OwnI w hb v L
  | 8, v, w => GBc hb n m O L v w
  | 9, v, w => GNc hb v w
  | 10, v, w => True
  | _, _, _ => True
theorem phiFi_below (sb hb : Nat) (A : Option Addr) (n c : Nat) (F : Option Addr) (m d : Nat) (O L : List Int) : ∀ kq v w w', PhiFi sb hb A n c F m d O L kq v w → Below w.heap.size w w' → PhiFi sb hb A n c F m d O L kq v w' := by
  intro kq v w w' h hb'
  match kq, h with
  | 0, h => exact NewR.below h hb'
  | 1, h => exact h
  | 2, h => exact h
  | 3, h => exact own_below h hb'
  | 4, h => exact NewR.below h hb'
  | 5, h => exact h
  | 6, h => exact h
  | 7, h => exact own_below h hb'
  | 8, h => exact GBc.below h hb'
  | 9, h => exact GNc.below h hb'
  | 10, h => exact h
  | kq + 11, h => exact trivial
section
variable {A : Option Addr} {n c : Nat} {F : Option Addr} {m d : Nat} {W : List Int} {E : List (Int × Int)} {A' : Option Addr} {n' c' : Nat} {F' : Option Addr} {m' d' : Nat} {O L : List Int}
set_option maxRecDepth 100000 in
set_option maxHeartbeats 16000000 in
theorem rfillC_any (wf : World) (hg : IsG wf A n c F m d W E) (hk : IsC wf A' n' c' F' m' d' O L) (hF : Fits W.length E) (hl : L.length = W.length) (hn0 : 0 < n') :
    Calls Tryd.prog 21 #[.agg #[.slice A n c, .slice F m d], .agg #[.slice A' n' c', .slice F' m' d']] wf fun e w' => ∃ A1 c1 F1 d1, e = .returned (.agg #[.slice A1 n' c1, .slice F1 m' d1]) ∧ OwnC w' wf.heap.size A1 n' c1 F1 m' d1 (fillC m' E L O) L ∧ Below wf.heap.size wf w' := by
  have CR := Lib.hid (fun W' {A1 c1 F1 d1 O1} (h1 : IsG W' A n c F m d W E) (h2 : IsC W' A1 n' c1 F1 m' d1 O1 L) => rreadyC_any W' h1 h2 hF hl)
  obtain ⟨w0, hw0⟩ : ∃ w0, w0 = ((wf.alloc (.cells #[.slice A n c, .slice F m d] 25)).alloc (.cells #[.slice A' n' c', .slice F' m' d'] 27)).alloc (.cells #[.slice none 0 0, .slice none 0 0] 27) := ⟨_, rfl⟩
  have B0 : Hid (BxDC wf A n c F m d W E A' n' c' F' m' d' O L w0 ∧ w0.heap[wf.heap.size + 1 + 1]? = some (.cells #[.slice none 0 0, .slice none 0 0] 27 (0, 0))) := Lib.hid (by
    have h1 := BxDC.start hg hk
    obtain ⟨v1, hv1⟩ : ∃ v1, v1 = (wf.alloc (.cells #[.slice A n c, .slice F m d] 25)).alloc (.cells #[.slice A' n' c', .slice F' m' d'] 27) := ⟨_, rfl⟩
    have s1 : v1.heap.size = wf.heap.size + 1 + 1 := by rw [hv1]; simp
    rw [← hv1] at h1 hw0
    have h2 := heap_alloc_new v1 (.cells #[.slice none 0 0, .slice none 0 0] 27)
    rw [s1, ← hw0] at h2
    exact ⟨h1.next (by rw [hw0]; exact below_alloc _), h2⟩)
  have HS0 : Hid (wf.heap.size + 1 + 1 < w0.heap.size) := Lib.hid (Array.getElem?_eq_some_iff.1 B0.out.2).1
  have HO := Lib.hid hk.hn
  have HM := Lib.hid hk.hm
  have ln := hk.ln
  have lm := hk.lm
  have HW := Lib.hid hw0
  clear hg hk hw0 hF hl
  go_enter Tryd.func21, Tryd.ntmps21
  go_wp2_with fail
  rw [← HW.out]
  clear HW
  refine wp_region_stored3 10 [8, 9, 10, 11, 12, 13, 14, 15, 16, 5, 1000] [] w0.heap.size 3 7 (by kernel_rfl) (by kernel_rfl) (by intro d hd; simp at hd ⊢; omega) (fun x => (BxDC wf A n c F m d W E A' n' c' F' m' d' O L x ∧ x.heap[wf.heap.size + 1 + 1]? = some (.cells #[.slice none 0 0, .slice none 0 0] 27 (0, 0))) ∧ Below w0.heap.size w0 x) (PhiFi (wf.heap.size + 1) w0.heap.size A' n' c' F' m' d' O L) (ThC w0 5 n' m' O L) (fun u v _ => 0 < m' → ApartV u v) (by decide) (fun o ho => by have hoo := Option.some.inj ho; subst hoo; exact ⟨⟨3, .chain⟩, by simp, rfl, by rfl⟩) (fun u v w w' h hb => h)
    (fun x y h hb => ⟨⟨h.1.1.next hb, by rw [hb.block _ (Array.getElem?_eq_some_iff.1 h.1.2).1]; exact h.1.2⟩, h.2.trans (hb.mono h.2.size)⟩) (phiFi_below (wf.heap.size + 1) w0.heap.size A' n' c' F' m' d' O L) (⟨⟨B0.out.1.next (Below.refl _ _).drew, by exact B0.out.2⟩, (Below.refl _ _).drew⟩) ?hstep ?hside ?hstore ?htheta ?hthetab (Nat.le_refl _) ?hend
  case hstep =>
    intro kq o hkp hkS ho a w hI hA hd hps K hK
    obtain ⟨ρ, hρ⟩ : ∃ ρ, a.eval = ρ := ⟨_, rfl⟩
    rw [hρ] at hA hd hps hK
    match kq, hkp, hkS, ho with
    | 0, _, _, ho =>
      have hoo := Option.some.inj ho
      subst hoo
      have hK := fun v w' h b => hK v w' h b (fun e => absurd e (by decide))
      exact fx_make hK hρ (.slice (some ⟨w.heap.size, 0, none⟩) 0 0) (w.alloc (.cells #[] 3)) (by simp [execOp, go_sem]) (newR_here _ w _ hI.2.size) (below_alloc _)
    | 1, _, _, ho =>
      have hoo := Option.some.inj ho
      subst hoo
      have hK := fun v w' h b => hK v w' h b (fun e => absurd e (by decide))
      exact fx_val hK hρ (.pointer (some ⟨wf.heap.size + 1, 0, none⟩)) (by have h := hA.tmp 3 (by decide); simp [execOp, h, go_sem]) rfl
    | 2, _, _, ho =>
      have hoo := Option.some.inj ho
      subst hoo
      have f1 : (ρ (.tmp 9)) = .pointer (some ⟨wf.heap.size + 1, 0, none⟩) := hd ⟨1, .data⟩ (by simp) (by rfl)
      have hK := fun v w' h b => hK v w' h b (fun e => absurd e (by decide))
      exact fx_val hK hρ _ (by have h0 := hI.1.1.c0; simp [execOp, f1, h0, go_sem]) rfl
    | 3, _, _, ho =>
      have hoo := Option.some.inj ho
      subst hoo
      have f0 : NewR 3 w w0.heap.size (ρ (.tmp 8)) := hd ⟨0, .data⟩ (by simp) (by rfl)
      have f2 : (ρ (.tmp 10)) = .slice A' n' c' := hd ⟨2, .data⟩ (by simp) (by rfl)
      have hK := fun v w' h b => hK v w' h b (fun e => absurd e (by decide))
      obtain ⟨v', w2, hr, how, hbb⟩ := fresh_ints f0 (hI.1.1.k).hn hn0 (hI.1.1.k).ln (hI.1.1.k).on (hI.1.1.k).hA
      exact fx_make hK hρ v' w2 (by simp [execOp, resolve, invoke, builtin, f2, hr, Result.andThen]) (how.down hI.2.size) hbb
    | 4, _, _, ho =>
      have hoo := Option.some.inj ho
      subst hoo
      have hK := fun v w' h b => hK v w' h b (fun e => absurd e (by decide))
      exact fx_make hK hρ (.slice (some ⟨w.heap.size, 0, none⟩) 0 0) (w.alloc (.cells #[] 3)) (by simp [execOp, go_sem]) (newR_here _ w _ hI.2.size) (below_alloc _)
    | 5, _, _, ho =>
      have hoo := Option.some.inj ho
      subst hoo
      have hK := fun v w' h b => hK v w' h b (fun e => absurd e (by decide))
      exact fx_val hK hρ (.pointer (some ⟨wf.heap.size + 1, 1, none⟩)) (by have h := hA.tmp 3 (by decide); simp [execOp, h, go_sem]) rfl
    | 6, _, _, ho =>
      have hoo := Option.some.inj ho
      subst hoo
      have f5 : (ρ (.tmp 13)) = .pointer (some ⟨wf.heap.size + 1, 1, none⟩) := hd ⟨5, .data⟩ (by simp) (by rfl)
      have hK := fun v w' h b => hK v w' h b (fun e => absurd e (by decide))
      exact fx_val hK hρ _ (by have h0 := hI.1.1.c1; simp [execOp, f5, h0, go_sem]) rfl
    | 7, _, _, ho =>
      have hoo := Option.some.inj ho
      subst hoo
      have f4 : NewR 3 w w0.heap.size (ρ (.tmp 12)) := hd ⟨4, .data⟩ (by simp) (by rfl)
      have f6 : (ρ (.tmp 14)) = .slice F' m' d' := hd ⟨6, .data⟩ (by simp) (by rfl)
      have f3 := hd ⟨3, .chain⟩ (by simp) (by rfl)
      obtain ⟨v', w2, hr, how, how2, hbb⟩ := fresh_ints0 f4 (hI.1.1.k).hm (hI.1.1.k).lm (hI.1.1.k).left (hI.1.1.k).hF hI.2.size
      exact fx_pair (Ψ := fun u v _ => 0 < m' → ApartV u v) hK hρ v' w2 (by simp [execOp, resolve, invoke, builtin, f6, hr, Result.andThen]) how (show 0 < m' → ApartV _ v' from fun hm b e1 e2 => by have h1 := (OwnI.blockLt f3 b e1).2; have h2 := ((how2 hm).blockLt b e2).1; omega) hbb
    | 8, _, _, ho =>
      have hoo := Option.some.inj ho
      subst hoo
      have f3 : OwnI w w0.heap.size (ρ (.tmp 11)) O := hd ⟨3, .data⟩ (by simp) (by rfl)
      have f7 : OwnI w w0.heap.size (ρ (.tmp 15)) L := hd ⟨7, .data⟩ (by simp) (by rfl)
      have hK := fun v w' h b => hK v w' h b (fun e => absurd e (by decide))
      have hap := hps ⟨7, .data⟩ (by simp) (by rfl) rfl
      obtain ⟨A1, a1, g3, _⟩ := OwnI.slice f3
      obtain ⟨A2, a2, g7, _⟩ := OwnI.slice f7
      rw [(hI.1.1.k).hn] at g3
      rw [(hI.1.1.k).hm] at g7
      exact fx_val hK hρ (.agg #[.slice A1 n' a1, .slice A2 m' a2]) (by simp [execOp, g3, g7, go_sem]) ⟨A1, a1, A2, a2, rfl, g3 ▸ f3, g7 ▸ f7, fun hm => g3 ▸ g7 ▸ hap hm⟩
    | 9, _, _, ho =>
      have hoo := Option.some.inj ho
      subst hoo
      have hK := fun v w' h b => hK v w' h b (fun e => absurd e (by decide))
      exact fx_make hK hρ (.pointer (some ⟨w.heap.size, 0, none⟩)) (w.alloc (.cells #[.slice none 0 0, .slice none 0 0] 27)) (by simp [execOp, go_sem]) ⟨_, rfl, hI.2.size, heap_alloc_new w _⟩ (below_alloc _)
    | 10, hkp, _, _ => exact absurd rfl hkp
    | kq + 11, _, _, ho => simp at ho
  case hside =>
    intro kq o hkS ho ρ w hbw hA hd
    exact absurd hkS (by simp)
  case hstore =>
    intro o ho a w hI hA hF hps K hK
    have hoo := Option.some.inj ho
    subst hoo
    exact stC (slot := 5) rfl rfl rfl (hF 9 (by decide) (by decide) (by decide)) (hF 8 (by decide) (by decide) (by decide)) hn0 hI.2 (fun w' h1 h2 h3 => hK w' h1 h2 (fun k hk => absurd hk (by simp)))
  case htheta =>
    intro f g w h hT
    exact ThC.slot hT (h 9 (by decide) (by decide) (by decide))
  case hthetab =>
    intro f w w' hT hb
    exact ThC.below hT hb
  case hend =>
    intro vals w1 hT hF
    obtain ⟨g, gO, FL, cO, cL, f5, hb1, hg1, hst⟩ := hT
    simp only [fillA, fillL, List.contains_cons, List.contains_nil, Nat.reduceBEq, Bool.or_false, Bool.false_or, Bool.or_true, Bool.true_or, cond_true, cond_false, Nat.zero_add, Nat.reduceAdd]
    rw [f5]
    have B1 : Hid ((BxDC wf A n c F m d W E A' n' c' F' m' d' O L w1 ∧ w1.heap[wf.heap.size + 1 + 1]? = some (.cells #[.slice none 0 0, .slice none 0 0] 27 (0, 0))) ∧ StC w0.heap.size g gO FL n' m' cO cL (fillK m' E L O 0) L w1) := Lib.hid ⟨⟨B0.out.1.next hb1, by rw [hb1.block _ (Array.getElem?_eq_some_iff.1 B0.out.2).1]; exact B0.out.2⟩, hst⟩
    have HG : Hid (w0.heap.size ≤ g) := Lib.hid hg1
    clear hF hst hb1 hg1 f5 B0
    go_wp2
    go_loopw [6] (fun i wr => ∃ j : Nat, j ≤ n' ∧ i = .int .i64 j ∧ Hid ((BxDC wf A n c F m d W E A' n' c' F' m' d' O L wr ∧ wr.heap[wf.heap.size + 1 + 1]? = some (.cells #[.slice none 0 0, .slice none 0 0] 27 (0, 0))) ∧ StC w0.heap.size g gO FL n' m' cO cL (fillK m' E L O j) L wr)) (fun i _ => n' - (intOf i).toNat)
    case atStart => exact ⟨0, Nat.zero_le _, rfl, B1⟩
    case round =>
      obtain ⟨j, hj, rfl, HB⟩ := hrel
      clear B1
      by_cases hlt : j < n'
      · obtain ⟨Oj, hOj⟩ : ∃ z, z = fillK m' E L O j := ⟨_, rfl⟩
        have HOJ := Lib.hid hOj
        have HB1 : Hid ((BxDC wf A n c F m d W E A' n' c' F' m' d' O L wr ∧ wr.heap[wf.heap.size + 1 + 1]? = some (.cells #[.slice none 0 0, .slice none 0 0] 27 (0, 0))) ∧ StC w0.heap.size g gO FL n' m' cO cL Oj L wr) := Lib.hid (by rw [hOj]; exact HB.out)
        have HNX : Hid (fillK m' E L O (j + 1) = fillOne m' E L Oj j) := Lib.hid (by rw [hOj]; rfl)
        clear HB hOj
        have p0 := HB1.out.1.1.d0
        have p1 := HB1.out.1.1.d1
        have x0 := HB1.out.2.x0
        have x1 := HB1.out.2.x1
        obtain ⟨zs, hzs⟩ : ∃ z, z = readyW E Oj L m' := ⟨_, rfl⟩
        obtain ⟨k, hk⟩ : ∃ k, k = zs.length := ⟨_, rfl⟩
        have HZ := Lib.hid (And.intro hzs hk)
        have hk4 : k ≤ m' := by rw [hk, hzs]; exact readyW_len E Oj L m'
        clear hzs hk
        go_wp2_with fail
        refine (CR.out _ HB1.out.1.1.g (HB1.out.2.isC ln lm)).mono ?_
        rintro e w2 hgot
        obtain ⟨A5, c5, he, hi5, b2⟩ := hgot.ints
        rw [← HZ.out.1, ← HZ.out.2] at he
        rw [← HZ.out.1] at hi5
        subst he
        have HB2 : Hid ((BxDC wf A n c F m d W E A' n' c' F' m' d' O L w2 ∧ w2.heap[wf.heap.size + 1 + 1]? = some (.cells #[.slice none 0 0, .slice none 0 0] 27 (0, 0))) ∧ StC w0.heap.size g gO FL n' m' cO cL Oj L w2) := Lib.hid ⟨⟨HB1.out.1.1.next b2, by rw [b2.block _ (Array.getElem?_eq_some_iff.1 HB1.out.1.2).1]; exact HB1.out.1.2⟩, HB1.out.2.next b2⟩
        have HI5 := Lib.hid hi5
        clear hgot b2 hi5 HB1 p0 p1 x0 x1
        have x0 := HB2.out.2.x0
        have x1 := HB2.out.2.x1
        obtain ⟨b3, o3, x, e3, hb3, hx, d3⟩ := HB2.out.2.rO.ints.at_ (k := j) (by have := HB2.out.2.rO.len_eq; omega)
        have HX : Hid (Oj.getD j 0 = x) := Lib.hid (by rw [List.getD_eq_getElem?_getD, hx]; rfl)
        obtain ⟨h31, h32⟩ : gO = b3 ∧ 0 = o3 := by
          injection e3 with e3
          injection e3 with e31 e32
          exact ⟨e31, e32⟩
        rw [← h31, ← h32, Nat.zero_add] at d3
        clear e3 hb3 hx h31 h32
        by_cases hx1 : x = -1
        · by_cases hk0 : k = 0
          · subst hx1
            have HN : Hid (fillK m' E L O (j + 1) = Oj) := Lib.hid (by
              have h0 : readyU m' E Oj L = [] := by
                have h1 := HZ.out.1
                have h2 := HZ.out.2
                rw [hk0, h1] at h2
                unfold readyW at h2
                rw [nums_length] at h2
                exact List.eq_nil_of_length_eq_zero h2.symm
              rw [HNX.out]
              unfold fillOne
              rw [h0]
              split <;> rfl)
            have HB3 : Hid ((BxDC wf A n c F m d W E A' n' c' F' m' d' O L w2 ∧ w2.heap[wf.heap.size + 1 + 1]? = some (.cells #[.slice none 0 0, .slice none 0 0] 27 (0, 0))) ∧ StC w0.heap.size g gO FL n' m' cO cL (fillK m' E L O (j + 1)) L w2) := Lib.hid (by rw [HN.out]; exact HB2.out)
            have hk0a : decide (0 < k) = false := decide_eq_false (by omega)
            have hk0b : decide ((0 : Int) < (k : Int)) = false := decide_eq_false (by omega)
            clear hk0 HB2
            go_wp2
            go_roundw
            case rel => exact ⟨j + 1, by omega, by go_num, HB3⟩
            case measure => simp [intOf]; omega
          · subst hx1
            have hkp : 0 < k := by omega
            obtain ⟨b5, o5, y, rfl, hb5, hy, d5⟩ := HI5.out.at_ (k := 0) (by rw [← HZ.out.2]; exact hkp)
            obtain ⟨q, rr, hq, rfl⟩ : ∃ (q : Nat) (rr : List Nat), readyU m' E Oj L = q :: rr ∧ y = (q : Int) := by
              have h1 := HZ.out.1
              unfold readyW at h1
              rw [h1] at hy
              cases hr : readyU m' E Oj L with
              | nil => rw [hr] at hy; cases hy
              | cons q rr =>
                rw [hr] at hy
                exact ⟨q, rr, rfl, (Option.some.inj hy).symm⟩
            have HN : Hid (fillK m' E L O (j + 1) = Oj.set j (q : Int)) := Lib.hid (by
              rw [HNX.out]
              unfold fillOne
              rw [if_pos HX.out, hq])
            have hqm : q < m' := (readyU_head hq).1
            have hk0a : decide (0 < k) = true := decide_eq_true hkp
            have hk0b : decide ((0 : Int) < (k : Int)) = true := decide_eq_true (by omega)
            rw [Nat.add_zero] at d5
            clear hk0 hb5 hy hq
            have hof := HB2.out.2.rO.frozenC j
            have hgO : w0.heap.size ≤ gO := by obtain ⟨_, _, h, _⟩ := HB2.out.2.rO.blockC; exact h
            have HP : Hid (∀ N, (BxDC wf A n c F m d W E A' n' c' F' m' d' O L ((w2.drewN N).setCell ⟨gO, j, none⟩ (.int .i64 (q : Int))) ∧ ((w2.drewN N).setCell ⟨gO, j, none⟩ (.int .i64 (q : Int))).heap[wf.heap.size + 1 + 1]? = some (.cells #[.slice none 0 0, .slice none 0 0] 27 (0, 0))) ∧ StC w0.heap.size g gO FL n' m' cO cL (fillK m' E L O (j + 1)) L ((w2.drewN N).setCell ⟨gO, j, none⟩ (.int .i64 (q : Int)))) := Lib.hid (fun N => by
              have hb3 : Below w0.heap.size w2 ((w2.drewN N).setCell ⟨gO, j, none⟩ (.int .i64 (q : Int))) := (below_drewN (Below.refl w0.heap.size w2) N).setCell hgO _
              refine ⟨⟨HB2.out.1.1.later (hb3.mono (by have := HS0.out; omega)), by rw [hb3.block _ HS0.out]; exact HB2.out.1.2⟩, ?_⟩
              rw [HN.out]
              exact (HB2.out.2.next (below_drewN (Below.refl _ _) N)).setO hlt (by omega) _)
            go_wp2
            go_region
            go_wp2
            go_roundw
            case rel => exact ⟨j + 1, by omega, by go_num, Lib.hid (HP.out _)⟩
            case measure => simp [intOf]; omega
        · have hx1a : (x == -1) = false := beq_eq_false_iff_ne.mpr hx1
          have HN : Hid (fillK m' E L O (j + 1) = Oj) := Lib.hid (by rw [HNX.out]; unfold fillOne; rw [if_neg (by rw [HX.out]; exact hx1)])
          have HB3 : Hid ((BxDC wf A n c F m d W E A' n' c' F' m' d' O L w2 ∧ w2.heap[wf.heap.size + 1 + 1]? = some (.cells #[.slice none 0 0, .slice none 0 0] 27 (0, 0))) ∧ StC w0.heap.size g gO FL n' m' cO cL (fillK m' E L O (j + 1)) L w2) := Lib.hid (by rw [HN.out]; exact HB2.out)
          clear hx1 HB2
          go_wp2
          go_roundw
          case rel => exact ⟨j + 1, by omega, by go_num, HB3⟩
          case measure => simp [intOf]; omega
      · obtain rfl : n' = j := by omega
        have x0 := HB.out.2.x0
        have x1 := HB.out.2.x1
        have r0 := cell_of_row wr (wf.heap.size + 1 + 1) 0 _ _ _ HB.out.1.2
        have r1 := cell_of_row wr (wf.heap.size + 1 + 1) 1 _ _ _ HB.out.1.2
        have z0 := frozen_of_row wr (wf.heap.size + 1 + 1) 0 _ _ HB.out.1.2
        have z1 := frozen_of_row wr (wf.heap.size + 1 + 1) 1 _ _ HB.out.1.2
        simp at r0 r1
        have HE : Hid (OwnC ((wr.setCell ⟨wf.heap.size + 1 + 1, 0, none⟩ (.slice (some ⟨gO, 0, none⟩) n' cO)).setCell ⟨wf.heap.size + 1 + 1, 1, none⟩ (.slice FL m' cL)) wf.heap.size (some ⟨gO, 0, none⟩) n' cO FL m' cL (fillC m' E L O) L ∧
            Below wf.heap.size wf ((wr.setCell ⟨wf.heap.size + 1 + 1, 0, none⟩ (.slice (some ⟨gO, 0, none⟩) n' cO)).setCell ⟨wf.heap.size + 1 + 1, 1, none⟩ (.slice FL m' cL)) ∧
            ((wr.setCell ⟨wf.heap.size + 1 + 1, 0, none⟩ (.slice (some ⟨gO, 0, none⟩) n' cO)).setCell ⟨wf.heap.size + 1 + 1, 1, none⟩ (.slice FL m' cL)).heap[wf.heap.size + 1 + 1]? = some (.cells #[.slice (some ⟨gO, 0, none⟩) n' cO, .slice FL m' cL] 27 (0, 0))) := Lib.hid (by
          have hoth := other_setC wr (wf.heap.size + 1 + 1) (.slice (some ⟨gO, 0, none⟩) n' cO) (.slice FL m' cL)
          have hfc : fillC m' E L O = fillK m' E L O n' := by unfold fillC; rw [HO.out]
          rw [hfc]
          have o1 := other_ownC HB.out.2.rO HB.out.1.2 (by decide) hoth
          have o2 := other_ownC HB.out.2.rL HB.out.1.2 (by decide) hoth
          have hlo := HS0.out
          exact ⟨⟨OwnI.down o1 (by omega), OwnI.down o2 (by omega), HB.out.2.rO.len_eq, HB.out.2.rL.len_eq, ln, lm⟩, HB.out.1.1.bel.trans (below_setC (by omega) _ _), row_setC HB.out.1.2 _ _⟩)
        go_wp2
        refine bodyPost_ret (v := .agg #[.slice (some ⟨gO, 0, none⟩) n' cO, .slice FL m' cL]) ?_ rfl ⟨_, _, _, _, rfl, HE.out.1, HE.out.2.1⟩
        exact results_cell_row rfl _ _ (wf.heap.size + 1 + 1) _ _ _ _ rfl HE.out.2.2 Tryd.underlying27 rfl (by kernel_rfl)
end
end Go.Proofs.YtmmogdccjiagnaaDoor
set_option linter.unusedVariables false
namespace Go.Proofs.YtmmogdccjiagnaaDoor

/-- Nodes below k are done with, and node k on the cores below j. -/
structure TickSt (O L : List Int) (k j : Nat) (Oc Lc Dc : List Int) : Prop where
  ho : Oc.length = O.length
  hl : Lc.length = L.length
  on : ∀ (i : Nat) (x : Int), O[i]? = some x → Oc[i]? = some (if ((0 ≤ x ∧ x < (k : Int)) ∨ (x = (k : Int) ∧ i < j)) ∧ leftC L x = 1 then -1 else x)
  left : ∀ q : Nat, q < L.length → leftC Lc (q : Int) = leftC L (q : Int) - if (q < k ∧ (q : Int) ∈ O) ∨ (q = k ∧ (k : Int) ∈ O.take j) then 1 else 0
  done : Dc = nums ((List.range k).filter fun x => decide ((x : Int) ∈ O ∧ leftC L (x : Int) = 1)) ++ if (k : Int) ∈ O.take j ∧ leftC L (k : Int) = 1 then [(k : Int)] else []
section
variable {O L Oc Lc Dc : List Int} {k j : Nat}
theorem TickSt.start (O L : List Int) : TickSt O L 0 0 O L [] := by
  refine ⟨rfl, rfl, fun i x h => ?_, fun q hq => ?_, ?_⟩
  · rw [h, if_neg]
    rintro ⟨⟨_, h1⟩ | ⟨_, h1⟩, _⟩ <;> omega
  · rw [if_neg]
    · omega
    · rintro (⟨h1, _⟩ | ⟨_, h1⟩)
      · omega
      · simp at h1
  · rw [if_neg (fun h => by simp at h)]
    rfl
/-- The node is through all cores. -/
theorem TickSt.up (h : TickSt O L k O.length Oc Lc Dc) : TickSt O L (k + 1) 0 Oc Lc Dc := by
  obtain ⟨ho, hl, on, left, done⟩ := h
  rw [List.take_length] at left done
  refine ⟨ho, hl, fun i x hx => ?_, fun q hq => ?_, ?_⟩
  · rw [on i x hx]
    have hi : i < O.length := (List.getElem?_eq_some_iff.1 hx).1
    congr 1
    by_cases h1 : leftC L x = 1
    · by_cases h2 : (0 ≤ x ∧ x < (k : Int)) ∨ (x = (k : Int) ∧ i < O.length)
      · rw [if_pos ⟨h2, h1⟩, if_pos ⟨.inl (by omega), h1⟩]
      · rw [if_neg (fun q => h2 q.1), if_neg]
        rintro ⟨q | q, _⟩ <;> omega
    · rw [if_neg (fun q => h1 q.2), if_neg (fun q => h1 q.2)]
  · rw [left q hq]
    congr 1
    by_cases h2 : (q < k ∧ (q : Int) ∈ O) ∨ (q = k ∧ (k : Int) ∈ O)
    · rw [if_pos h2, if_pos]
      rcases h2 with h2 | ⟨rfl, h2⟩
      · exact .inl ⟨by omega, h2.2⟩
      · exact .inl ⟨by omega, h2⟩
    · rw [if_neg h2, if_neg]
      rintro (⟨h3, h4⟩ | ⟨_, h4⟩)
      · apply h2
        rcases Nat.lt_or_ge q k with h5 | h5
        · exact .inl ⟨h5, h4⟩
        · obtain rfl : q = k := by omega
          exact .inr ⟨rfl, h4⟩
      · simp at h4
  · rw [done, if_neg (fun h : ((k + 1 : Nat) : Int) ∈ O.take 0 ∧ _ => by simp at h), List.append_nil, List.range_succ, List.filter_append]
    by_cases h1 : (k : Int) ∈ O ∧ leftC L (k : Int) = 1
    · rw [if_pos h1]
      simp [h1, nums]
    · rw [if_neg h1]
      simp [h1]
/-- A core that has another node. -/
theorem TickSt.skip (h : TickSt O L k j Oc Lc Dc) {x : Int} (hx : O[j]? = some x) (hne : x ≠ (k : Int)) : TickSt O L k (j + 1) Oc Lc Dc := by
  obtain ⟨ho, hl, on, left, done⟩ := h
  have hmem : (k : Int) ∈ O.take (j + 1) ↔ (k : Int) ∈ O.take j := by
    rw [List.take_add_one, hx, List.mem_append]
    simp only [Option.toList_some, List.mem_singleton]
    exact ⟨fun q => q.resolve_right (fun e => hne e.symm), .inl⟩
  refine ⟨ho, hl, fun i y hy => ?_, fun q hq => ?_, ?_⟩
  · rw [on i y hy]
    congr 1
    by_cases h1 : i = j
    · subst h1
      rw [hx] at hy
      obtain rfl := Option.some.inj hy
      by_cases h2 : (0 ≤ x ∧ x < (k : Int)) ∧ leftC L x = 1
      · rw [if_pos ⟨.inl h2.1, h2.2⟩, if_pos ⟨.inl h2.1, h2.2⟩]
      · rw [if_neg, if_neg]
        · rintro ⟨q | q, q2⟩
          · exact h2 ⟨q, q2⟩
          · exact hne q.1
        · rintro ⟨q | q, q2⟩
          · exact h2 ⟨q, q2⟩
          · exact hne q.1
    · have : (i < j + 1) ↔ (i < j) := by omega
      simp only [this]
  · rw [left q hq]
    simp only [hmem]
  · rw [done]
    simp only [hmem]
/-- The core that has it. -/
theorem TickSt.hit (h : TickSt O L k j Oc Lc Dc) (hx : O[j]? = some (k : Int)) (hk : k < L.length) (ho1 : O.count (k : Int) ≤ 1) :
    (leftC L (k : Int) = 1 → TickSt O L k (j + 1) (Oc.set j (-1)) (Lc.set k (leftC L (k : Int) - 1)) (Dc ++ [(k : Int)])) ∧ (leftC L (k : Int) ≠ 1 → TickSt O L k (j + 1) Oc (Lc.set k (leftC L (k : Int) - 1)) Dc) := by
  obtain ⟨ho, hl, on, left, done⟩ := h
  have hj : j < O.length := (List.getElem?_eq_some_iff.1 hx).1
  have hmem : (k : Int) ∈ O.take (j + 1) := by
    rw [List.take_add_one, hx, List.mem_append]
    exact .inr (by simp)
  have hnot : (k : Int) ∉ O.take j := fun hm => by
    obtain ⟨i, hi, he⟩ := List.getElem_of_mem hm
    rw [List.length_take] at hi
    rw [List.getElem_take] at he
    have h4 : O[i]? = some (k : Int) := by rw [List.getElem?_eq_getElem (by omega)]; exact congrArg some he
    have := idx_once ho1 hx h4
    omega
  have hleft : ∀ q : Nat, q < L.length → leftC (Lc.set k (leftC L (k : Int) - 1)) (q : Int) = leftC L (q : Int) - if (q < k ∧ (q : Int) ∈ O) ∨ (q = k ∧ (k : Int) ∈ O.take (j + 1)) then 1 else 0 := fun q hq => by
    rw [leftC_nat (Lc.set k _)]
    by_cases hqk : q = k
    · subst hqk
      rw [getD_set_self (by rw [hl]; exact hq), if_pos (.inr ⟨rfl, hmem⟩)]
    · rw [getD_set_ne (fun e => hqk e.symm), ← leftC_nat, left q hq]
      congr 1
      by_cases h1 : q < k ∧ (q : Int) ∈ O
      · rw [if_pos (.inl h1), if_pos (.inl h1)]
      · rw [if_neg, if_neg]
        · rintro (h2 | h2)
          · exact h1 h2
          · exact hqk h2.1
        · rintro (h2 | h2)
          · exact h1 h2
          · exact hqk h2.1
  have hother : ∀ i, i ≠ j → ∀ x, O[i]? = some x → Oc[i]? = some (if ((0 ≤ x ∧ x < (k : Int)) ∨ (x = (k : Int) ∧ i < j + 1)) ∧ leftC L x = 1 then -1 else x) := fun i hij x hi => by
    rw [on i x hi]
    have : (i < j + 1) ↔ (i < j) := by omega
    simp only [this]
  constructor
  · intro h1
    refine ⟨by rw [List.length_set]; exact ho, by rw [List.length_set]; exact hl, fun i x hi => ?_, hleft, ?_⟩
    · by_cases hij : i = j
      · subst hij
        rw [hx] at hi
        obtain rfl := Option.some.inj hi
        rw [List.getElem?_set_self (by omega), if_pos ⟨.inr ⟨rfl, by omega⟩, h1⟩]
      · rw [List.getElem?_set_ne (fun e => hij e.symm)]
        exact hother i hij x hi
    · rw [done, if_neg (fun q => hnot q.1), if_pos ⟨hmem, h1⟩, List.append_nil]
  · intro h1
    refine ⟨ho, by rw [List.length_set]; exact hl, fun i x hi => ?_, hleft, ?_⟩
    · by_cases hij : i = j
      · subst hij
        rw [on i x hi]
        rw [hx] at hi
        obtain rfl := Option.some.inj hi
        rw [if_neg (fun q => h1 q.2), if_neg (fun q => h1 q.2)]
      · exact hother i hij x hi
    · rw [done, if_neg (fun q => hnot q.1), if_neg (fun q => h1 q.2)]
theorem TickSt.end_ (h : TickSt O L L.length 0 Oc Lc Dc) (hO : ∀ x ∈ O, x = -1 ∨ (0 ≤ x ∧ x < (L.length : Int))) : Oc = onT O L ∧ Lc = leftT O L ∧ Dc = nums (doneT O L) := by
  obtain ⟨ho, hl, on, left, done⟩ := h
  refine ⟨?_, ?_, ?_⟩
  · refine List.ext_getElem? fun i => ?_
    unfold onT
    rw [List.getElem?_map]
    rcases Nat.lt_or_ge i O.length with hi | hi
    · have he := List.getElem?_eq_getElem hi
      rw [on i _ he, he]
      show _ = some (if O[i] ≠ -1 ∧ leftC L O[i] = 1 then -1 else O[i])
      congr 1
      rcases hO O[i] (List.getElem_mem hi) with h1 | h1
      · rw [if_neg, if_neg (fun q => q.1 h1)]
        rintro ⟨q | q, _⟩ <;> omega
      · by_cases h2 : leftC L O[i] = 1
        · rw [if_pos ⟨.inl h1, h2⟩, if_pos ⟨by omega, h2⟩]
        · rw [if_neg (fun q => h2 q.2), if_neg (fun q => h2 q.2)]
    · rw [List.getElem?_eq_none (by omega), List.getElem?_eq_none hi]; rfl
  · refine List.ext_getElem? fun i => ?_
    rcases Nat.lt_or_ge i L.length with hi | hi
    · have h1 := left i hi
      have h2 := leftT_at (O := O) hi
      rw [List.getElem?_eq_getElem (by omega), List.getElem?_eq_getElem (by rw [leftT_len]; exact hi)]
      congr 1
      rw [leftC_nat, List.getD_eq_getElem?_getD, List.getElem?_eq_getElem (by omega)] at h1
      rw [leftC_nat, List.getD_eq_getElem?_getD, List.getElem?_eq_getElem (by rw [leftT_len]; exact hi)] at h2
      simp only [Option.getD_some] at h1 h2
      rw [h1, h2]
      congr 1
      by_cases h3 : (i : Int) ∈ O
      · rw [if_pos (.inl ⟨hi, h3⟩), if_pos h3]
      · rw [if_neg, if_neg h3]
        rintro (q | q)
        · exact h3 q.2
        · omega
    · rw [List.getElem?_eq_none (by omega), List.getElem?_eq_none (by rw [leftT_len]; exact hi)]
  · rw [done, if_neg (fun q : ((L.length : Nat) : Int) ∈ O.take 0 ∧ _ => by simp at q), List.append_nil]
    rfl
end
end Go.Proofs.YtmmogdccjiagnaaDoor
