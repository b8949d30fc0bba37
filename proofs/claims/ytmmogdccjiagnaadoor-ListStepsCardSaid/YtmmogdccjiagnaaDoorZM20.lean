/- trefoilref11.Run in the seat YtmmogdccjiagnaaDoor: its contract, where needs are at most 300 all together.
   What the walks of layer 11's laws ask of the program's functions, in the seat YtmmogdccjiagnaaDoor (proved elsewhere); the chapter's example (plain).
   No statement is proved here. -/
import Derived.Test.YtmmogdccjiagnaaDoorZM17
import Derived.Test.YtmmogdccjiagnaaDoorZM18
import Derived.Test.YtmmogdccjiagnaaDoorZM19
set_option linter.unusedSimpArgs false
set_option linter.unusedVariables false
set_option linter.unusedSimpArgs false
namespace Go.Proofs.YtmmogdccjiagnaaDoor
open Go Go.RowKit

noncomputable def runV (W : List Int) (E : List (Int × Int)) (need : List Int) (cores : Int) : List (List Int) := if newE W E need cores = 0 then runR W.length E (List.replicate cores.toNat (-1)) need (lenR W.length E (List.replicate cores.toNat (-1)) need) else []
theorem run_key {n : Nat} {E : List (Int × Int)} {need : List Int} {cores : Nat} (hF : Fits n E) (hA : Acyc E) (hn : ∀ z ∈ need, 1 ≤ z ∧ z ≤ 1000) (h1 : 1 ≤ cores) (h8 : cores ≤ 8) (hl : need.length = n) :
    ∀ k : Nat, (∀ j, j < k → 0 < (crewK n E (List.replicate cores (-1)) need j).2.sum) → (crewK n E (List.replicate cores (-1)) need k).2.sum ≤ need.sum - k := by
  intro k
  induction k with
  | zero => intro _; show need.sum ≤ need.sum - ((0 : Nat) : Int); omega
  | succ k ih =>
    intro h
    have h2 := ih fun j hj => h j (by omega)
    have h3 := ((RunInv.all hF hn h1 h8 hl k).less hF hA (h k (by omega))).2
    omega
theorem run_end {n : Nat} {E : List (Int × Int)} {need : List Int} {cores k : Nat} (hF : Fits n E) (hA : Acyc E) (hn : ∀ z ∈ need, 1 ≤ z ∧ z ≤ 1000) (h1 : 1 ≤ cores) (h8 : cores ≤ 8) (hl : need.length = n)
    (hp : ∀ j, j < k → 0 < (crewK n E (List.replicate cores (-1)) need j).2.sum) (h0 : ¬ 0 < (crewK n E (List.replicate cores (-1)) need k).2.sum) : lenR n E (List.replicate cores (-1)) need = k := by
  obtain ⟨a, b, _⟩ := lenR_spec hF hA hn h1 h8 hl
  rcases Nat.lt_trichotomy (lenR n E (List.replicate cores (-1)) need) k with h | h | h
  · have := hp _ h; omega
  · exact h
  · have := b k h; omega
theorem take_sum_le : ∀ {l : List Int}, (∀ z ∈ l, 0 ≤ z) → ∀ j, 0 ≤ (l.take j).sum ∧ (l.take j).sum ≤ l.sum
  | [], _, j => by simp
  | a :: l, h, 0 => by
    have := sum_nonneg' h
    simpa using this
  | a :: l, h, j + 1 => by
    have h1 := h a List.mem_cons_self
    have h2 := take_sum_le (l := l) (fun z hz => h z (List.mem_cons_of_mem _ hz)) j
    rw [List.take_succ_cons, List.sum_cons, List.sum_cons]
    omega
theorem take_sum_step {l : List Int} {j : Nat} {z : Int} (h : l[j]? = some z) : (l.take (j + 1)).sum = (l.take j).sum + z := by
  rw [take_snoc' h, List.sum_append]
  simp
/-- In the middle of Run. -/
structure StRn (wf : World) (A : Option Addr) (n c : Nat) (F : Option Addr) (m d : Nat) (W : List Int) (E : List (Int × Int)) (gc : Nat) (A1 : Option Addr) (n1 c1 : Nat) (F1 : Option Addr) (m1 d1 : Nat) (O L : List Int) (x : World) : Prop where
  bel : Below wf.heap.size wf x
  g0 : IsG wf A n c F m d W E
  q0 : x.cell? ⟨wf.heap.size, 0, none⟩ = some (.slice A n c)
  q1 : x.cell? ⟨wf.heap.size, 1, none⟩ = some (.slice F m d)
  cr : x.heap[gc]? = some (.cells #[.slice A1 n1 c1, .slice F1 m1 d1] 27 (0, 0))
  hc : wf.heap.size + 1 ≤ gc
  k : OwnC x (wf.heap.size + 1) A1 n1 c1 F1 m1 d1 O L
section
variable {wf x y : World} {A : Option Addr} {n c : Nat} {F : Option Addr} {m d : Nat} {W : List Int} {E : List (Int × Int)} {gc : Nat} {A1 : Option Addr} {n1 c1 : Nat} {F1 : Option Addr} {m1 d1 : Nat} {O L : List Int}
theorem StRn.lt (h : StRn wf A n c F m d W E gc A1 n1 c1 F1 m1 d1 O L x) : wf.heap.size + 1 ≤ x.heap.size := by
  have := (Array.getElem?_eq_some_iff.1 h.cr).1
  have := h.hc
  omega
theorem StRn.g (h : StRn wf A n c F m d W E gc A1 n1 c1 F1 m1 d1 O L x) : IsG x A n c F m d W E := h.g0.below h.bel
theorem StRn.next (h : StRn wf A n c F m d W E gc A1 n1 c1 F1 m1 d1 O L x) (b : Below x.heap.size x y) : StRn wf A n c F m d W E gc A1 n1 c1 F1 m1 d1 O L y := by
  have hlt := h.lt
  exact ⟨h.bel.trans (b.mono h.bel.size), h.g0, (b.cell (by show wf.heap.size < _; omega)).trans h.q0, (b.cell (by show wf.heap.size < _; omega)).trans h.q1, by rw [b.block _ (Array.getElem?_eq_some_iff.1 h.cr).1]; exact h.cr, h.hc, h.k.next b⟩
/-- The crew is another one. -/
theorem StRn.store (h : StRn wf A n c F m d W E gc A1 n1 c1 F1 m1 d1 O L x) {A2 : Option Addr} {n2 c2 : Nat} {F2 : Option Addr} {m2 d2 : Nat} {O2 L2 : List Int} (h2 : OwnC x (wf.heap.size + 1) A2 n2 c2 F2 m2 d2 O2 L2) :
    StRn wf A n c F m d W E gc A2 n2 c2 F2 m2 d2 O2 L2 ((x.setCell ⟨gc, 0, none⟩ (.slice A2 n2 c2)).setCell ⟨gc, 1, none⟩ (.slice F2 m2 d2)) := by
  have hoth := other_setC x gc (.slice A2 n2 c2) (.slice F2 m2 d2)
  have hc := h.hc
  have hb : Below (wf.heap.size + 1) x ((x.setCell ⟨gc, 0, none⟩ (.slice A2 n2 c2)).setCell ⟨gc, 1, none⟩ (.slice F2 m2 d2)) := below_setC hc _ _
  exact ⟨h.bel.trans (hb.mono (by omega)), h.g0, (hb.cell (by show wf.heap.size < wf.heap.size + 1; omega)).trans h.q0, (hb.cell (by show wf.heap.size < wf.heap.size + 1; omega)).trans h.q1, row_setC h.cr _ _, hc,
    ⟨other_ownC h2.on h.cr (by decide) hoth, other_ownC h2.left h.cr (by decide) hoth, h2.hn, h2.hm, h2.ln, h2.lm⟩⟩
theorem OwnTr.otherC {b : Nat} {v : Value} {t : List (List Int)} {g : Nat} {cs : Array Value} (h : OwnTr x b v t) (hg : x.heap[g]? = some (.cells cs 27 (0, 0))) (hk : ∀ k, k ≠ g → y.heap[k]? = x.heap[k]?) : OwnTr y b v t := by
  obtain ⟨vs, h1, h2⟩ := h
  exact ⟨vs, other_ownC h1 hg (by decide) hk, fun k r hr => by
    obtain ⟨A1, c1, e1, e2⟩ := h2 k r hr
    exact ⟨A1, c1, e1, other_ownC e2 hg (by decide) hk⟩⟩
/-- One row more. -/
theorem StRn.grow (h : StRn wf A n c F m d W E gc A1 n1 c1 F1 m1 d1 O L x) {row : Option Nat} (hr : RXs 22 (wf.heap.size + 1) row x y) : StRn wf A n c F m d W E gc A1 n1 c1 F1 m1 d1 O L y := by
  have hb := hr.below h.lt
  exact ⟨h.bel.trans (hb.mono (by omega)), h.g0, (hb.cell (by show wf.heap.size < wf.heap.size + 1; omega)).trans h.q0, (hb.cell (by show wf.heap.size < wf.heap.size + 1; omega)).trans h.q1, hr.heap h.cr (by decide), h.hc,
    ⟨hr.own h.k.on (by decide), hr.own h.k.left (by decide), h.k.hn, h.k.hm, h.k.ln, h.k.lm⟩⟩
end
section
variable {A : Option Addr} {n c : Nat} {F : Option Addr} {m d : Nat} {W : List Int} {E : List (Int × Int)} {N : Option Addr} {nn nc : Nat} {need : List Int}
set_option maxRecDepth 100000 in
set_option maxHeartbeats 16000000 in
theorem rrunC_any (cores : Int) (wf : World) (hg : IsG wf A n c F m d W E) (hn : need.length = nn) (hl : nn ≤ 400) (hI : Ints wf wf.heap.size N need) (hN : N = none → nn = 0 ∧ nc = 0) (hs : newE W E need cores = 0 → need.sum ≤ 300) :
    Calls Tryd.prog 27 #[.agg #[.slice A n c, .slice F m d], .slice N nn nc, .int .i64 cores] wf fun e w' => ∃ T tc, e = .returned (.tuple #[.slice T (runV W E need cores).length tc, .int .i64 (newE W E need cores)]) ∧ Trc w' w'.heap.size T (runV W E need cores) ∧ (T = none → (runV W E need cores).length = 0 ∧ tc = 0) ∧ Below wf.heap.size wf w' := by
  obtain ⟨w0, hw0⟩ : ∃ w0, w0 = wf.alloc (.cells #[.slice A n c, .slice F m d] 25) := ⟨_, rfl⟩
  have HB0 : Hid (Below wf.heap.size wf w0) := Lib.hid (by rw [hw0]; exact below_alloc _)
  have HS0 : Hid (w0.heap.size = wf.heap.size + 1) := Lib.hid (by rw [hw0]; simp)
  have HD0 : Hid (w0.cell? ⟨wf.heap.size, 0, none⟩ = some (.slice A n c) ∧ w0.cell? ⟨wf.heap.size, 1, none⟩ = some (.slice F m d)) := Lib.hid (by
    constructor <;> (rw [hw0, World.cell?_alloc_at _ _ _ _ rfl]; rfl))
  have CN := Lib.hid (rnewC_any (nc := nc) cores w0 (hg.below HB0.out) hn hl ((hI.below HB0.out).more HB0.out.size) hN)
  have HG := Lib.hid hg
  have HI := Lib.hid hI
  have HN := Lib.hid hn
  have HW := Lib.hid hw0
  obtain ⟨ne, hne⟩ : ∃ z, z = newE W E need cores := ⟨_, rfl⟩
  rw [← hne] at hs ⊢
  have HNE := Lib.hid hne
  clear hg hI hn hw0 hne hN
  by_cases h0 : ne = 0
  · subst h0
    obtain ⟨hM, hFo⟩ := newE_zero.mp HNE.out.symm
    obtain ⟨kc, rfl⟩ : ∃ k : Nat, cores = k := ⟨cores.toNat, by have := hFo.2.2.1; omega⟩
    have hk1 : 1 ≤ kc := by have := hFo.2.2.1; omega
    have hk8 : kc ≤ 8 := by have := hFo.2.2.2; omega
    obtain ⟨nW, hnW⟩ : ∃ z, z = W.length := ⟨_, rfl⟩
    have HRUN : Hid (runV W E need kc = runR nW E (List.replicate kc (-1)) need (lenR nW E (List.replicate kc (-1)) need)) := Lib.hid (by unfold runV; rw [if_pos HNE.out.symm, Int.toNat_natCast, hnW])
    have HINV := Lib.hid (RunInv.all (n := nW) (E := E) (need := need) (cores := kc) (by rw [hnW]; exact hM.fits) hFo.2.1 hk1 hk8 (by rw [hnW]; exact hFo.1))
    have HLESS := Lib.hid (fun k (h : RunInv nW E need kc k) => h.less (by rw [hnW]; exact hM.fits) hM.acyc)
    have HEND := Lib.hid (fun k => run_end (n := nW) (E := E) (need := need) (cores := kc) (k := k) (by rw [hnW]; exact hM.fits) hM.acyc hFo.2.1 hk1 hk8 (by rw [hnW]; exact hFo.1))
    have HKEY := Lib.hid (run_key (n := nW) (E := E) (need := need) (cores := kc) (by rw [hnW]; exact hM.fits) hM.acyc hFo.2.1 hk1 hk8 (by rw [hnW]; exact hFo.1))
    have HFIT := Lib.hid hM.fits
    have HNW := Lib.hid hnW
    have HND : Hid (∀ z ∈ need, 0 ≤ z) := Lib.hid (fun z hz => by have := hFo.2.1 z hz; omega)
    obtain ⟨S, hS⟩ : ∃ z, z = need.sum := ⟨_, rfl⟩
    have hS3 : S ≤ 300 := by rw [hS]; exact hs rfl
    have hS0 : 0 ≤ S := by rw [hS]; exact sum_nonneg' HND.out
    have HSS := Lib.hid hS
    have HO0 : Hid (newO W E need kc = List.replicate kc (-1) ∧ newL W E need kc = need) := Lib.hid (by
      unfold newO newL
      rw [if_pos HNE.out.symm, if_pos HNE.out.symm, Int.toNat_natCast]
      exact ⟨rfl, rfl⟩)
    clear hM hFo hs hS hnW
    go_enter Tryd.func27, Tryd.ntmps27
    go_wp2_with fail
    rw [← HW.out]
    refine CN.out.mono ?_
    rintro e w1 ⟨A1, n1, c1, F1, m1, d1, he, hk, b1⟩
    rw [← HNE.out] at he
    subst he
    rw [HO0.out.1, HO0.out.2, HS0.out] at hk
    obtain ⟨gc, hgc⟩ : ∃ g, g = w1.heap.size := ⟨_, rfl⟩
    obtain ⟨w2, hw2⟩ : ∃ w2, w2 = w1.alloc (.cells #[.slice A1 n1 c1, .slice F1 m1 d1] 27) := ⟨_, rfl⟩
    have H2 : Hid (StRn wf A n c F m d W E gc A1 n1 c1 F1 m1 d1 (crewK nW E (List.replicate kc (-1)) need 0).1 (crewK nW E (List.replicate kc (-1)) need 0).2 w2) := Lib.hid (by
      have hba := below_alloc (w := w1) (.cells #[.slice A1 n1 c1, .slice F1 m1 d1] 27)
      have hna := heap_alloc_new w1 (.cells #[.slice A1 n1 c1, .slice F1 m1 d1] 27)
      rw [← hw2] at hba hna
      rw [← hgc] at hna
      have hb2 : Below w0.heap.size w0 w2 := b1.trans (hba.mono b1.size)
      have := HS0.out
      exact ⟨HB0.out.trans (hb2.mono HB0.out.size), HG.out, (hb2.cell (by show wf.heap.size < _; omega)).trans HD0.out.1, (hb2.cell (by show wf.heap.size < _; omega)).trans HD0.out.2, hna, by have := b1.size; omega, hk.next hba⟩)
    have HI2 := Lib.hid ((HI.out.below H2.out.bel).more H2.out.bel.size)
    have HGC := Lib.hid hgc
    have HW2 := Lib.hid hw2
    clear hk b1 hgc hw2
    go_wp2
    rw [← HW2.out, ← HGC.out]
    obtain ⟨w3, hw3⟩ : ∃ w3, w3 = w2.alloc (.cells #[] 22) := ⟨_, rfl⟩
    have hb3 : Below w2.heap.size w2 w3 := by rw [hw3]; exact below_alloc _
    have H3 := Lib.hid (H2.out.next hb3)
    have HT3 : Hid (OwnTr w3 (wf.heap.size + 1) (.slice (some ⟨gc + 1, 0, none⟩) 0 0) (runR nW E (List.replicate kc (-1)) need 0)) := Lib.hid (by
      have hz : w2.heap.size = gc + 1 := by rw [HW2.out, HGC.out]; simp
      rw [hw3, ← hz]; exact OwnTr.new w2 _ H2.out.lt)
    have HI3 := Lib.hid ((HI2.out.below hb3).more hb3.size)
    rw [← hw3]
    clear hw3 hb3 H2 HI2 HW2 HGC
    go_loop [11, 12] (fun l i => ∃ (j : Nat) (a : Int), j ≤ nn ∧ i = .int .i64 j ∧ l = .int .i64 a ∧ Hid (a = (need.take j).sum)) (fun _ i => nn - (intOf i).toNat)
    case atStart => exact ⟨0, 0, Nat.zero_le _, rfl, rfl, Lib.hid (by simp)⟩
    case round =>
      obtain ⟨j, a, hj, rfl, rfl, HA⟩ := hrel
      by_cases hlt : j < nn
      · obtain ⟨bk, off, z, rfl, hbk, hz, d1'⟩ := HI3.out.at_ (k := j) (by rw [HN.out]; exact hlt)
        have HA2 : Hid (a + z = (need.take (j + 1)).sum) := Lib.hid (by rw [take_sum_step hz, HA.out])
        obtain ⟨hb1, hb2⟩ : 0 ≤ a + z ∧ a + z ≤ 300 := by
          have := take_sum_le HND.out (j + 1)
          rw [HA2.out]
          rw [HSS.out] at hS3
          omega
        clear hbk hz HA
        go_wp2
        go_round
        case rel => exact ⟨j + 1, a + z, by omega, by go_num, by go_num, HA2⟩
        case measure => simp [intOf]; omega
      · obtain rfl : nn = j := by omega
        obtain rfl : a = S := by rw [HA.out, HSS.out, List.take_of_length_le (by rw [HN.out]; exact Nat.le_refl _)]
        have hgt : decide ((4096 : Int) < a) = false := decide_eq_false (by omega)
        have HST0 : Hid (a = (crewK nW E (List.replicate kc (-1)) need 0).2.sum) := Lib.hid HSS.out
        clear HA HI3
        go_wp2
        go_loopw [10, 11] (fun vt l wr => ∃ (k : Nat) (A1 : Option Addr) (n1 c1 : Nat) (F1 : Option Addr) (m1 d1 : Nat) (tA : Option Addr) (tc : Nat) (Ok Lk : List Int) (s : Int), l = .int .i64 s ∧ vt = .slice tA k tc ∧ 0 ≤ s ∧ s ≤ 300 ∧ Hid (s = Lk.sum ∧ Ok = (crewK nW E (List.replicate kc (-1)) need k).1 ∧ Lk = (crewK nW E (List.replicate kc (-1)) need k).2 ∧ ∀ j, j < k → 0 < (crewK nW E (List.replicate kc (-1)) need j).2.sum) ∧
          Hid (StRn wf A n c F m d W E gc A1 n1 c1 F1 m1 d1 Ok Lk wr) ∧ Hid (OwnTr wr (wf.heap.size + 1) (.slice tA k tc) (runR nW E (List.replicate kc (-1)) need k))) (fun _ l _ => (intOf l).toNat)
        case atStart => exact ⟨0, A1, n1, c1, F1, m1, d1, _, _, _, _, a, rfl, rfl, hS0, hS3, Lib.hid ⟨HST0.out, rfl, rfl, fun j hj => absurd hj (by omega)⟩, H3, HT3⟩
        case round =>
          clear H3 HT3 HST0
          obtain ⟨k, A1, n1, c1, F1, m1, d1, tA, tc, Ok, Lk, s, rfl, rfl, hs0, hs3, HC, HB, HT⟩ := hrel
          have x0 := cell_of_row wr gc 0 _ _ _ HB.out.cr
          have x1 := cell_of_row wr gc 1 _ _ _ HB.out.cr
          simp at x0 x1
          by_cases hp : 0 < s
          · have hpb : decide (0 < s) = true := decide_eq_true hp
            have hok : CrewOk nW E Ok Lk := by rw [HC.out.2.1, HC.out.2.2.1]; exact (HINV.out k).ok
            have HOK := Lib.hid hok
            have hn0 : 0 < n1 := by have := hok.lo; have := HB.out.k.hn; omega
            have hn4 := HB.out.k.ln
            obtain rfl : nW = m1 := by rw [← HB.out.k.hm, hok.ln]
            have hk3 : k ≤ 300 := by
              have := HKEY.out k HC.out.2.2.2
              rw [← HC.out.2.2.1, ← HC.out.1, ← HSS.out] at this
              omega
            have hLW : Lk.length = W.length := by rw [hok.ln, HNW.out]
            have HNX : Hid (rowK nW E (List.replicate kc (-1)) need k = fillC nW E Lk Ok) := Lib.hid (by unfold rowK; rw [← HC.out.2.1, ← HC.out.2.2.1])
            have HPOS : Hid (0 < (crewK nW E (List.replicate kc (-1)) need k).2.sum) := Lib.hid (by rw [← HC.out.2.2.1, ← HC.out.1]; exact hp)
            have q0 := HB.out.q0
            have q1 := HB.out.q1
            clear hok
            go_wp2_with fail
            refine (rfillC_any wr HB.out.g HB.out.k.isC HFIT.out hLW hn0).mono ?_
            rintro e w2 ⟨A2, c2, F2, d2, rfl, hk2, b2⟩
            obtain ⟨R, hR⟩ : ∃ z, z = fillC nW E Lk Ok := ⟨_, rfl⟩
            rw [← hR] at hk2
            have HRR := Lib.hid hR
            have HB2 := Lib.hid (HB.out.next b2)
            have HK2 := Lib.hid (hk2.down HB.out.lt)
            have HT2 := Lib.hid (HT.out.below b2)
            have hRn : R.length = n1 := hk2.hn
            have HB3 := Lib.hid (HB2.out.store HK2.out)
            have HT3 := Lib.hid (HT2.out.otherC HB2.out.cr (other_setC w2 gc (.slice A2 n1 c2) (.slice F2 nW d2)))
            have y0 := cell_of_row w2 gc 0 _ _ _ HB2.out.cr
            have y1 := cell_of_row w2 gc 1 _ _ _ HB2.out.cr
            have z0 := frozen_of_row w2 gc 0 _ _ HB2.out.cr
            have z1 := frozen_of_row w2 gc 1 _ _ HB2.out.cr
            have u0 := cell_of_row _ gc 0 _ _ _ HB3.out.cr
            have u1 := cell_of_row _ gc 1 _ _ _ HB3.out.cr
            simp at y0 y1 u0 u1
            have hgc : gc < (((w2.setCell ⟨gc, 0, none⟩ (.slice A2 n1 c2)).setCell ⟨gc, 1, none⟩ (.slice F2 nW d2))).heap.size := (Array.getElem?_eq_some_iff.1 HB3.out.cr).1
            have hgc2 : gc < w2.heap.size := (Array.getElem?_eq_some_iff.1 HB2.out.cr).1
            clear hk2 b2 hR q0 q1 x0 x1
            go_wp2_with (at_builtin; first
              | (refine wpList_own rfl _ _ rfl ((w2.setCell ⟨gc, 0, none⟩ (.slice A2 n1 c2)).setCell ⟨gc, 1, none⟩ (.slice F2 nW d2)) (((w2.setCell ⟨gc, 0, none⟩ (.slice A2 n1 c2)).setCell ⟨gc, 1, none⟩ (.slice F2 nW d2))).heap.size A2 c2 n1 R hRn (by omega) HB3.out.k.isC.on (Nat.le_refl _) (fun q => (HB3.out.k.isC.hA q).2) (by first | rfl | simp [Act.eval]) (by first | rfl | simp [Act.eval]) ?_; intro A4 c4 w4 ho4 hb4; (have HO4 := Lib.hid ho4); (have HB4 := Lib.hid hb4); (have HST4 := Lib.hid (HB3.out.next hb4)); (have HT4 := Lib.hid (HT3.out.below hb4)); (have hl4 := HST4.out.lt); clear ho4 hb4)
              | (obtain ⟨vs, hv1, hv2⟩ := HT4.out; (have HV2 := Lib.hid hv2); rw [runR_len] at hv1; (have HVL := Lib.hid hv1.1);
                 refine wpList_pushXs rfl _ _ 22 48 1 24 (.slice none 0 0) Tryd.underlying48 rows_cell_infoS rfl (by omega) (by omega) rfl rfl w4 (wf.heap.size + 1) k _ vs [.slice A4 n1 c4] hv1 rfl (by simp [Value.oneCell']) (by omega) hl4 (by first | rfl | simp [Act.eval]) (by first | rfl | simp [Act.eval]) ?_; intro T5 tc5 w5 ho5 hr5 ha5; (have HO5 := Lib.hid ho5); (have HR5 := Lib.hid hr5); (have HB5 := Lib.hid (HST4.out.grow hr5)); (have x0 := cell_of_row w5 gc 0 _ _ _ HB5.out.cr); (have x1 := cell_of_row w5 gc 1 _ _ _ HB5.out.cr); simp at x0 x1; clear ho5 hr5 ha5 hv1 hv2 y0 y1 z0 z1 u0 u1 hgc hgc2))
            have HT5 : Hid (OwnTr w5 (wf.heap.size + 1) (.slice T5 (k + 1) tc5) (runR nW E (List.replicate kc (-1)) need (k + 1))) := Lib.hid (by
              refine ⟨vs ++ [.slice A4 n1 c4], ?_, fun j r hj => ?_⟩
              · rw [runR_len]; exact HO5.out
              · have hvl : vs.length = k := by have := HVL.out; omega
                rw [runR_succ] at hj
                rcases Nat.lt_or_ge j k with h1 | h1
                · rw [List.getElem?_append_left (by rw [runR_len]; exact h1)] at hj
                  obtain ⟨A8, c8, e1, e2⟩ := HV2.out j r hj
                  exact ⟨A8, c8, by rw [List.getElem?_append_left (by omega)]; exact e1, HR5.out.own e2 (by decide)⟩
                · rw [List.getElem?_append_right (by rw [runR_len]; exact h1), runR_len] at hj
                  obtain rfl : j = k := by
                    have := (List.getElem?_eq_some_iff.1 hj).1
                    simp at this
                    omega
                  rw [Nat.sub_self] at hj
                  obtain rfl : rowK nW E (List.replicate kc (-1)) need j = r := Option.some.inj hj
                  rw [HNX.out, ← HRR.out, hRn]
                  exact ⟨A4, c4, by rw [← hvl]; simp, HR5.out.own (HO4.out.down HB3.out.lt) (by decide)⟩)
            clear HO5 HR5 HST4 HT4 HV2 HVL HB4 HO4 HT3 HB3 HK2 HB2 HT2
            have HOK2 := Lib.hid HOK.out.fill
            rw [← HRR.out] at HOK2
            have hL3 : Lk.length = nW := HOK.out.ln
            refine (rtickC_any w5 HB5.out.k.isC hn0 (fun x hx => by rw [hL3]; exact (HOK2.out.on x hx).imp id (fun h => h.1)) HOK2.out.once HOK.out.left).mono ?_
            rintro e w6 ⟨A6, c6, F6, d6, A7, c7, rfl, hk6, hi7, b6⟩
            have HB6 := Lib.hid (HB5.out.next b6)
            have HT6 := Lib.hid (HT5.out.below b6)
            have HB7 := Lib.hid (HB6.out.store (hk6.down HB5.out.lt))
            have HT7 := Lib.hid (HT6.out.otherC HB6.out.cr (other_setC w6 gc (.slice A6 n1 c6) (.slice F6 nW d6)))
            have y0 := cell_of_row w6 gc 0 _ _ _ HB6.out.cr
            have y1 := cell_of_row w6 gc 1 _ _ _ HB6.out.cr
            have z0 := frozen_of_row w6 gc 0 _ _ HB6.out.cr
            have z1 := frozen_of_row w6 gc 1 _ _ HB6.out.cr
            simp at y0 y1
            clear hk6 hi7 b6 x0 x1 HB5 HT5
            go_wp2
            obtain ⟨w7, hw7⟩ : ∃ w7, w7 = ((w6.setCell ⟨gc, 0, none⟩ (.slice A6 n1 c6)).setCell ⟨gc, 1, none⟩ (.slice F6 nW d6)) := ⟨_, rfl⟩
            rw [← hw7] at HB7 HT7 ⊢
            have hNXT : onT R Lk = (crewK nW E (List.replicate kc (-1)) need (k + 1)).1 ∧ leftT R Lk = (crewK nW E (List.replicate kc (-1)) need (k + 1)).2 := by
              constructor
              · show _ = onT (rowK nW E (List.replicate kc (-1)) need k) (crewK nW E (List.replicate kc (-1)) need k).2
                rw [HNX.out, ← HRR.out, ← HC.out.2.2.1]
              · show _ = leftT (rowK nW E (List.replicate kc (-1)) need k) (crewK nW E (List.replicate kc (-1)) need k).2
                rw [HNX.out, ← HRR.out, ← HC.out.2.2.1]
            have HNXT := Lib.hid hNXT
            obtain ⟨Ln, hLn⟩ : ∃ z, z = leftT R Lk := ⟨_, rfl⟩
            have HLN := Lib.hid hLn
            have HLNN : Hid (∀ z ∈ Ln, 0 ≤ z) := Lib.hid (by
              rw [hLn, hNXT.2]
              exact fun z hz => ((HINV.out (k + 1)).ok.left z hz).1)
            have hsum : Ln.sum < s := by
              rw [hLn, hNXT.2, HC.out.1, HC.out.2.2.1]
              exact (HLESS.out k (HINV.out k) HPOS.out).2
            have hlen : Ln.length = nW := by rw [hLn, leftT_len]; exact hL3
            have HLEN := Lib.hid hlen
            have HSUM := Lib.hid hsum
            rw [← hLn] at HB7
            have x0 := cell_of_row w7 gc 0 _ _ _ HB7.out.cr
            have x1 := cell_of_row w7 gc 1 _ _ _ HB7.out.cr
            simp at x0 x1
            have hnW4 := HB7.out.k.lm
            clear hw7 y0 y1 z0 z1 HB6 HT6 hNXT hLn hsum hlen HB HT
            go_loop [11, 13] (fun l i => ∃ (j : Nat) (a : Int), j ≤ nW ∧ i = .int .i64 j ∧ l = .int .i64 a ∧ Hid (a = (Ln.take j).sum)) (fun _ i => nW - (intOf i).toNat)
            case atStart => exact ⟨0, 0, Nat.zero_le _, rfl, rfl, Lib.hid (by simp)⟩
            case round =>
              obtain ⟨j, a', hj, rfl, rfl, HA⟩ := hrel
              by_cases hlt : j < nW
              · obtain ⟨bk, off, z, rfl, hbk, hz, dz⟩ := HB7.out.k.isC.left.at_ (k := j) (by rw [HLEN.out]; exact hlt)
                have HA2 : Hid (a' + z = (Ln.take (j + 1)).sum) := Lib.hid (by rw [take_sum_step hz, HA.out])
                obtain ⟨hb1, hb2⟩ : 0 ≤ a' + z ∧ a' + z ≤ 300 := by
                  have := take_sum_le HLNN.out (j + 1)
                  have := HSUM.out
                  rw [HA2.out]
                  omega
                clear hbk hz HA
                go_wp2
                go_round
                case rel => exact ⟨j + 1, a' + z, by omega, by go_num, by go_num, HA2⟩
                case measure => simp [intOf]; omega
              · obtain rfl : nW = j := by omega
                have ha : a' = Ln.sum := by rw [HA.out, List.take_of_length_le (by rw [HLEN.out]; exact Nat.le_refl _)]
                have ha0 : 0 ≤ a' := by rw [ha]; exact sum_nonneg' HLNN.out
                have ha1 : a' < s := by rw [ha]; exact HSUM.out
                have HAA := Lib.hid ha
                clear HA ha
                go_wp2
                go_roundw
                case rel => exact ⟨k + 1, A6, n1, c6, F6, _, d6, T5, tc5, _, _, a', rfl, by go_num, ha0, by omega, Lib.hid ⟨HAA.out, HNXT.out.1, by rw [HLN.out]; exact HNXT.out.2, fun j hj => by
                  rcases Nat.lt_or_ge j k with h | h
                  · exact HC.out.2.2.2 j h
                  · obtain rfl : j = k := by omega
                    exact HPOS.out⟩, HB7, HT7⟩
                case measure => simp [intOf]; omega
          · have hpb : decide (0 < s) = false := decide_eq_false hp
            have hlen : lenR nW E (List.replicate kc (-1)) need = k := HEND.out k HC.out.2.2.2 (by rw [← HC.out.2.2.1, ← HC.out.1]; omega)
            have HR : Hid (runV W E need kc = runR nW E (List.replicate kc (-1)) need k) := Lib.hid (by rw [HRUN.out, hlen])
            clear hlen
            obtain ⟨A5, c5, e5, h51, h52, h53⟩ := HT.out.open
            obtain ⟨h54, h55, h56⟩ : tA = A5 ∧ k = (runR nW E (List.replicate kc (-1)) need k).length ∧ tc = c5 := by
              injection e5 with e1 e2 e3
              exact ⟨e1, e2, e3⟩
            have HX : Hid (Trc wr wr.heap.size tA (runV W E need kc) ∧ (tA = none → (runV W E need kc).length = 0 ∧ tc = 0) ∧ (runV W E need kc).length = k) := Lib.hid (by
              rw [HR.out, h54, h56]
              exact ⟨h51, h52, h55.symm⟩)
            clear e5 h51 h52 h53 h54 h55 h56
            go_wp2
            refine bodyPost_ret (v := .tuple #[.slice tA k tc, .int .i64 0]) (by simp [results, Tryd.results27, go_sem]) rfl ⟨tA, tc, by rw [HX.out.2.2], HX.out.1, fun q => (by first | exact HX.out.2.1 q | exact ⟨List.eq_nil_of_length_eq_zero (HX.out.2.1 q).1, (HX.out.2.1 q).2⟩), HB.out.bel⟩
  · have HRV : Hid (runV W E need cores = []) := Lib.hid (by unfold runV; rw [← HNE.out, if_neg h0])
    have h0b : (ne != 0) = true := bne_iff_ne.mpr h0
    have HZ := Lib.hid h0
    clear h0 hs
    go_enter Tryd.func27, Tryd.ntmps27
    go_wp2_with fail
    rw [← HW.out]
    refine CN.out.mono ?_
    rintro e w1 ⟨A1, n1, c1, F1, m1, d1, he, hk, b1⟩
    rw [← HNE.out] at he
    subst he
    have HB1 : Hid (Below wf.heap.size wf (w1.alloc (.cells #[.slice A1 n1 c1, .slice F1 m1 d1] 27))) := Lib.hid ((HB0.out.trans (b1.mono HB0.out.size)).trans ((below_alloc _).mono (HB0.out.trans (b1.mono HB0.out.size)).size))
    clear hk b1
    go_wp2
    refine bodyPost_ret (v := .tuple #[.slice none 0 0, .int .i64 ne]) (by simp [results, Tryd.results27, go_sem]) rfl ?_
    exact ⟨none, 0, by rw [HRV.out]; rfl, by rw [HRV.out]; exact Trc.nil_ _ _ _, fun _ => ⟨by rw [HRV.out]; rfl, rfl⟩, HB1.out⟩
end
end Go.Proofs.YtmmogdccjiagnaaDoor
set_option linter.unusedVariables false
namespace Go.Proofs.YtmmogdccjiagnaaDoor
open Go Go.RowKit

noncomputable def readyV (W : List Int) (E : List (Int × Int)) (O L : List Int) : List Int := if crewE W E O L = 0 then readyW E O L W.length else []
noncomputable def fillOc (W : List Int) (E : List (Int × Int)) (O L : List Int) : List Int := if crewE W E O L = 0 then fillC W.length E L O else []
noncomputable def fillLc (W : List Int) (E : List (Int × Int)) (O L : List Int) : List Int := if crewE W E O L = 0 then L else []
noncomputable def tickO (W : List Int) (E : List (Int × Int)) (O L : List Int) : List Int := if crewE W E O L = 0 then onT O L else []
noncomputable def tickL (W : List Int) (E : List (Int × Int)) (O L : List Int) : List Int := if crewE W E O L = 0 then leftT O L else []
noncomputable def tickD (W : List Int) (E : List (Int × Int)) (O L : List Int) : List Int := if crewE W E O L = 0 then nums (doneT O L) else []
/-- A crew, handed out. -/
def GotCrew (O L : List Int) (v : Value) (w : World) : Prop := ∃ A1 n1 c1 F1 m1 d1, v = .agg #[.slice A1 n1 c1, .slice F1 m1 d1] ∧ IsC w A1 n1 c1 F1 m1 d1 O L
theorem GotCrew.below {O L : List Int} {v : Value} {w w' : World} (h : GotCrew O L v w) (hb : Below w.heap.size w w') : GotCrew O L v w' := by
  obtain ⟨A1, n1, c1, F1, m1, d1, h1, h2⟩ := h
  exact ⟨A1, n1, c1, F1, m1, d1, h1, h2.below hb⟩
/-- A list, a schedule, handed out. -/
def GotL (zs : List Int) (v : Value) (w : World) : Prop := ∃ A c, v = .slice A zs.length c ∧ Ints w w.heap.size A zs
theorem GotL.below {zs : List Int} {v : Value} {w w' : World} (h : GotL zs v w) (hb : Below w.heap.size w w') : GotL zs v w' := by
  obtain ⟨A, c, h1, h2⟩ := h
  exact ⟨A, c, h1, (h2.below hb).more hb.size⟩
def GotT (t : List (List Int)) (v : Value) (w : World) : Prop := ∃ T tc, v = .slice T t.length tc ∧ Trc w w.heap.size T t ∧ (T = none → t.length = 0 ∧ tc = 0)
theorem GotT.below {t : List (List Int)} {v : Value} {w w' : World} (h : GotT t v w) (hb : Below w.heap.size w w') : GotT t v w' := by
  obtain ⟨T, tc, h1, h2, h3⟩ := h
  exact ⟨T, tc, h1, (h2.below hb).more hb.size, h3⟩
/-- What the program's functions answer. -/
structure ListOk : Prop where
  check : ∀ {A n c F m d W E A' n' c' F' m' d' O L} (w : World), IsG w A n c F m d W E → IsC w A' n' c' F' m' d' O L → Calls Tryd.prog 17 #[.agg #[.slice A n c, .slice F m d], .agg #[.slice A' n' c', .slice F' m' d']] w fun e w' => e = .returned (.int .i64 (crewE W E O L)) ∧ Below w.heap.size w w'
  ready : ∀ {A n c F m d W E A' n' c' F' m' d' O L} (w : World), IsG w A n c F m d W E → IsC w A' n' c' F' m' d' O L → Calls Tryd.prog 15 #[.agg #[.slice A n c, .slice F m d], .agg #[.slice A' n' c', .slice F' m' d']] w fun e w' => ∃ v, e = .returned v ∧ GotL (readyV W E O L) v w' ∧ Below w.heap.size w w'
  fill : ∀ {A n c F m d W E A' n' c' F' m' d' O L} (w : World), IsG w A n c F m d W E → IsC w A' n' c' F' m' d' O L → Calls Tryd.prog 11 #[.agg #[.slice A n c, .slice F m d], .agg #[.slice A' n' c', .slice F' m' d']] w fun e w' => ∃ v, e = .returned (.tuple #[v, .int .i64 (crewE W E O L)]) ∧ GotCrew (fillOc W E O L) (fillLc W E O L) v w' ∧ Below w.heap.size w w'
  tick : ∀ {A n c F m d W E A' n' c' F' m' d' O L} (w : World), IsG w A n c F m d W E → IsC w A' n' c' F' m' d' O L → Calls Tryd.prog 14 #[.agg #[.slice A n c, .slice F m d], .agg #[.slice A' n' c', .slice F' m' d']] w fun e w' => ∃ v u, e = .returned (.tuple #[v, u, .int .i64 (crewE W E O L)]) ∧ GotCrew (tickO W E O L) (tickL W E O L) v w' ∧ GotL (tickD W E O L) u w' ∧ Below w.heap.size w w'
  new : ∀ {A n c F m d W E N nn nc need} (cores : Int) (w : World), -9223372036854775808 ≤ cores → cores ≤ 9223372036854775807 → IsG w A n c F m d W E → need.length = nn → nn ≤ 400 → Ints w w.heap.size N need → (N = none → nn = 0 ∧ nc = 0) → Calls Tryd.prog 28 #[.agg #[.slice A n c, .slice F m d], .slice N nn nc, .int .i64 cores] w fun e w' => ∃ v, e = .returned (.tuple #[v, .int .i64 (newE W E need cores)]) ∧ GotCrew (newO W E need cores) (newL W E need cores) v w' ∧ Below w.heap.size w w'
  run : ∀ {A n c F m d W E N nn nc need} (cores : Int) (w : World), -9223372036854775808 ≤ cores → cores ≤ 9223372036854775807 → IsG w A n c F m d W E → need.length = nn → nn ≤ 400 → Ints w w.heap.size N need → (N = none → nn = 0 ∧ nc = 0) → (newE W E need cores = 0 → need.sum ≤ 300) → Calls Tryd.prog 26 #[.agg #[.slice A n c, .slice F m d], .slice N nn nc, .int .i64 cores] w fun e w' => ∃ v, e = .returned (.tuple #[v, .int .i64 (newE W E need cores)]) ∧ GotT (runV W E need cores) v w' ∧ Below w.heap.size w w'
  same : ∀ {A n c F m d O L A' n' c' F' m' d' O' L'} (w : World), IsC w A n c F m d O L → IsC w A' n' c' F' m' d' O' L' → Calls Tryd.prog 18 #[.agg #[.slice A n c, .slice F m d], .agg #[.slice A' n' c', .slice F' m' d']] w fun e w' => e = .returned (.bool (decide (O = O' ∧ L = L'))) ∧ Below w.heap.size w w'

/-! The chapter's example -/
def lxW : List Int := [9, 9, 9]
def lxN : List Int := [3, 1, 1]
def lxT : List (List Int) := [[0, 1], [0, 2], [0, -1]]
theorem lxFits : Fits 3 [] := fun e he => by simp at he
theorem lxMay : May lxW [] := ⟨by decide, by decide, by unfold WorkOk; decide, lxFits, by decide, by decide, fun a h => by
  obtain ⟨c, h1, _⟩ := h.last
  exact absurd h1 (by unfold ed; simp)⟩
theorem lxForm : FormOk lxW lxN 2 := by decide
theorem lxNew : newE lxW [] lxN 2 = 0 := newE_zero.mpr ⟨lxMay, lxForm⟩
theorem lxNewO : newO lxW [] lxN 2 = [-1, -1] := by unfold newO; rw [if_pos lxNew]; rfl
theorem lxNewL : newL lxW [] lxN 2 = lxN := by unfold newL; rw [if_pos lxNew]
theorem lxRun : runV lxW [] lxN 2 = lxT := by unfold runV; rw [if_pos lxNew]; decide
theorem lxOk0 : CrewOk 3 [] [-1, -1] lxN := new_ok (cores := 2) (by decide) (by decide) (by decide) rfl
theorem lxE0 : crewE lxW [] [-1, -1] lxN = 0 := crewE_zero.mpr ⟨lxMay, lxOk0⟩
theorem lxFill : fillC 3 [] lxN [-1, -1] = [0, 1] := by decide
theorem lxFillO : fillOc lxW [] [-1, -1] lxN = [0, 1] := by unfold fillOc; rw [if_pos lxE0]; exact lxFill
theorem lxFillL : fillLc lxW [] [-1, -1] lxN = lxN := by unfold fillLc; rw [if_pos lxE0]
theorem lxOk1 : CrewOk 3 [] [0, 1] lxN := by have := lxOk0.fill; rwa [lxFill] at this
theorem lxE1 : crewE lxW [] [0, 1] lxN = 0 := crewE_zero.mpr ⟨lxMay, lxOk1⟩
theorem lxOn : onT [0, 1] lxN = [0, -1] := by decide
theorem lxLeft : leftT [0, 1] lxN = [2, 0, 1] := by decide
theorem lxTickO : tickO lxW [] [0, 1] lxN = [0, -1] := by unfold tickO; rw [if_pos lxE1]; exact lxOn
theorem lxTickL : tickL lxW [] [0, 1] lxN = [2, 0, 1] := by unfold tickL; rw [if_pos lxE1]; exact lxLeft
theorem lxTickD : tickD lxW [] [0, 1] lxN = [1] := by unfold tickD; rw [if_pos lxE1]; decide
theorem lxOk2 : CrewOk 3 [] [0, -1] [2, 0, 1] := by have := lxOk1.tick lxFits; rwa [lxOn, lxLeft] at this
theorem lxE2 : crewE lxW [] [0, -1] [2, 0, 1] = 0 := crewE_zero.mpr ⟨lxMay, lxOk2⟩
theorem lxReady : readyV lxW [] [0, -1] [2, 0, 1] = [2] := by unfold readyV; rw [if_pos lxE2]; decide
end Go.Proofs.YtmmogdccjiagnaaDoor
