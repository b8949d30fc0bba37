/- list.Run in the seat YtmmogdccjiagnaaDoor: its contract, where needs are at most 300 all together; listOk.
   What layer 10's rows hand over: a graph, needs, a schedule, in the seat YtmmogdccjiagnaaDoor.
   No statement is proved here. -/
import Derived.Test.YtmmogdccjiagnaaDoorZListFTP
import Derived.Test.YtmmogdccjiagnaaDoorZM8
import Derived.Test.YtmmogdccjiagnaaDoorZM21
import Derived.Test.YtmmogdccjiagnaaDoorZM11
import Derived.Test.YtmmogdccjiagnaaDoorZM1
import Derived.Deep.SlicePairs
import Derived.Lib.SmallJoins
set_option linter.unusedSimpArgs false
set_option linter.unusedVariables false
set_option linter.unusedSimpArgs false
namespace Go.Proofs.YtmmogdccjiagnaaDoor
open Go Go.RowKit

def lenV : Value → Nat
  | .slice _ n _ => n
  | _ => 0
theorem leftP_any (z : Int) (w : World) : Calls Tryd.prog 49 #[.int .i64 z] w fun e w' => e = .returned (.bool (decide (0 < z))) ∧ w' = w := by
  go_enter Tryd.func49, Tryd.ntmps49
  go_wp2
  all_goals
    go_ret
    exact ⟨rfl, rfl⟩
theorem someLeft_any (w : World) {N : Option Addr} {nn nc : Nat} {L : List Int} (hn : L.length = nn) (hl : nn ≤ 1000) (hI : Ints w w.heap.size N L) (h0 : ∀ z ∈ L, 0 ≤ z) :
    Calls Tryd.prog 50 #[.slice N nn nc, .func (.func 49) #[] #[]] w fun e w' => e = .returned (.bool (decide (0 < L.sum))) ∧ w' = w := by
  refine (has_int N nc nn L 49 #[] (eg_of Tryd.func49 (by kernel_rfl) rfl) (fun k => match L[k]? with | some z => decide (0 < z) | none => false) (fun _ x => x = w) w.heap.size hn hl (fun _ x hx => hx ▸ hI) (fun k x W' hk hW => ?_) (decide (0 < L.sum)) ?_ w rfl).mono ?_
  · subst hW
    have := leftP_any x W'
    simp only [hk]
    exact this.mono fun e w' h => h
  · rw [decide_eq_true_iff]
    constructor
    · intro hs
      apply Classical.byContradiction
      intro hno
      have hz : ∀ z ∈ L, z = 0 := fun z hz => by
        obtain ⟨j, hj, he⟩ := List.getElem_of_mem hz
        have h1 := h0 z hz
        apply Classical.byContradiction
        intro q
        exact hno ⟨j, by omega, by rw [List.getElem?_eq_getElem hj, he]; exact decide_eq_true (by omega)⟩
      have : ∀ l : List Int, (∀ z ∈ l, z = 0) → l.sum = 0 := fun l => by
        induction l with
        | nil => intro _; rfl
        | cons a l ih =>
          intro h
          rw [List.sum_cons, h a List.mem_cons_self, ih fun z hz => h z (List.mem_cons_of_mem _ hz)]
          rfl
      have := this L hz
      omega
    · rintro ⟨j, hj, hb⟩
      have hj' : j < L.length := by omega
      rw [List.getElem?_eq_getElem hj'] at hb
      have hb' : 0 < L[j] := of_decide_eq_true hb
      have : ∀ l : List Int, (∀ z ∈ l, 0 ≤ z) → ∀ z ∈ l, z ≤ l.sum := fun l => by
        induction l with
        | nil => intro _ z hz; simp at hz
        | cons a l ih =>
          intro h z hz
          have h1 := h a List.mem_cons_self
          have h2 := sum_nonneg' (l := l) fun z hz => h z (List.mem_cons_of_mem _ hz)
          rw [List.sum_cons]
          rcases List.mem_cons.mp hz with rfl | hz
          · omega
          · have := ih (fun z hz => h z (List.mem_cons_of_mem _ hz)) z hz
            omega
      have := this L h0 _ (List.getElem_mem hj')
      omega
  · rintro e w' ⟨rfl, k, hk⟩
    exact ⟨rfl, hk⟩
/-- In the middle of Run. -/
structure StRp (wf : World) (A : Option Addr) (n c : Nat) (F : Option Addr) (m d : Nat) (W : List Int) (E : List (Int × Int)) (gc gO : Nat) (FL : Option Addr) (n1 m1 cO cL : Nat) (O L : List Int) (x : World) : Prop where
  bel : Below wf.heap.size wf x
  g0 : IsG wf A n c F m d W E
  q0 : x.cell? ⟨wf.heap.size, 0, none⟩ = some (.slice A n c)
  q1 : x.cell? ⟨wf.heap.size, 1, none⟩ = some (.slice F m d)
  cr : x.heap[gc]? = some (.cells #[.slice (some ⟨gO, 0, none⟩) n1 cO, .slice FL m1 cL] 27 (0, 0))
  hc : wf.heap.size + 1 ≤ gc
  k : RowsC (wf.heap.size + 1) gO FL n1 m1 cO cL O L x
  lO : wf.heap.size + 1 ≤ gO ∧ gO < gc
  lL : ∀ gL, FL = some ⟨gL, 0, none⟩ → wf.heap.size + 1 ≤ gL ∧ gL < gc
section
variable {wf x y : World} {A : Option Addr} {n c : Nat} {F : Option Addr} {m d : Nat} {W : List Int} {E : List (Int × Int)} {gc gO : Nat} {FL : Option Addr} {n1 m1 cO cL : Nat} {O L : List Int}
theorem StRp.lt (h : StRp wf A n c F m d W E gc gO FL n1 m1 cO cL O L x) : gc + 1 ≤ x.heap.size := (Array.getElem?_eq_some_iff.1 h.cr).1
theorem StRp.g (h : StRp wf A n c F m d W E gc gO FL n1 m1 cO cL O L x) : IsG x A n c F m d W E := h.g0.below h.bel
theorem StRp.next (h : StRp wf A n c F m d W E gc gO FL n1 m1 cO cL O L x) (b : Below x.heap.size x y) : StRp wf A n c F m d W E gc gO FL n1 m1 cO cL O L y := by
  have hlt := h.lt
  have hc := h.hc
  exact ⟨h.bel.trans (b.mono h.bel.size), h.g0, (b.cell (by show wf.heap.size < _; omega)).trans h.q0, (b.cell (by show wf.heap.size < _; omega)).trans h.q1, by rw [b.block _ (Array.getElem?_eq_some_iff.1 h.cr).1]; exact h.cr, h.hc, h.k.next b, h.lO, h.lL⟩
/-- The crew was written in place. -/
theorem StRp.turn (h : StRp wf A n c F m d W E gc gO FL n1 m1 cO cL O L x) {gL : Nat} (hw : gL = gO ∨ FL = some ⟨gL, 0, none⟩) (t : Turn2 gO gL x y) {O' L' : List Int} (k : RowsC (wf.heap.size + 1) gO FL n1 m1 cO cL O' L' y) : StRp wf A n c F m d W E gc gO FL n1 m1 cO cL O' L' y := by
  have hlt := h.lt
  have hc := h.hc
  have hO := h.lO
  have hL : wf.heap.size + 1 ≤ gL ∧ gL < gc := by
    rcases hw with rfl | hw
    · exact hO
    · exact h.lL gL hw
  exact ⟨h.bel.trans (t.below (by have := h.bel.size; omega) (by omega) (by omega)), h.g0, (t.cell (by show wf.heap.size < _; omega) (by show wf.heap.size ≠ _; omega) (by show wf.heap.size ≠ _; omega)).trans h.q0, (t.cell (by show wf.heap.size < _; omega) (by show wf.heap.size ≠ _; omega) (by show wf.heap.size ≠ _; omega)).trans h.q1,
    by rw [t.block gc (by omega) (by omega) (by omega)]; exact h.cr, h.hc, k, h.lO, h.lL⟩
theorem own_turnR {t : TypeId} {s k base gL : Nat} {v : Value} {xs : List Value} (ho : x.ownsRow base t s v k xs) (ht : Turn2 gO gL x y) (h1 : gO < base) (h2 : gL < base) : y.ownsRow base t s v k xs := by
  refine ⟨ho.1, ?_⟩
  rcases ho.2 with hn | ⟨g, cap, cur, rfl, hg, hgg, rest⟩
  · exact .inl hn
  · exact .inr ⟨g, cap, cur, rfl, hg, by rw [ht.block g (Array.getElem?_eq_some_iff.1 hgg).1 (by omega) (by omega)]; exact hgg, rest⟩
theorem OwnTr.turn {b gL : Nat} {v : Value} {t : List (List Int)} (h : OwnTr x b v t) (ht : Turn2 gO gL x y) (h1 : gO < b) (h2 : gL < b) : OwnTr y b v t := by
  obtain ⟨vs, e1, e2⟩ := h
  exact ⟨vs, own_turnR e1 ht h1 h2, fun k r hr => by
    obtain ⟨A1, c1, e3, e4⟩ := e2 k r hr
    exact ⟨A1, c1, e3, own_turnR e4 ht h1 h2⟩⟩
theorem StRp.wb (h : StRp wf A n c F m d W E gc gO FL n1 m1 cO cL O L x) {gL : Nat} (hw : gL = gO ∨ FL = some ⟨gL, 0, none⟩) : gO < gc + 1 ∧ gL < gc + 1 := by
  have := h.lO
  rcases hw with rfl | hw
  · omega
  · have := h.lL gL hw; omega
/-- One row more. -/
theorem StRp.grow (h : StRp wf A n c F m d W E gc gO FL n1 m1 cO cL O L x) {row : Option Nat} (hr : RXs 22 (gc + 1) row x y) : StRp wf A n c F m d W E gc gO FL n1 m1 cO cL O L y := by
  have hlt := h.lt
  have hc := h.hc
  have hb := hr.below hlt
  exact ⟨h.bel.trans (hb.mono (by omega)), h.g0, (hb.cell (by show wf.heap.size < _; omega)).trans h.q0, (hb.cell (by show wf.heap.size < _; omega)).trans h.q1, hr.heap h.cr (by decide), h.hc, ⟨hr.own h.k.rO (by decide), hr.own h.k.rL (by decide), h.k.ne⟩, h.lO, h.lL⟩
end
section
variable {A : Option Addr} {n c : Nat} {F : Option Addr} {m d : Nat} {W : List Int} {E : List (Int × Int)} {N : Option Addr} {nn nc : Nat} {need : List Int}
set_option maxRecDepth 100000 in
set_option maxHeartbeats 16000000 in
theorem prun_any (cores : Int) (wf : World) (hg : IsG wf A n c F m d W E) (hn : need.length = nn) (hl : nn ≤ 400) (hI : Ints wf wf.heap.size N need) (hN : N = none → nn = 0 ∧ nc = 0) (hs : newE W E need cores = 0 → need.sum ≤ 300) :
    Calls Tryd.prog 26 #[.agg #[.slice A n c, .slice F m d], .slice N nn nc, .int .i64 cores] wf fun e w' => ∃ v, e = .returned (.tuple #[v, .int .i64 (newE W E need cores)]) ∧ GotT (runV W E need cores) v w' ∧ Below wf.heap.size wf w' := by
  obtain ⟨w0, hw0⟩ : ∃ w0, w0 = wf.alloc (.cells #[.slice A n c, .slice F m d] 25) := ⟨_, rfl⟩
  have HB0 : Hid (Below wf.heap.size wf w0) := Lib.hid (by rw [hw0]; exact below_alloc _)
  have HS0 : Hid (w0.heap.size = wf.heap.size + 1) := Lib.hid (by rw [hw0]; simp)
  have HD0 : Hid (w0.cell? ⟨wf.heap.size, 0, none⟩ = some (.slice A n c) ∧ w0.cell? ⟨wf.heap.size, 1, none⟩ = some (.slice F m d)) := Lib.hid (by
    constructor <;> (rw [hw0, World.cell?_alloc_at _ _ _ _ rfl]; rfl))
  have CN := Lib.hid (pnew_any (nc := nc) cores w0 (hg.below HB0.out) hn hl ((hI.below HB0.out).more HB0.out.size) hN)
  have HG := Lib.hid hg
  have HI := Lib.hid hI
  have HN := Lib.hid hn
  have HW := Lib.hid hw0
  have HNN := Lib.hid hN
  have dd0 := HD0.out.1
  have dd1 := HD0.out.2
  obtain ⟨ne, hne⟩ : ∃ z, z = newE W E need cores := ⟨_, rfl⟩
  rw [← hne] at hs ⊢
  have HNE := Lib.hid hne
  clear hg hI hn hw0 hne hN
  by_cases h0 : ne = 0
  · subst h0
    obtain ⟨hM, hFo⟩ := newE_zero.mp HNE.out.symm
    obtain ⟨kc, rfl⟩ : ∃ k : Nat, cores = k := ⟨cores.toNat, by have := hFo.2.2.1; omega⟩
    have hk1 : 1 ≤ kc := by have := hFo.2.2.1; omega
    have hk8 : kc ≤ 8 := by have := hFo.2.2.2; omega
    have HMN := Lib.hid (need_may hM hFo)
    obtain ⟨nW, hnW⟩ : ∃ z, z = W.length := ⟨_, rfl⟩
    have HRUN : Hid (runV W E need kc = runR nW E (List.replicate kc (-1)) need (lenR nW E (List.replicate kc (-1)) need)) := Lib.hid (by unfold runV; rw [if_pos HNE.out.symm, Int.toNat_natCast, hnW])
    have HINV := Lib.hid (RunInv.all (n := nW) (E := E) (need := need) (cores := kc) (by rw [hnW]; exact hM.fits) hFo.2.1 hk1 hk8 (by rw [hnW]; exact hFo.1))
    have HEND := Lib.hid (fun k => run_end (n := nW) (E := E) (need := need) (cores := kc) (k := k) (by rw [hnW]; exact hM.fits) hM.acyc hFo.2.1 hk1 hk8 (by rw [hnW]; exact hFo.1))
    have HKEY := Lib.hid (run_key (n := nW) (E := E) (need := need) (cores := kc) (by rw [hnW]; exact hM.fits) hM.acyc hFo.2.1 hk1 hk8 (by rw [hnW]; exact hFo.1))
    have HFIT := Lib.hid (And.intro hM.fits hM.nodes)
    have HNW := Lib.hid hnW
    have HND : Hid (∀ z ∈ need, 0 ≤ z) := Lib.hid (fun z hz => by have := hFo.2.1 z hz; omega)
    obtain ⟨S, hS⟩ : ∃ z, z = need.sum := ⟨_, rfl⟩
    have hS3 : S ≤ 300 := by rw [hS]; exact hs rfl
    have HSS := Lib.hid hS
    have HO0 : Hid (newO W E need kc = List.replicate kc (-1) ∧ newL W E need kc = need) := Lib.hid (by
      unfold newO newL
      rw [if_pos HNE.out.symm, if_pos HNE.out.symm, Int.toNat_natCast]
      exact ⟨rfl, rfl⟩)
    clear hM hFo hs hS hnW
    go_enter Tryd.func26, Tryd.ntmps26
    go_wp2_with fail
    rw [← HW.out]
    refine CN.out.mono ?_
    rintro e w1 ⟨A1, n1, c1, F1, m1, d1, he, hk, hap, b1⟩
    rw [← HNE.out] at he
    subst he
    rw [HO0.out.1, HO0.out.2, HS0.out] at hk
    obtain rfl : n1 = kc := by have := hk.hn; simpa using this.symm
    obtain ⟨gO, rfl⟩ : ∃ g, A1 = some ⟨g, 0, none⟩ := by
      rcases hk.on.2 with ⟨e, h⟩ | ⟨g, cap, cur, e, _⟩
      · simp at h; omega
      · injection e with e1 _ _
        exact ⟨g, e1⟩
    have hkO := hk.on.blockLt gO rfl
    have hkL := hk.left.blockLt
    have hrows : RowsC (wf.heap.size + 1) gO F1 n1 m1 c1 d1 (List.replicate n1 (-1)) need w1 := ⟨hk.on, hk.left, fun hm => by
      rcases hk.left.2 with ⟨e, h⟩ | ⟨g, cap, cur, e, _⟩
      · have := hk.hm; omega
      · injection e with e1 _ _
        exact ⟨g, e1, fun q => hap gO rfl (by rw [e1, ← q]; rfl)⟩⟩
    obtain ⟨gc, hgc⟩ : ∃ g, g = w1.heap.size := ⟨_, rfl⟩
    obtain ⟨w2, hw2⟩ : ∃ w2, w2 = w1.alloc (.cells #[.slice (some ⟨gO, 0, none⟩) n1 c1, .slice F1 m1 d1] 27) := ⟨_, rfl⟩
    have H2 : Hid (StRp wf A n c F m d W E gc gO F1 n1 m1 c1 d1 (crewK nW E (List.replicate n1 (-1)) need 0).1 (crewK nW E (List.replicate n1 (-1)) need 0).2 w2) := Lib.hid (by
      have hba := below_alloc (w := w1) (.cells #[.slice (some ⟨gO, 0, none⟩) n1 c1, .slice F1 m1 d1] 27)
      have hna := heap_alloc_new w1 (.cells #[.slice (some ⟨gO, 0, none⟩) n1 c1, .slice F1 m1 d1] 27)
      rw [← hw2] at hba hna
      rw [← hgc] at hna
      have hb2 : Below w0.heap.size w0 w2 := b1.trans (hba.mono b1.size)
      have := HS0.out
      refine ⟨HB0.out.trans (hb2.mono HB0.out.size), HG.out, (hb2.cell (by show wf.heap.size < _; omega)).trans HD0.out.1, (hb2.cell (by show wf.heap.size < _; omega)).trans HD0.out.2, hna, by have := b1.size; omega, hrows.next hba, by omega, fun gL e => ?_⟩
      subst e
      have := hkL gL rfl
      omega)
    have HM1 := Lib.hid hk.hm
    have hm4 := hk.lm
    have CT : Hid (Calls Tryd.prog 48 #[.agg #[.slice N nn nc, .slice none 0 0]] w2 fun e w' => e = .returned (.int .i64 S) ∧ Below w2.heap.size w2 w') := Lib.hid (by
      have hI2 := (HI.out.below H2.out.bel).more H2.out.bel.size
      have hgN : IsG w2 N nn nc none 0 0 need [] := ⟨HN.out, rfl, hl, by decide, hI2, fun h => absurd h (by simp), HNN.out, fun _ => ⟨rfl, rfl⟩, H2.out.g.tab⟩
      have hmay : May need [] := ⟨HMN.out.nodes, by simp, HMN.out.work, fun e he => by simp at he, fun e he => by simp at he, List.nodup_nil, fun a h => by
        obtain ⟨c, h1, _⟩ := h.last
        exact absurd h1 (by unfold ed; simp)⟩
      have := total_done w2 hgN
      unfold totalV at this
      rw [if_pos hmay, ← HSS.out] at this
      exact this)
    have HGC := Lib.hid hgc
    have HW2 := Lib.hid hw2
    clear hk b1 hgc hw2 hap hrows hkO hkL CN dd0 dd1
    go_wp2_with fail
    rw [← HW2.out, ← HGC.out]
    refine CT.out.mono ?_
    rintro e w3 ⟨rfl, b3⟩
    have H3 := Lib.hid (H2.out.next b3)
    have hgt : decide ((4096 : Int) < S) = false := decide_eq_false (by omega)
    clear b3 H2 CT HW2 HGC
    go_wp2
    go_loopw [10] (fun vt wr => ∃ (k : Nat) (tA : Option Addr) (tc : Nat) (Ok Lk : List Int), vt = .slice tA k tc ∧ Hid (Ok = (crewK nW E (List.replicate n1 (-1)) need k).1 ∧ Lk = (crewK nW E (List.replicate n1 (-1)) need k).2 ∧ ∀ j, j < k → 0 < (crewK nW E (List.replicate n1 (-1)) need j).2.sum) ∧
      Hid (StRp wf A n c F m d W E gc gO F1 n1 m1 c1 d1 Ok Lk wr) ∧ Hid (OwnTr wr (gc + 1) (.slice tA k tc) (runR nW E (List.replicate n1 (-1)) need k))) (fun v _ => 301 - lenV v)
    case atStart => exact ⟨0, none, 0, _, _, rfl, Lib.hid ⟨rfl, rfl, fun j hj => absurd hj (by omega)⟩, H3, Lib.hid ⟨[], ⟨rfl, .inl ⟨rfl, rfl⟩⟩, fun k r hr => by simp [runR] at hr⟩⟩
    case round =>
      clear H3
      obtain ⟨k, tA, tc, Ok, Lk, rfl, HC, HB, HT⟩ := hrel
      have x0 := cell_of_row wr gc 0 _ _ _ HB.out.cr
      have x1 := cell_of_row wr gc 1 _ _ _ HB.out.cr
      simp at x0 x1
      have hok : CrewOk nW E Ok Lk := by rw [HC.out.1, HC.out.2.1]; exact (HINV.out k).ok
      have HOK := Lib.hid hok
      have hmW : m1 = nW := by rw [← HB.out.k.rL.len_eq, hok.ln]
      have CH := Lib.hid (someLeft_any (nc := d1) wr HB.out.k.rL.len_eq (by omega) HB.out.k.rL.ints (fun z hz => (hok.left z hz).1))
      have HMW := Lib.hid hmW
      clear hmW
      by_cases hp : 0 < Lk.sum
      · rw [decide_eq_true hp] at CH
        have hk3 : k ≤ 299 := by
          have := HKEY.out k HC.out.2.2
          rw [← HC.out.2.1, ← HSS.out] at this
          omega
        have hLW : Lk.length = W.length := by rw [hok.ln, HNW.out]
        have HNX : Hid (rowK nW E (List.replicate n1 (-1)) need k = fillC nW E Lk Ok) := Lib.hid (by unfold rowK; rw [← HC.out.1, ← HC.out.2.1])
        have HPOS : Hid (0 < (crewK nW E (List.replicate n1 (-1)) need k).2.sum) := Lib.hid (by rw [← HC.out.2.1]; exact hp)
        have q0 := HB.out.q0
        have q1 := HB.out.q1
        have CF := Lib.hid (pfill_any wf wr HB.out.g0 HB.out.bel ⟨HB.out.k.rO.down (by omega), HB.out.k.rL.down (by omega), HB.out.k.ne⟩ HFIT.out.1 HFIT.out.2 hLW (by omega))
        clear hok hp
        go_wp2_with fail
        refine CH.out.mono ?_
        rintro e wx ⟨rfl, rfl⟩
        clear CH
        go_wp2_with fail
        refine CF.out.mono ?_
        rintro e w5 ⟨rfl, hr5, ht5⟩
        obtain ⟨R, hR⟩ : ∃ z, z = fillC nW E Lk Ok := ⟨_, rfl⟩
        have hfc : fillC m1 E Lk Ok = R := by rw [HMW.out, hR]
        rw [hfc] at hr5
        have HRR := Lib.hid hR
        have hO5 := HB.out.lO
        have hrow5 : RowsC (wf.heap.size + 1) gO F1 n1 m1 c1 d1 R Lk w5 := ⟨by
            rcases hr5.rO.2 with h | ⟨g, cap, cur, e, hg, rest⟩
            · exact ⟨hr5.rO.1, .inl h⟩
            · refine ⟨hr5.rO.1, .inr ⟨g, cap, cur, e, ?_, rest⟩⟩
              injection e with e1 _ _
              injection e1 with e1
              injection e1 with e1
              omega, by
            rcases hr5.rL.2 with h | ⟨g, cap, cur, e, hg, rest⟩
            · exact ⟨hr5.rL.1, .inl h⟩
            · refine ⟨hr5.rL.1, .inr ⟨g, cap, cur, e, ?_, rest⟩⟩
              injection e with e1 _ _
              exact (HB.out.lL g e1).1, hr5.ne⟩
        have HB5 := Lib.hid (HB.out.turn (.inl rfl) ht5 hrow5)
        have HT5 := Lib.hid (HT.out.turn ht5 (by omega) (by omega))
        have hRn : R.length = n1 := hr5.rO.len_eq
        have HRN := Lib.hid hRn
        clear hr5 ht5 hrow5 hR hRn hfc x0 x1 q0 q1 CF hO5
        have x0 := cell_of_row w5 gc 0 _ _ _ HB5.out.cr
        have x1 := cell_of_row w5 gc 1 _ _ _ HB5.out.cr
        simp at x0 x1
        have CC := Lib.hid (clone_i w5 (some ⟨gO, 0, none⟩) n1 c1 R HRN.out (by omega) HB5.out.k.rO.ints (fun q => by cases q))
        go_wp2_with fail
        refine CC.out.mono ?_
        rintro e w6 ⟨A6, c6, he6, ho6, b6⟩
        rw [HRN.out] at he6 ho6
        subst he6
        have HO6 := Lib.hid (ho6.down HB5.out.lt)
        have HB6 := Lib.hid (HB5.out.next b6)
        have HT6 := Lib.hid (HT5.out.below b6)
        have hl6 := HB6.out.lt
        obtain ⟨vs, hv1, hv2⟩ := HT6.out
        have HV2 := Lib.hid hv2
        rw [runR_len] at hv1
        have HVL := Lib.hid hv1.1
        have HV1 := Lib.hid hv1
        clear ho6 b6 HB5 HT5 CC x0 x1 hv1 hv2
        go_wp2_with (at_builtin; refine wpList_pushXs rfl _ _ 22 48 1 24 (.slice none 0 0) Tryd.underlying48 rows_cell_infoS rfl (by omega) (by omega) rfl rfl w6 (gc + 1) k _ vs [.slice A6 n1 c6] HV1.out rfl (by simp [Value.oneCell']) (by omega) hl6 (by first | rfl | simp [Act.eval]) (by first | rfl | simp [Act.eval]) ?_; intro T7 tc7 w7 ho7 hr7 ha7; (have HO7 := Lib.hid ho7); (have HR7 := Lib.hid hr7); (have HB7 := Lib.hid (HB6.out.grow hr7)); (have x0 := cell_of_row w7 gc 0 _ _ _ HB7.out.cr); (have x1 := cell_of_row w7 gc 1 _ _ _ HB7.out.cr); simp at x0 x1; clear ho7 hr7 ha7)
        have HT7 : Hid (OwnTr w7 (gc + 1) (.slice T7 (k + 1) tc7) (runR nW E (List.replicate n1 (-1)) need (k + 1))) := Lib.hid (by
          refine ⟨vs ++ [.slice A6 n1 c6], ?_, fun j r hj => ?_⟩
          · rw [runR_len]; exact HO7.out
          · have hvl : vs.length = k := by have := HVL.out; omega
            rw [runR_succ] at hj
            rcases Nat.lt_or_ge j k with h1 | h1
            · rw [List.getElem?_append_left (by rw [runR_len]; exact h1)] at hj
              obtain ⟨A8, c8, e1, e2⟩ := HV2.out j r hj
              exact ⟨A8, c8, by rw [List.getElem?_append_left (by omega)]; exact e1, HR7.out.own e2 (by decide)⟩
            · rw [List.getElem?_append_right (by rw [runR_len]; exact h1), runR_len] at hj
              obtain rfl : j = k := by
                have := (List.getElem?_eq_some_iff.1 hj).1
                simp at this
                omega
              rw [Nat.sub_self] at hj
              obtain rfl : rowK nW E (List.replicate n1 (-1)) need j = r := Option.some.inj hj
              rw [HNX.out, ← HRR.out, HRN.out]
              exact ⟨A6, c6, by rw [← hvl]; simp, HR7.out.own HO6.out (by decide)⟩)
        clear HO7 HR7 HB6 HT6 HV2 HVL HV1 HO6 HB HT
        have HOK2 := Lib.hid HOK.out.fill
        rw [← HRR.out] at HOK2
        have hL3 : Lk.length = nW := HOK.out.ln
        refine (ptick_any (wf.heap.size + 1) w7 HB7.out.k (fun x hx => by rw [hL3]; exact (HOK2.out.on x hx).imp id (fun h => h.1)) HOK2.out.once HOK.out.left (by omega) hm4).mono ?_
        rintro e w8 ⟨A8, k8, c8, gL, rfl, hd8, hk8', hr8, hw8, hgL8, ht8⟩
        have HB8 := Lib.hid (HB7.out.turn hw8 ht8 hr8)
        have HT8 := Lib.hid (HT7.out.turn ht8 (HB7.out.wb hw8).1 (HB7.out.wb hw8).2)
        have hNXT : onT R Lk = (crewK nW E (List.replicate n1 (-1)) need (k + 1)).1 ∧ leftT R Lk = (crewK nW E (List.replicate n1 (-1)) need (k + 1)).2 := by
          constructor
          · show _ = onT (rowK nW E (List.replicate n1 (-1)) need k) (crewK nW E (List.replicate n1 (-1)) need k).2
            rw [HNX.out, ← HRR.out, ← HC.out.2.1]
          · show _ = leftT (rowK nW E (List.replicate n1 (-1)) need k) (crewK nW E (List.replicate n1 (-1)) need k).2
            rw [HNX.out, ← HRR.out, ← HC.out.2.1]
        have HNXT := Lib.hid hNXT
        clear hd8 hk8' hr8 ht8 hNXT HB7 HT7 x0 x1
        go_wp2
        go_roundw
        case rel => exact ⟨k + 1, T7, tc7, _, _, by go_num, Lib.hid ⟨HNXT.out.1, HNXT.out.2, fun j hj => by
          rcases Nat.lt_or_ge j k with h | h
          · exact HC.out.2.2 j h
          · obtain rfl : j = k := by omega
            exact HPOS.out⟩, HB8, HT8⟩
        case measure => simp [lenV]; omega
      · rw [decide_eq_false hp] at CH
        have hlen : lenR nW E (List.replicate n1 (-1)) need = k := HEND.out k HC.out.2.2 (by rw [← HC.out.2.1]; omega)
        have HR : Hid (runV W E need n1 = runR nW E (List.replicate n1 (-1)) need k) := Lib.hid (by rw [HRUN.out, hlen])
        clear hlen hok hp
        obtain ⟨A5, c5, e5, h51, h52, h53⟩ := HT.out.open
        obtain ⟨h54, h55, h56⟩ : tA = A5 ∧ k = (runR nW E (List.replicate n1 (-1)) need k).length ∧ tc = c5 := by
          injection e5 with e1 e2 e3
          exact ⟨e1, e2, e3⟩
        have HX : Hid (Trc wr wr.heap.size tA (runV W E need n1) ∧ (tA = none → (runV W E need n1).length = 0 ∧ tc = 0) ∧ (runV W E need n1).length = k) := Lib.hid (by
          rw [HR.out, h54, h56]
          exact ⟨h51, h52, h55.symm⟩)
        clear e5 h51 h52 h53 h54 h55 h56
        go_wp2_with fail
        refine CH.out.mono ?_
        rintro e wx ⟨rfl, rfl⟩
        clear CH
        go_wp2
        refine bodyPost_ret (v := .tuple #[.slice tA k tc, .int .i64 0]) (by simp [results, Tryd.results26, go_sem]) rfl ⟨_, rfl, ⟨tA, tc, by rw [HX.out.2.2], HX.out.1, HX.out.2.1⟩, HB.out.bel⟩
  · have HRV : Hid (runV W E need cores = []) := Lib.hid (by unfold runV; rw [← HNE.out, if_neg h0])
    have h0b : (ne != 0) = true := bne_iff_ne.mpr h0
    have HZ := Lib.hid h0
    clear h0 hs
    go_enter Tryd.func26, Tryd.ntmps26
    go_wp2_with fail
    rw [← HW.out]
    refine CN.out.mono ?_
    rintro e w1 ⟨A1, n1, c1, F1, m1, d1', he, hk, hap, b1⟩
    rw [← HNE.out] at he
    subst he
    have HB1 : Hid (Below wf.heap.size wf (w1.alloc (.cells #[.slice A1 n1 c1, .slice F1 m1 d1'] 27))) := Lib.hid ((HB0.out.trans (b1.mono HB0.out.size)).trans ((below_alloc _).mono (HB0.out.trans (b1.mono HB0.out.size)).size))
    clear hk b1
    go_wp2
    refine bodyPost_ret (v := .tuple #[.slice none 0 0, .int .i64 ne]) (by simp [results, Tryd.results26, go_sem]) rfl ?_
    exact ⟨_, rfl, ⟨none, 0, by rw [HRV.out]; rfl, by rw [HRV.out]; exact Trc.nil_ _ _ _, fun _ => ⟨by rw [HRV.out]; rfl, rfl⟩⟩, HB1.out⟩
end
theorem listOk : ListOk where
  check := fun w hg hk => ccheck_any w hg hk
  ready := fun w hg hk => cready_any w hg hk
  fill := fun w hg hk => cfill_any w hg hk
  tick := fun w hg hk => ctick_any w hg hk
  new := fun cores w _ _ hg hn hl hI hN => (pnew_any cores w hg hn hl hI hN).mono fun e w' ⟨A1, n1, c1, F1, m1, d1, he, hk, _, hb⟩ => ⟨_, he, ⟨_, _, _, _, _, _, rfl, hk.isC⟩, hb⟩
  run := fun cores w _ _ hg hn hl hI hN hs => prun_any cores w hg hn hl hI hN hs
  same := fun w h h' => csame_any w h h'
end Go.Proofs.YtmmogdccjiagnaaDoor
set_option linter.unusedVariables false
namespace Go.Proofs.YtmmogdccjiagnaaDoor
open Go.ChangeShapes Go.WideShapes Go.ChangeAt Go.RowKit Go.Joins Go.Deep

/-- Needs as a row gives them. -/
structure InN (w : World) (N : Option Addr) (nn nc : Nat) (need : List Int) : Prop where
  hn : need.length = nn
  ln : nn ≤ 9223372036854775807
  ints : Ints w w.heap.size N need
  hN : N = none → nn = 0 ∧ nc = 0
/-- A schedule as a row gives it. -/
structure InT (w : World) (T : Option Addr) (tn tc : Nat) (t : List (List Int)) : Prop where
  ht : t.length = tn
  lt : tn ≤ 9223372036854775807
  lr : ∀ r ∈ t, r.length ≤ 9223372036854775807
  rows : Trc w w.heap.size T t
  hT : T = none → tn = 0 ∧ tc = 0
  cT : tn ≤ tc
theorem InN.with {w : World} {N : Option Addr} {nn nc : Nat} {need : List Int} {T : Option Addr} {tn tc : Nat} {t : List (List Int)} (h : InN w N nn nc need) (g : InT w T tn tc t) : InS w N nn nc T tn tc need t :=
  ⟨h.hn, g.ht, h.ln, g.lt, g.lr, h.ints, g.rows, h.hN, g.hT, g.cT⟩
/-- What a slice of edges that came in reads as. -/
theorem edges_of {w : World} {a : Addr} {len m : Nat} {V0 V1 : Nat → Value} (hl : len ≤ m)
    (h : ∀ i, i < m → w.cell? (a.add (i * 2)) = some (V0 i) ∧ w.cell? (a.add (i * 2 + 1)) = some (V1 i) ∧ (∃ n, V0 i = .int .i64 n ∧ (Lit.int .i64 n).wf = true) ∧ (∃ n, V1 i = .int .i64 n ∧ (Lit.int .i64 n).wf = true)) :
    ∃ es : List (Int × Int), es.length = len ∧ Pairs w w.heap.size (some a) es ∧ ∀ e ∈ es, (-9223372036854775808 ≤ e.1 ∧ e.1 ≤ 9223372036854775807) ∧ (-9223372036854775808 ≤ e.2 ∧ e.2 ≤ 9223372036854775807) := by
  have e1 : IntKind.i64.min = -9223372036854775808 := by decide
  have e2 : IntKind.i64.max = 9223372036854775807 := by decide
  let f : Nat → Int × Int := fun i => (match V0 i with | .int _ n => n | _ => 0, match V1 i with | .int _ n => n | _ => 0)
  have hf : ∀ i, i < m → V0 i = .int .i64 (f i).1 ∧ V1 i = .int .i64 (f i).2 ∧ (Lit.int .i64 (f i).1).wf = true ∧ (Lit.int .i64 (f i).2).wf = true := by
    intro i hi
    obtain ⟨_, _, ⟨n0, h0, k0⟩, ⟨n1, h1, k1⟩⟩ := h i hi
    simp only [f, h0, h1]
    exact ⟨trivial, trivial, k0, k1⟩
  refine ⟨(List.range len).map f, by simp, fun hp => ?_, ?_⟩
  · have hp : 0 < len := by simpa using hp
    obtain ⟨b, off, spot⟩ := a
    have hspot : spot = none := by simpa [Addr.add] using World.cell?_spot (h 0 (by omega)).1
    subst hspot
    have hc : ∀ i, i < m → w.cell? ⟨b, off + i * 2, none⟩ = some (.int .i64 (f i).1) ∧ w.cell? ⟨b, off + i * 2 + 1, none⟩ = some (.int .i64 (f i).2) := by
      intro i hi
      obtain ⟨c0, c1, _, _⟩ := h i hi
      obtain ⟨v0, v1, _, _⟩ := hf i hi
      rw [addr_add, v0] at c0
      rw [addr_add, v1] at c1
      exact ⟨c0, by rw [show off + i * 2 + 1 = off + (i * 2 + 1) by omega]; exact c1⟩
    refine ⟨b, off, rfl, cell_below (hc 0 (by omega)).1, fun k e he => ?_⟩
    obtain ⟨i, hi, rfl⟩ := List.mem_map.mp (List.mem_of_getElem? he)
    have hk : k < len := by
      have := (List.getElem?_eq_some_iff.1 he).1
      simpa using this
    rw [List.getElem?_map, List.getElem?_range hk] at he
    have he : f k = f i := by simpa using he
    rw [← he]
    exact hc k (by omega)
  · intro e he
    obtain ⟨i, hi, rfl⟩ := List.mem_map.mp he
    have hi : i < len := by simpa using hi
    obtain ⟨_, _, k0, k1⟩ := hf i (by omega)
    simp [Lit.wf, e1, e2] at k0 k1
    omega
set_option maxRecDepth 100000 in
/-- An argument that is a graph. -/
theorem open_dag {H : Type} {enc : TypeId × Value → H} {W : World} {base : Nat} {v : Value} {d : DataW H} {p : List MemPlace}
    (hv : Value.okWide Tryd.prog W .any base 25 v) (h : DataW.Trod enc Tryd.prog W 0 (fun _ => true) true 25 v d p) :
    ∃ A n c F m dd Wl El, v = .agg #[.slice A n c, .slice F m dd] ∧ InG W A n c F m dd Wl El := by
  obtain ⟨v0, v1, y0, y1, k, rfl, _, _, h0, h1⟩ := open_agg2 Tryd.underlying25 (by kernel_rfl) (by kernel_rfl) hv h
  obtain ⟨A, n, c, zs, rfl, hrow⟩ : ∃ A n c zs, v0 = .slice A n c ∧ IsRow .i64 W A n c zs := by
    rcases open_ints Tryd.underlying22 Tryd.underlying3 (by kernel_rfl) h0 with ⟨hcs, _⟩ | ⟨x, l, c, zs, hcs, _, hl, hm, hz, _, hcell, hwz⟩
    · simp at hcs
      exact ⟨none, 0, 0, [], hcs, .inl ⟨rfl, rfl, rfl, rfl⟩⟩
    · simp at hcs
      exact ⟨_, _, _, zs, hcs, .inr ⟨_, rfl, hl, hm, by simpa using hz, hcell, hwz⟩⟩
  obtain ⟨F, m, dd, es, rfl, hm, hp, hmx, hw, hF⟩ : ∃ F m dd, ∃ es : List (Int × Int), v1 = .slice F m dd ∧ es.length = m ∧ Pairs W W.heap.size F es ∧ m ≤ 9223372036854775807 ∧
      (∀ e ∈ es, (-9223372036854775808 ≤ e.1 ∧ e.1 ≤ 9223372036854775807) ∧ (-9223372036854775808 ≤ e.2 ∧ e.2 ≤ 9223372036854775807)) ∧ (F = none → m = 0 ∧ dd = 0) := by
    rcases open_slice_pairs Tryd.underlying23 Tryd.underlying106 (by kernel_rfl) rfl rfl (by kernel_rfl) (by kernel_rfl) h1 with ⟨hcs, _⟩ | ⟨a, len, cap, m, nn, V0, V1, D0, D1, P0, P1, hcs, _, hl, hm, hmm, _, hx⟩
    · simp at hcs
      exact ⟨none, 0, 0, [], hcs, rfl, fun h => absurd h (by simp), by omega, fun e he => by simp at he, fun _ => ⟨rfl, rfl⟩⟩
    · simp at hcs
      have hlm : len ≤ m := by rw [hmm]; simpa using hl
      obtain ⟨es, k1, k2, k3⟩ := edges_of (w := W) (a := a) (len := len) (m := m) (V0 := V0) (V1 := V1) hlm (fun i hi => by
        obtain ⟨c0, c1, t0, t1⟩ := hx i hi
        obtain ⟨n0, e0, _, w0⟩ := DataW.trod_int Tryd.underlying3 t0
        obtain ⟨n1, e1, _, w1⟩ := DataW.trod_int Tryd.underlying3 t1
        simp at e0 e1
        exact ⟨c0, c1, ⟨n0, e0, w0⟩, ⟨n1, e1, w1⟩⟩)
      refine ⟨some a, len, cap, es, hcs, k1, k2, by unfold maxLen at hm; omega, k3, fun e => by cases e⟩
  obtain ⟨r1, r2, r3, r4, r5⟩ := row_ints hrow
  refine ⟨A, n, c, F, m, dd, zs.take n, es, rfl, ⟨r2, hm, r4, hmx, r1, hp, fun e => ?_, hF⟩⟩
  have := r3 e
  omega
section
variable {H : Type} {enc : TypeId × Value → H} {W : World}
theorem spotless {a : Addr} {v : Value} (h : W.cell? a = some v) : ∃ b off, a = ⟨b, off, none⟩ := by
  obtain ⟨b, off, spot⟩ := a
  have hspot : spot = none := World.cell?_spot h
  exact ⟨b, off, by rw [hspot]⟩
set_option maxRecDepth 100000 in
theorem open_intsS {fuel : Nat} {cs : List Value} {x : DataW H × List MemPlace} (h1 : DataW.trod enc Tryd.prog W 0 (fun _ => true) true fuel 22 cs = some x) :
    ∃ A n c, ∃ zs : List Int, cs = [.slice A n c] ∧ zs.length = n ∧ Ints W W.heap.size A zs ∧ n ≤ 9223372036854775807 ∧ n ≤ c ∧ (A = none → n = 0 ∧ c = 0) := by
  obtain ⟨A, n, c, zs, rfl, hrow⟩ : ∃ A n c zs, cs = [.slice A n c] ∧ IsRow .i64 W A n c zs := by
    rcases open_ints Tryd.underlying22 Tryd.underlying3 (by kernel_rfl) h1 with ⟨hcs, _⟩ | ⟨x, l, c, zs, hcs, _, hl, hm, hz, _, hcell, hwz⟩
    · exact ⟨none, 0, 0, [], hcs, .inl ⟨rfl, rfl, rfl, rfl⟩⟩
    · exact ⟨_, _, _, zs, hcs, .inr ⟨_, rfl, hl, hm, by simpa using hz, hcell, hwz⟩⟩
  obtain ⟨r1, r2, r3, r4, r5⟩ := row_ints hrow
  refine ⟨A, n, c, zs.take n, rfl, r2, r1, r4, r5, fun e => ?_⟩
  have := r3 e
  omega
set_option maxRecDepth 100000 in
/-- An argument that is a list of needs. -/
theorem open_need {base : Nat} {v : Value} {d : DataW H} {p : List MemPlace}
    (hv : Value.okWide Tryd.prog W .any base 22 v) (h : DataW.Trod enc Tryd.prog W 0 (fun _ => true) true 22 v d p) :
    ∃ A n c zs, v = .slice A n c ∧ InN W A n c zs := by
  obtain ⟨a0, len0, cap0, rfl⟩ := okWide_slice Tryd.underlying22 hv
  obtain ⟨fuel, hf⟩ := h
  obtain ⟨A, n, c, zs, e0, l0, m0, b0, s0, w0⟩ := open_intsS hf
  simp [Value.cells] at e0
  obtain ⟨rfl, rfl, rfl⟩ := e0
  exact ⟨_, _, _, zs, rfl, ⟨l0, b0, m0, w0⟩⟩
set_option maxRecDepth 100000 in
/-- An argument that is a schedule. -/
theorem open_trace {base : Nat} {v : Value} {d : DataW H} {p : List MemPlace}
    (hv : Value.okWide Tryd.prog W .any base 48 v) (h : DataW.Trod enc Tryd.prog W 0 (fun _ => true) true 48 v d p) :
    ∃ A n c t, v = .slice A n c ∧ InT W A n c t := by
  obtain ⟨a0, len0, cap0, rfl⟩ := okWide_slice Tryd.underlying48 hv
  obtain ⟨fuel, hf⟩ := h
  have ce : Tryd.prog.cellsOf 22 = 1 := by kernel_rfl
  rcases open_slice Tryd.underlying48 hf with ⟨h0, _⟩ | ⟨a, len, cap, m, n, D, Pl, h0, _, hl, hm, hmm, _, hx⟩
  · simp [Value.cells] at h0
    obtain ⟨rfl, rfl, rfl⟩ := h0
    exact ⟨none, 0, 0, [], rfl, ⟨rfl, by omega, fun r hr => by simp at hr, Trc.nil_ _ _ _, fun _ => ⟨rfl, rfl⟩, Nat.le_refl _⟩⟩
  · simp [Value.cells] at h0
    obtain ⟨rfl, rfl, rfl⟩ := h0
    have hlm : len0 ≤ m := by rw [hmm]; simpa using hl
    have each : ∀ i, i < m → ∃ q : List Int, ∃ A1 c1, W.cell? (a.add i) = some (.slice A1 q.length c1) ∧ Ints W W.heap.size A1 q ∧ q.length ≤ 9223372036854775807 ∧ q.length ≤ c1 ∧ (A1 = none → q.length = 0 ∧ c1 = 0) := by
      intro i hi
      obtain ⟨cs', h1, h2⟩ := hx i hi
      rw [ce] at h1
      obtain ⟨_, hlen, hcell⟩ := World.cells?_some h1
      obtain ⟨A1, n1, c1, zs, e1, l1, i1, b1, k1, s1⟩ := open_intsS h2
      subst e1
      subst l1
      have q0 := hcell 0 (by omega)
      rw [Nat.mul_one, add_add] at q0
      exact ⟨zs, A1, c1, by simpa using q0, i1, b1, k1, s1⟩
    obtain ⟨q, hq⟩ := choose_lt each
    refine ⟨some a, len0, cap0, (List.range len0).map q, rfl, ⟨by simp, by unfold maxLen at hm; omega, fun r hr => ?_, fun hp => ?_, fun e => (by cases e), hl⟩⟩
    · rw [List.mem_map] at hr
      obtain ⟨i, hi, rfl⟩ := hr
      obtain ⟨_, _, _, _, hb, _⟩ := hq i (by simp at hi; omega)
      exact hb
    · have hp : 0 < len0 := by simpa using hp
      obtain ⟨_, _, hh, _⟩ := hq 0 (by omega)
      obtain ⟨b, off, rfl⟩ := spotless (by simpa [Addr.add] using hh)
      refine ⟨b, off, rfl, cell_below hh, fun k x hx => ?_⟩
      have hk : k < len0 := by
        have := (List.getElem?_eq_some_iff.1 hx).1
        simpa using this
      rw [List.getElem?_map, List.getElem?_range hk] at hx
      obtain rfl : q k = x := by simpa using hx
      obtain ⟨A1, c1, q0, q1, q2, q3, q4⟩ := hq k (by omega)
      rw [addr_add] at q0
      exact ⟨A1, c1, q0, q1, q4, q3⟩
end
end Go.Proofs.YtmmogdccjiagnaaDoor
