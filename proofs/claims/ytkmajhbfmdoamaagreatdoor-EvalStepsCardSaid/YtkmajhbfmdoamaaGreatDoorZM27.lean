/- Values that go round at 2^32, in plain words, in the seat YtkmajhbfmdoamaaGreatDoor.
   What a lowered task comes to, in plain words, in the seat YtkmajhbfmdoamaaGreatDoor.
   Layer 8's example, in plain words, in the seat YtkmajhbfmdoamaaGreatDoor.
   No statement is proved here. -/
import Derived.Lib.Hide
import Derived.Test.YtkmajhbfmdoamaaGreatDoorZLowRoundMath
import Derived.Test.YtkmajhbfmdoamaaGreatDoorZM23
set_option linter.unusedSimpArgs false
set_option linter.unusedVariables false
namespace Go.Proofs.YtkmajhbfmdoamaaGreatDoor

/-- A number as a value. -/
def val32 (n : Int) : Int := n % 4294967296
theorem val32_in (n : Int) : 0 ≤ val32 n ∧ val32 n < 4294967296 := by unfold val32; omega
/-- What is there, and one value more. -/
def stepV (op there v : Int) : Int := if op = 2 then (there + v) % 4294967296 else if op = 3 then (there * v) % 4294967296 else if op = 4 then max there v else if op = 5 then (31 * there + v) % 4294967296 else there
/-- What is there of no values. -/
def noneV (op arg : Int) (inp : List Int) : Int := if op = 0 then (if 0 ≤ arg then val32 (inp.getD arg.toNat 0) else 0) else if op = 1 then val32 arg else if op = 3 then 1 else if op = 5 then 7 else 0
def foldV (op : Int) (a : Int) (vals : List Int) : Int := vals.foldl (fun a v => stepV op a (val32 v)) a
/-- What comes of a part. -/
def comeV (op arg : Int) (inp vals : List Int) : Int := if 0 ≤ op ∧ op ≤ 5 then foldV op (noneV op arg inp) vals else 0
theorem noneV_in (op arg : Int) (inp : List Int) : 0 ≤ noneV op arg inp ∧ noneV op arg inp < 4294967296 := by
  unfold noneV
  have h1 := val32_in (inp.getD arg.toNat 0)
  have h2 := val32_in arg
  split
  · split <;> omega
  · split
    · omega
    · split
      · omega
      · split <;> omega
theorem stepV_in {op a v : Int} (ha : 0 ≤ a ∧ a < 4294967296) (hv : 0 ≤ v ∧ v < 4294967296) : 0 ≤ stepV op a v ∧ stepV op a v < 4294967296 := by
  unfold stepV
  split
  · omega
  · split
    · omega
    · split
      · omega
      · split <;> omega
theorem foldV_in {op : Int} : ∀ (vals : List Int) {a : Int}, 0 ≤ a ∧ a < 4294967296 → 0 ≤ foldV op a vals ∧ foldV op a vals < 4294967296
  | [], a, h => h
  | v :: vals, a, h => foldV_in vals (stepV_in h (val32_in v))
theorem foldV_take {op a v : Int} {vals : List Int} {j : Nat} (h : vals[j]? = some v) : foldV op a (vals.take (j + 1)) = stepV op (foldV op a (vals.take j)) (val32 v) := by
  unfold foldV
  rw [List.take_add_one, h, List.foldl_append]
  rfl
/-- A node waits for one that isn't done. -/
def waitB (E : List (Int × Int)) (D : List Bool) (j : Nat) : Bool := E.any fun e => decide (e.2 = (j : Int)) && !(D.getD e.1.toNat false)
end Go.Proofs.YtkmajhbfmdoamaaGreatDoor
set_option linter.unusedVariables false
namespace Go.Proofs.YtkmajhbfmdoamaaGreatDoor

/-! Memories -/
def partAt (T : Task) (x : Nat) : Int × Int × Int := T.parts.getD x (0, 0, 0)
def feedV (T : Task) (V : List Int) (x : Nat) : List Int := (feedsL T.edges T.futures (x : Int)).map fun y => V.getD y.toNat 0
/-- What comes of a part, of the values of its feeds. -/
def partV (T : Task) (inp V : List Int) (x : Nat) : Int := comeV (partAt T x).1 (partAt T x).2.1 inp (feedV T V x)
/-- The values when a node is done. -/
def settleV (T : Task) (inp V : List Int) (m : Nat) : List Int := if lastV (lowP T) ((lowP T).getD m (0, 0)).1 = (m : Int) then V.set ((lowP T).getD m (0, 0)).1.toNat (partV T inp V ((lowP T).getD m (0, 0)).1.toNat) else V
theorem settleV_len (T : Task) (inp V : List Int) (m : Nat) : (settleV T inp V m).length = V.length := by unfold settleV; split <;> simp
theorem waitB_false {E : List (Int × Int)} {D : List Bool} {j : Nat} : waitB E D j = false ↔ ∀ a : Int, (a, (j : Int)) ∈ E → D.getD a.toNat false = true := by
  unfold waitB
  rw [List.any_eq_false]
  constructor
  · intro h a ha
    have := h _ ha
    simpa using this
  · intro h e he
    by_cases h2 : e.2 = (j : Int)
    · have := h e.1 (by rw [← h2]; exact he)
      rw [this]
      simp
    · simp [h2]
/-- A memory may be one of a task. -/
structure MemOk (T : Task) (D : List Bool) (V : List Int) : Prop where
  low : LowOk T
  hD : D.length = (lowP T).length
  hV : V.length = T.parts.length
  done : ∀ j, D.getD j false = true → waitB (lowE T) D j = false
open Classical in
noncomputable def chkM (T : Task) (D : List Bool) (V : List Int) : Int := if LowOk T then (if MemOk T D V then 0 else 80) else lowX T
theorem chkM_zero {T : Task} {D : List Bool} {V : List Int} : chkM T D V = 0 ↔ MemOk T D V := by
  unfold chkM
  by_cases h : LowOk T
  · rw [if_pos h]
    by_cases k : MemOk T D V
    · rw [if_pos k]; exact ⟨fun _ => k, fun _ => rfl⟩
    · rw [if_neg k]; exact ⟨fun e => absurd e (by decide), fun e => absurd e k⟩
  · rw [if_neg h]
    exact ⟨fun e => absurd (lowX_zero.mp e) h, fun e => absurd e.low h⟩
def readyD (E : List (Int × Int)) (D : List Bool) : List Nat := (List.range D.length).filter fun j => !D.getD j false && !waitB E D j
theorem mem_readyD {E : List (Int × Int)} {D : List Bool} {j : Nat} : j ∈ readyD E D ↔ j < D.length ∧ D.getD j false = false ∧ waitB E D j = false := by
  unfold readyD
  rw [List.mem_filter, List.mem_range]
  simp
open Classical in
noncomputable def readyM (T : Task) (D : List Bool) (V : List Int) : List Nat := if MemOk T D V then readyD (lowE T) D else []
open Classical in
noncomputable def finE (T : Task) (D : List Bool) (V : List Int) (node : Int) : Int :=
  if MemOk T D V then (if node < 0 ∨ (D.length : Int) ≤ node then 81 else if D.getD node.toNat false = true then 82 else if waitB (lowE T) D node.toNat = true then 83 else 0) else chkM T D V
noncomputable def finD (T : Task) (D : List Bool) (V : List Int) (node : Int) : List Bool := if finE T D V node = 0 then D.set node.toNat true else []
noncomputable def finV (T : Task) (inp : List Int) (D : List Bool) (V : List Int) (node : Int) : List Int := if finE T D V node = 0 then settleV T inp V node.toNat else []
def runK (T : Task) (inp : List Int) (l : List Nat) : List Int := l.foldl (settleV T inp) (List.replicate T.parts.length 0)
open Classical in
noncomputable def runV (T : Task) (inp : List Int) : List Int := if LowOk T then runK T inp (ord (lowW T).length (lowE T)) else []
theorem runK_snoc (T : Task) (inp : List Int) {l : List Nat} {j m : Nat} (h : l[j]? = some m) : runK T inp (l.take (j + 1)) = settleV T inp (runK T inp (l.take j)) m := by
  unfold runK
  rw [List.take_add_one, h, List.foldl_append]
  rfl
theorem runK_len (T : Task) (inp : List Int) : ∀ l : List Nat, (runK T inp l).length = T.parts.length := by
  intro l
  unfold runK
  have : ∀ (l : List Nat) (V : List Int), (l.foldl (settleV T inp) V).length = V.length := by
    intro l
    induction l with
    | nil => intro V; rfl
    | cons m l ih => intro V; rw [List.foldl_cons, ih, settleV_len]
  rw [this, List.length_replicate]

/-! What a node is -/
theorem piece_at {T : Task} {m : Nat} (hm : m < (lowP T).length) : (((lowP T).getD m (0, 0)).1 = -1 ∧ firN T.futures T.parts.length ≤ m) ∨ ∃ x i, x < T.parts.length ∧ i < nst T.futures x ∧ m = firN T.futures x + i ∧ ((lowP T).getD m (0, 0)).1 = (x : Int) := by
  have hP : ∀ n, m < firN T.futures n → ∃ x i, x < n ∧ i < nst T.futures x ∧ m = firN T.futures x + i := by
    intro n
    induction n with
    | zero => intro h; simp [firN] at h
    | succ n ih =>
      intro h
      rw [firN] at h
      by_cases h2 : m < firN T.futures n
      · obtain ⟨x, i, h3, h4, h5⟩ := ih h2
        exact ⟨x, i, by omega, h4, h5⟩
      · exact ⟨n, m - firN T.futures n, by omega, by omega, by omega⟩
  by_cases h : m < firN T.futures T.parts.length
  · obtain ⟨x, i, h1, h2, h3⟩ := hP _ h
    refine .inr ⟨x, i, h1, h2, h3, ?_⟩
    obtain ⟨t, ht, _⟩ := lowP_split h1
    rw [ht, h3, List.getD_eq_getElem?_getD, List.getElem?_append_right (by rw [pPs_len]; omega), pPs_len, Nat.add_sub_cancel_left, List.getElem?_append_left (by rw [stepP_len]; omega)]
    unfold stepP
    rw [List.getElem?_map, List.getElem?_range h2]
    rfl
  · refine .inl ⟨?_, by omega⟩
    unfold lowP at hm ⊢
    rw [List.length_append, pPs_len, List.length_map, List.length_range] at hm
    rw [List.getD_eq_getElem?_getD, List.getElem?_append_right (by rw [pPs_len]; omega), pPs_len, List.getElem?_map, List.getElem?_range (by omega)]
    rfl
theorem lasN_of {T : Task} {x : Nat} : lasN T.futures x = firN T.futures x + (nst T.futures x - 1) := by have := nst_pos T.futures x; unfold lasN; omega
theorem lasN_lt {T : Task} {x : Nat} (hx : x < T.parts.length) : lasN T.futures x < (lowP T).length := by
  have h1 := lasN_eq T.futures x
  have h2 := firN_mono T.futures (show x + 1 ≤ T.parts.length by omega)
  unfold lowP
  rw [List.length_append, pPs_len]
  omega
/-- A node that is a part's last step. -/
theorem piece_last {T : Task} {x : Nat} (hx : x < T.parts.length) : ((lowP T).getD (lasN T.futures x) (0, 0)).1 = (x : Int) := by
  have h1 := lasN_eq T.futures x
  have h2 := fir_lt T.futures x
  rcases piece_at (lasN_lt hx) with ⟨_, h⟩ | ⟨y, i, hy, hi, he, hp⟩
  · have := firN_mono T.futures (show x + 1 ≤ T.parts.length by omega)
    omega
  · have h3 : firN T.futures (y + 1) = firN T.futures y + nst T.futures y := rfl
    have := part_one (fs := T.futures) (x := x) (y := y) (i := lasN T.futures x) (by omega) (by omega) (by omega) (by omega)
    rw [hp, this]
theorem settle_last (T : Task) (inp V : List Int) {x : Nat} (hx : x < T.parts.length) : settleV T inp V (lasN T.futures x) = V.set x (partV T inp V x) := by
  unfold settleV
  rw [piece_last hx, last_last hx, if_pos rfl, Int.toNat_natCast]
theorem settle_no (T : Task) (inp V : List Int) {m : Nat} (hm : m < (lowP T).length) (h : ∀ x, x < T.parts.length → m ≠ lasN T.futures x) : settleV T inp V m = V := by
  unfold settleV
  rw [if_neg]
  rcases piece_at hm with ⟨h1, _⟩ | ⟨x, i, hx, _, _, hp⟩
  · rw [h1]
    unfold lastV
    rw [if_pos (by decide)]
    omega
  · rw [hp, last_last hx]
    have := h x hx
    omega

/-! Who waits for whom -/
theorem last_way {T : Task} {a x i : Nat} (hx : x < T.parts.length) (hi : i < nst T.futures x) (h : Way (lowE T) a (firN T.futures x + i)) : Way (lowE T) a (lasN T.futures x) := by
  rw [lasN_of]
  exact on_way hx (by omega) (by have := nst_pos T.futures x; omega) h
theorem feeds_way {T : Task} (hM : MayT T) {x : Nat} (hx : x < T.parts.length) {y : Int} (hy : y ∈ feedsL T.edges T.futures (x : Int)) : ∃ n : Nat, y = n ∧ n < T.parts.length ∧ Way (lowE T) (lasN T.futures n) (lasN T.futures x) := by
  unfold feedsL at hy
  rcases List.mem_append.mp hy with hy | hy
  · unfold feE at hy
    obtain ⟨e, he, rfl⟩ := List.mem_map.mp hy
    obtain ⟨he, h2⟩ := List.mem_filter.mp he
    have h2 : e.2 = (x : Int) := by simpa using h2
    have hF := hM.edges.1 e he
    have hw := edge_way he
    rw [h2, Int.toNat_natCast] at hw
    refine ⟨e.1.toNat, by omega, by omega, ?_⟩
    exact last_way hx (i := 0) (by have := nst_pos T.futures x; omega) hw
  · unfold feF at hy
    obtain ⟨j, hj, rfl⟩ := List.mem_map.mp hy
    obtain ⟨hjl, hu, _⟩ := mem_touK.mp hj
    have hf := hM.futures.each _ (futAt_mem hjl)
    obtain ⟨mN, hmN⟩ : ∃ q : Nat, (futAt T.futures j).1 = q := ⟨(futAt T.futures j).1.toNat, by have := hf.maker.1; omega⟩
    have hfe : futAt T.futures j = ((mN : Int), (x : Int), (futAt T.futures j).2.2) := by rw [← hmN, ← hu]
    obtain ⟨hm, _, _⟩ := fut_parts hM hjl hfe
    obtain ⟨q, hq, _, hed⟩ := fut_at hM hjl hfe
    have hn := nst_eq T.futures x
    exact ⟨mN, hmN, hm, last_way hx (i := q + 1) (by omega) (.one hed)⟩
/-! Values in the end -/
theorem low_fits {T : Task} (h : LowOk T) : Fits (lowP T).length (lowE T) := by
  have := h.2.fits
  rw [lowW_len h.1, ← lowP_len h.1] at this
  exact this
theorem MemOk.way {T : Task} {D : List Bool} {V : List Int} (h : MemOk T D V) {a b : Nat} (hw : Way (lowE T) a b) : D.getD b false = true → D.getD a false = true := by
  have one : ∀ a b, ed (lowE T) a b → D.getD b false = true → D.getD a false = true := fun a b he hb => by
    have := waitB_false.mp (h.done b hb) (a : Int) he
    simpa using this
  induction hw with
  | one e => exact one _ _ e
  | more _ e ih => exact fun hb => ih (one _ _ e hb)
theorem MemOk.step {T : Task} {D : List Bool} {V V' : List Int} (h : MemOk T D V) {m : Nat} (hm : m ∈ readyD (lowE T) D) (hV : V'.length = V.length) : MemOk T (D.set m true) V' := by
  obtain ⟨h1, h2, h3⟩ := mem_readyD.mp hm
  have hmono : ∀ j, D.getD j false = true → (D.set m true).getD j false = true := fun j hj => by
    rw [getD_set]
    split
    · rfl
    · exact hj
  refine ⟨h.low, by rw [List.length_set]; exact h.hD, by rw [hV]; exact h.hV, fun j hj => ?_⟩
  have hd : waitB (lowE T) D j = false := by
    by_cases e : m = j
    · subst e; exact h3
    · rw [getD_set, if_neg (fun k => e k.1)] at hj
      exact h.done j hj
  exact waitB_false.mpr fun a ha => hmono _ (waitB_false.mp hd a ha)
theorem repl_false (n j : Nat) : (List.replicate n false).getD j false = false := by
  rw [List.getD_eq_getElem?_getD, List.getElem?_replicate]
  split <;> rfl
theorem MemOk.new {T : Task} (h : LowOk T) : MemOk T (List.replicate (lowP T).length false) (List.replicate T.parts.length 0) :=
  ⟨h, by simp, by simp, fun j hj => by rw [repl_false] at hj; cases hj⟩
/-- Where not all is done something is ready. -/
theorem MemOk.some {T : Task} {D : List Bool} {V : List Int} (h : MemOk T D V) {j : Nat} (hj : j < D.length) (hf : D.getD j false = false) : ∃ m, m ∈ readyD (lowE T) D := by
  have hF := low_fits h.low
  obtain ⟨v, ⟨hv, hvf⟩, hp⟩ := source hF h.low.2.acyc (fun x => x < D.length ∧ D.getD x false = false) j ⟨hj, hf⟩
  refine ⟨v, mem_readyD.mpr ⟨hv, hvf, waitB_false.mpr fun a ha => ?_⟩⟩
  have hfa := hF _ ha
  simp only at hfa
  have := hp a.toNat (by unfold ed; rw [show ((a.toNat : Nat) : Int) = a by omega]; exact ha)
  cases hq : D.getD a.toNat false with
  | true => rfl
  | false => exact absurd ⟨by rw [h.hD]; omega, hq⟩ this
end Go.Proofs.YtkmajhbfmdoamaaGreatDoor
set_option linter.unusedVariables false
namespace Go.Proofs.YtkmajhbfmdoamaaGreatDoor

def exV : Task := ⟨8, 8, [(1, 1, 1), (0, 0, 1), (5, 0, 2)], [(0, 2)], [(1, 2, 1)], []⟩
theorem exVFew : FewT exV := ⟨by decide, by decide, by decide, by decide, by decide⟩
theorem exVMay : MayT exV where
  few := by unfold ManyT; decide
  time := by decide
  parts := by decide
  edges := ⟨by unfold Fits; decide, by decide, by decide⟩
  futures := by
    refine ⟨fun f hf => ?_, by decide⟩
    obtain rfl : f = (1, 2, 1) := by simpa [exV] using hf
    refine ⟨by decide, by decide, by decide, by decide, fun e he => ?_⟩
    have : e = (5, 0, 2) := by
      have h2 : (exV.parts)[2]? = some (5, 0, 2) := rfl
      rw [show ((1, 2, 1) : Int × Int × Int).2.1.toNat = 2 from rfl, h2] at he
      exact (Option.some.inj he).symm
    rw [this]
    decide
  bars := fun b hb => by simp [exV] at hb
theorem exVW : lowW exV = [1, 1, 1, 1] := by decide +kernel
theorem exVE : lowE exV = [(2, 3), (0, 2), (1, 3)] := by decide +kernel
theorem exVP : lowP exV = [(0, 0), (1, 0), (2, 0), (2, 1)] := by decide +kernel
theorem exVFits : Fits 4 [(2, 3), (0, 2), (1, 3)] := by unfold Fits; decide
theorem exVGood : May [1, 1, 1, 1] [(2, 3), (0, 2), (1, 3)] := ⟨by decide, by decide, by unfold WorkOk; decide, exVFits, by decide, by decide, acyc_of exVFits (by decide)⟩
theorem exVOk : LowOk exV := ⟨exVMay, by rw [exVW, exVE]; exact exVGood⟩
theorem exVX : lowX exV = 0 := lowX_zero.mpr exVOk
theorem exVRun : runV exV [2] = [1, 2, 6760] := by
  unfold runV
  rw [if_pos exVOk]
  decide +kernel
def exD0 : List Bool := [false, false, false, false]
def exD1 : List Bool := [true, false, false, false]
theorem exVM0 : MemOk exV exD0 [0, 0, 0] := ⟨exVOk, by rw [exVP]; rfl, rfl, fun j hj => by
  match j, hj with
  | 0, hj => cases hj
  | 1, hj => cases hj
  | 2, hj => cases hj
  | 3, hj => cases hj
  | j + 4, hj => simp [exD0] at hj⟩
theorem exVM1 : MemOk exV exD1 [1, 0, 0] := ⟨exVOk, by rw [exVP]; rfl, rfl, fun j hj => by
  match j, hj with
  | 0, hj => rw [exVE]; decide
  | 1, hj => cases hj
  | 2, hj => cases hj
  | 3, hj => cases hj
  | j + 4, hj => simp [exD1] at hj⟩
theorem exVF0 : finE exV exD0 [0, 0, 0] 0 = 0 := by
  unfold finE
  rw [if_pos exVM0, if_neg (by decide), if_neg (by decide), if_neg (by rw [exVE]; decide)]
theorem exVF3 : finE exV exD0 [0, 0, 0] 3 = 83 := by
  unfold finE
  rw [if_pos exVM0, if_neg (by decide), if_neg (by decide), if_pos (by rw [exVE]; decide)]
theorem exVD : finD exV exD0 [0, 0, 0] 0 = exD1 := by
  unfold finD
  rw [if_pos exVF0]
  rfl
theorem exVV : finV exV [2] exD0 [0, 0, 0] 0 = [1, 0, 0] := by
  unfold finV
  rw [if_pos exVF0]
  decide +kernel
theorem exVR : readyM exV exD1 [1, 0, 0] = [1, 2] := by
  unfold readyM
  rw [if_pos exVM1, exVE]
  decide
theorem exVC : chkM exV exD1 [1, 0, 0] = 0 := chkM_zero.mpr exVM1
theorem exVO : comeV 5 0 [] [1, 2] = 6760 := by decide
end Go.Proofs.YtkmajhbfmdoamaaGreatDoor
