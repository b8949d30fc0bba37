/- Deques (plain): steps of those who pop and steal, however they are mixed, in the seat YtcjmljpfhabmnaaDoor. No statement is proved here; it imports nothing of the program. -/
import Derived.Test.YtcjmljpfhabmnaaDoorZM2
set_option linter.unusedSimpArgs false
set_option linter.unusedVariables false
namespace Go.Proofs.YtcjmljpfhabmnaaDoor

/-- A taker. -/
structure Tkr where
  steal : Bool
  at_ : Int
  top : Int
  bot : Int
  got : Int
  end_ : Int
def newTk (s : Bool) : Tkr := ⟨s, 0, 0, 0, 0, 0⟩
/-- The number at a place. -/
def placeD (R : List Int) (k : Int) : Int := R.getD ((if k < 0 then 0 else k).toNat % R.length) 0
/-- A step of one who pops; of one who steals: the top, the bottom, the taker then. -/
def ownerD (R : List Int) (T B : Int) (t : Tkr) : Int × Int × Tkr :=
  if t.at_ = 0 then (T, B - 1, { t with bot := B - 1, at_ := 1 })
  else if t.at_ = 1 then
    if T < t.bot then (T, B, { t with top := T, got := placeD R t.bot, end_ := 1 })
    else if T = t.bot then (T, B, { t with top := T, at_ := 2 })
    else (T, B, { t with top := T, at_ := 3 })
  else if t.at_ = 2 then
    if T = t.top then (T + 1, B, { t with got := placeD R t.bot, at_ := 4 })
    else (T, B, { t with at_ := 3 })
  else (T, t.bot + 1, { t with end_ := if t.at_ = 3 then 2 else 1 })
def thiefD (R : List Int) (T B : Int) (t : Tkr) : Int × Int × Tkr :=
  if t.at_ = 0 then (T, B, { t with top := T, at_ := 1 })
  else if t.at_ = 1 then
    if B ≤ t.top then (T, B, { t with bot := B, end_ := 2 })
    else (T, B, { t with bot := B, at_ := 2 })
  else if t.at_ = 2 then (T, B, { t with got := placeD R t.top, at_ := 3 })
  else if T = t.top then (T + 1, B, { t with end_ := 1 })
  else (T, B, { t with got := 0, end_ := 3 })
def moveD (R : List Int) (T B : Int) (t : Tkr) : Int × Int × Tkr := if t.steal then thiefD R T B t else ownerD R T B t
/-- The numbers from one place on up to another. -/
def itemsD (R : List Int) (T V : Int) : List Int := (List.range (V - T).toNat).map fun (k : Nat) => placeD R (T + k)

section
variable {R : List Int} {T V : Int}
theorem itemsD_len : (itemsD R T V).length = (V - T).toNat := by simp [itemsD]
theorem itemsD_at {k : Nat} (h : (k : Int) < V - T) : (itemsD R T V)[k]? = some (placeD R (T + k)) := by
  unfold itemsD
  rw [List.getElem?_map, List.getElem?_range (by omega)]; rfl
theorem itemsD_empty (h : V ≤ T) : itemsD R T V = [] := by
  unfold itemsD
  rw [show (V - T).toNat = 0 by omega]; rfl
theorem itemsD_first (h : T < V) : itemsD R T V = placeD R T :: itemsD R (T + 1) V := by
  unfold itemsD
  rw [show (V - T).toNat = (V - (T + 1)).toNat + 1 by omega, List.range_succ_eq_map, List.map_cons, List.map_map]
  congr 1
  · simp
  · refine List.map_congr_left fun k _ => ?_
    show placeD R (T + ((k + 1 : Nat) : Int)) = placeD R (T + 1 + (k : Int))
    congr 1
    omega
theorem itemsD_last (h : T < V) : itemsD R T V = itemsD R T (V - 1) ++ [placeD R (V - 1)] := by
  unfold itemsD
  rw [show (V - T).toNat = (V - 1 - T).toNat + 1 by omega, List.range_succ, List.map_append, List.map_cons, List.map_nil]
  congr 3
  omega
theorem mod_ne {n a b : Nat} (h1 : a < b) (h2 : b - a < n) : a % n ≠ b % n := by
  intro h
  have h3 := Nat.div_add_mod a n
  have h4 := Nat.div_add_mod b n
  rw [h] at h3
  rcases Nat.lt_or_ge (a / n) (b / n) with h5 | h5
  · have h6 : n * (a / n + 1) ≤ n * (b / n) := Nat.mul_le_mul_left n h5
    rw [Nat.mul_add, Nat.mul_one] at h6
    omega
  · have h6 : n * (b / n) ≤ n * (a / n) := Nat.mul_le_mul_left n h5
    omega
theorem placeD_set {k B v : Int} (hk : 0 ≤ k) (hB : k < B) (hn : B - k < R.length) : placeD (R.set (B.toNat % R.length) v) k = placeD R k := by
  unfold placeD
  rw [List.length_set, if_neg (by omega)]
  have h1 := mod_ne (n := R.length) (a := k.toNat) (b := B.toNat) (by omega) (by omega)
  rw [List.getD_eq_getElem?_getD, List.getElem?_set_ne (Ne.symm h1), ← List.getD_eq_getElem?_getD]
theorem placeD_set_at {B v : Int} (hB : 0 ≤ B) (hn : 0 < R.length) : placeD (R.set (B.toNat % R.length) v) B = v := by
  unfold placeD
  rw [List.length_set, if_neg (by omega), List.getD_eq_getElem?_getD, List.getElem?_set_self (Nat.mod_lt _ hn)]; rfl
/-- What is pushed is the last one. -/
theorem itemsD_push {B v : Int} (h0 : 0 ≤ T) (h1 : T ≤ B) (h2 : B - T < R.length) : itemsD (R.set (B.toNat % R.length) v) T (B + 1) = itemsD R T B ++ [v] := by
  rw [itemsD_last (by omega), show B + 1 - 1 = B by omega, placeD_set_at (by omega) (by omega)]
  congr 1
  unfold itemsD
  refine List.map_congr_left fun k hk => ?_
  rw [List.mem_range] at hk
  exact placeD_set (by omega) (by omega) (by omega)
end

/-! However steps are mixed: an owner (0) and three thieves -/
def setT (tk : Nat → Tkr) (k : Nat) (t : Tkr) : Nat → Tkr := fun j => if j = k then t else tk j
theorem setT_at (tk : Nat → Tkr) (k : Nat) (t : Tkr) : setT tk k t k = t := if_pos rfl
theorem setT_ne (tk : Nat → Tkr) {k j : Nat} (t : Tkr) (h : j ≠ k) : setT tk k t j = tk j := if_neg h
/-- Up to where numbers are there: who pops has not taken the last one yet. -/
def virD (B : Int) (o : Tkr) : Int := if o.at_ = 0 then B else B + 1
def handD (o : Tkr) : List Int := if o.at_ = 4 then [o.got] else []
/-- One who pops, on the way. -/
def OwnerOk (T B : Int) (o : Tkr) : Prop := o.steal = false ∧ o.end_ = 0 ∧ (0 ≤ o.top ∧ o.top ≤ T) ∧
  (o.at_ = 0 ∨ (o.bot = B ∧ (o.at_ = 1 ∨ (o.at_ = 2 ∧ o.top = B ∧ B ≤ T) ∨ (o.at_ = 3 ∧ T = B + 1) ∨ (o.at_ = 4 ∧ T = B + 1))))
def ThiefOk (R : List Int) (T V P : Int) (t : Tkr) : Prop := t.steal = true ∧ t.end_ = 0 ∧ (0 ≤ t.at_ ∧ t.at_ ≤ 3) ∧ (1 ≤ t.at_ → 0 ≤ t.top ∧ t.top ≤ T) ∧ (-1 ≤ t.bot ∧ t.bot ≤ P) ∧
  (2 ≤ t.at_ → t.top = T → T < V) ∧ (t.at_ = 3 → t.top = T → t.got = placeD R T)
structure PlayInv (n : Nat) (R : List Int) (T B : Int) (tk : Nat → Tkr) (got : List Int) (P : Nat) : Prop where
  len : R.length = n
  pos : 1 ≤ n
  owner : OwnerOk T B (tk 0)
  top : 0 ≤ T
  lo : T ≤ virD B (tk 0)
  hi : virD B (tk 0) ≤ T + n
  few : virD B (tk 0) ≤ P
  rise : (itemsD R T (virD B (tk 0))).Pairwise (· < ·)
  once : ∀ x, got.count x + (handD (tk 0)).count x + (itemsD R T (virD B (tk 0))).count x = if 1 ≤ x ∧ x ≤ (P : Int) then 1 else 0
  thief : ∀ k, 1 ≤ k → k < 4 → ThiefOk R T (virD B (tk 0)) P (tk k)
theorem thief_mk {R : List Int} {T V P a top bot g : Int} (h0 : 0 ≤ a) (h3 : a ≤ 3) (ht : 1 ≤ a → 0 ≤ top ∧ top ≤ T) (hb : -1 ≤ bot ∧ bot ≤ P) (hv : 2 ≤ a → top = T → T < V) (hg : a = 3 → top = T → g = placeD R T) : ThiefOk R T V P ⟨true, a, top, bot, g, 0⟩ :=
  ⟨rfl, rfl, ⟨h0, h3⟩, ht, hb, hv, hg⟩
theorem thief_new (R : List Int) (T V P : Int) (h : 0 ≤ P) : ThiefOk R T V P (newTk true) := thief_mk (by decide) (by decide) (fun h => absurd h (by decide)) ⟨by decide, h⟩ (fun h => absurd h (by decide)) (fun h => absurd h (by decide))
def startT : Nat → Tkr := fun k => newTk (decide (k ≠ 0))
theorem PlayInv.start {n : Nat} (h : 1 ≤ n) : PlayInv n (List.replicate n 0) 0 0 startT [] 0 := by
  refine ⟨by simp, h, ⟨rfl, rfl, ⟨by decide, by decide⟩, .inl rfl⟩, by decide, by decide, by show (0 : Int) ≤ 0 + n; omega, by decide, ?_, fun x => ?_, fun k h1 h2 => ?_⟩
  · show (itemsD _ 0 0).Pairwise _
    rw [itemsD_empty (by omega)]; exact List.Pairwise.nil
  · show 0 + 0 + (itemsD _ 0 0).count x = _
    rw [itemsD_empty (by omega), if_neg (by omega)]; rfl
  · have hs : startT k = newTk true := by unfold startT; rw [decide_eq_true (by omega)]
    rw [hs]
    exact thief_new _ _ _ _ (by decide)
section
variable {n : Nat} {R : List Int} {T B : Int} {tk : Nat → Tkr} {got : List Int} {P : Nat}
theorem count_one (l : List Int) (x y : Int) : (l ++ [y]).count x = l.count x + if y = x then 1 else 0 := by
  rw [List.count_append, List.count_singleton]
  simp only [beq_iff_eq]
theorem PlayInv.le (h : PlayInv n R T B tk got P) : ∀ x ∈ itemsD R T (virD B (tk 0)), 1 ≤ x ∧ x ≤ (P : Int) := fun x hx => by
  have h1 := h.once x
  have h2 := List.count_pos_iff.mpr hx
  split at h1
  · next hh => exact hh
  · omega
/-- The owner pushes. -/
theorem PlayInv.push (h : PlayInv n R T B tk got P) (hi : (tk 0).at_ = 0) (hr : B - T < n) : PlayInv n (R.set (B.toNat % R.length) ((P : Int) + 1)) T (B + 1) tk got (P + 1) := by
  have hle := h.le
  obtain ⟨len, pos, owner, top, lo, hi2, few, rise, once, thief⟩ := h
  have hv : ∀ b, virD b (tk 0) = b := fun b => by unfold virD; rw [if_pos hi]
  rw [hv] at lo hi2 few rise hle
  simp only [hv] at once thief
  have hit := itemsD_push (R := R) (T := T) (B := B) (v := (P : Int) + 1) top lo (by omega)
  refine ⟨by rw [List.length_set]; exact len, pos, ⟨owner.1, owner.2.1, owner.2.2.1, .inl hi⟩, top, by rw [hv]; omega, by rw [hv]; omega, by rw [hv]; omega, ?_, fun x => ?_, fun k h1 h2 => ?_⟩
  · rw [hv, hit, List.pairwise_append]
    refine ⟨rise, List.pairwise_singleton _ _, fun a ha b hb => ?_⟩
    rw [List.mem_singleton] at hb
    have := hle a ha
    omega
  · rw [hv, hit, count_one]
    have := once x
    by_cases hx : (P : Int) + 1 = x
    · rw [if_pos hx, if_pos (by omega)]
      rw [if_neg (by omega)] at this
      omega
    · rw [if_neg hx]
      by_cases h3 : 1 ≤ x ∧ x ≤ (P : Int)
      · rw [if_pos h3] at this
        rw [if_pos (by omega)]; omega
      · rw [if_neg h3] at this
        rw [if_neg (by omega)]; omega
  · rw [hv]
    obtain ⟨t1, t2, t3, t4, tb, t5, t6⟩ := thief k h1 h2
    refine ⟨t1, t2, t3, t4, ⟨tb.1, by have := tb.2; omega⟩, fun h3 h4 => by have := t5 h3 h4; omega, fun h3 h4 => ?_⟩
    have h5 := t5 (by omega) h4
    rw [t6 h3 h4, placeD_set top h5 (by omega)]
/-- A thief whose place isn't the top's any more. -/
theorem ThiefOk.late {V V' P : Int} {t : Tkr} (h : ThiefOk R T V P t) : ThiefOk R (T + 1) V' P t := by
  obtain ⟨t1, t2, t3, t4, tb, t5, t6⟩ := h
  exact ⟨t1, t2, t3, fun q => ⟨(t4 q).1, by have := (t4 q).2; omega⟩, tb, fun q e => by have := (t4 (by omega)).2; omega, fun q e => by have := (t4 (by omega)).2; omega⟩
theorem ThiefOk.less {V V' P : Int} {t : Tkr} (h : ThiefOk R T V P t) (hV : T < V → T < V') : ThiefOk R T V' P t := by
  obtain ⟨t1, t2, t3, t4, tb, t5, t6⟩ := h
  exact ⟨t1, t2, t3, t4, tb, fun q e => hV (t5 q e), t6⟩
/-- What becomes of a taker behind a step, and of what was got. -/
def nextT (t : Tkr) : Tkr := if t.end_ = 0 then t else newTk t.steal
def nextG (got : List Int) (t : Tkr) : List Int := if t.end_ = 1 then got ++ [t.got] else got
theorem PlayInv.thiefs (h : PlayInv n R T B tk got P) {k : Nat} (h1 : 1 ≤ k) (h2 : k < 4) {t : Tkr} {V : Int} (hV : V = virD B (tk 0)) (ht : ThiefOk R T V P (nextT t)) : ∀ j, 1 ≤ j → j < 4 → ThiefOk R T (virD B (setT tk k (nextT t) 0)) P (setT tk k (nextT t) j) := fun j j1 j2 => by
  rw [setT_ne _ _ (by omega : (0 : Nat) ≠ k), ← hV]
  by_cases hjk : j = k
  · subst hjk; rw [setT_at]; exact ht
  · rw [setT_ne _ _ hjk, hV]; exact h.thief j j1 j2
/-- A step of one who steals. -/
theorem PlayInv.steal (h : PlayInv n R T B tk got P) {k : Nat} (h1 : 1 ≤ k) (h2 : k < 4) :
    PlayInv n R (thiefD R T B (tk k)).1 (thiefD R T B (tk k)).2.1 (setT tk k (nextT (thiefD R T B (tk k)).2.2)) (nextG got (thiefD R T B (tk k)).2.2) P := by
  obtain ⟨t1, t2, t3, t4, tb, t5, t6⟩ := h.thief k h1 h2
  have h0 : ∀ t, setT tk k t 0 = tk 0 := fun t => setT_ne _ _ (by omega)
  have hBV : B ≤ virD B (tk 0) ∧ virD B (tk 0) ≤ B + 1 := by unfold virD; split <;> omega
  have hlo := h.lo
  have hfew := h.few
  have htop := h.top
  -- nothing of the deque has changed, nothing was got
  have stay : ∀ t' : Tkr, t'.end_ ≠ 1 → ThiefOk R T (virD B (tk 0)) P (nextT t') → PlayInv n R T B (setT tk k (nextT t')) (nextG got t') P := fun t' he ht => by
    have hg : nextG got t' = got := if_neg he
    rw [hg]
    exact ⟨h.len, h.pos, by rw [h0]; exact h.owner, h.top, by rw [h0]; exact h.lo, by rw [h0]; exact h.hi, by rw [h0]; exact h.few, by rw [h0]; exact h.rise, fun x => by rw [h0]; exact h.once x, h.thiefs h1 h2 rfl ht⟩
  obtain ⟨t, ht⟩ : ∃ t, t = tk k := ⟨_, rfl⟩
  rw [← ht] at t1 t2 t3 t4 tb t5 t6 ⊢
  obtain ⟨st, at_, top, bot, gt, en⟩ := t
  simp only at t1 t2 t3 t4 tb t5 t6
  subst t1 t2
  unfold thiefD
  by_cases a0 : at_ = 0
  · rw [if_pos a0]
    exact stay ⟨true, 1, T, bot, gt, 0⟩ (by show ¬ (0 : Int) = 1; decide) (thief_mk (by decide) (by decide) (fun _ => ⟨h.top, Int.le_refl _⟩) tb (fun q => absurd q (by decide)) (fun q => absurd q (by decide)))
  rw [if_neg a0]
  by_cases a1 : at_ = 1
  · rw [if_pos a1]
    obtain ⟨p1, p2⟩ := t4 (by omega)
    by_cases hb : B ≤ top
    · rw [if_pos hb]
      exact stay ⟨true, at_, top, B, gt, 2⟩ (by show ¬ (2 : Int) = 1; decide) (thief_new _ _ _ _ (by omega))
    · rw [if_neg hb]
      exact stay ⟨true, 2, top, B, gt, 0⟩ (by show ¬ (0 : Int) = 1; decide) (thief_mk (by decide) (by decide) (fun _ => ⟨p1, p2⟩) ⟨by omega, by omega⟩ (fun _ e => by omega) (fun q => absurd q (by decide)))
  rw [if_neg a1]
  by_cases a2 : at_ = 2
  · rw [if_pos a2]
    exact stay ⟨true, 3, top, bot, placeD R top, 0⟩ (by show ¬ (0 : Int) = 1; decide) (thief_mk (by decide) (by decide) (fun _ => t4 (by omega)) tb (fun _ e => t5 (by omega) e) (fun _ e => by rw [e]))
  rw [if_neg a2]
  have a3 : at_ = 3 := by omega
  by_cases hT : T = top
  · rw [if_pos hT]
    have hlt := t5 (by omega) hT.symm
    have hgt := t6 a3 hT.symm
    have hfi := itemsD_first (R := R) hlt
    have hr := h.rise
    rw [hfi] at hr
    show PlayInv n R (T + 1) B (setT tk k (newTk true)) (got ++ [gt]) P
    obtain ⟨o1, o2, ot, o3⟩ := h.owner
    refine ⟨h.len, h.pos, ⟨by rw [h0]; exact o1, by rw [h0]; exact o2, by rw [h0]; exact ⟨ot.1, by omega⟩, ?_⟩, by omega, by rw [h0]; omega, by rw [h0]; have := h.hi; omega, by rw [h0]; exact h.few, by rw [h0]; exact (List.pairwise_cons.mp hr).2, fun x => ?_, fun j j1 j2 => ?_⟩
    · rw [h0]
      rcases o3 with o3 | ⟨o4, o5 | ⟨o5, o6, o7⟩ | ⟨o5, o6⟩ | ⟨o5, o6⟩⟩
      · exact .inl o3
      · exact .inr ⟨o4, .inl o5⟩
      · exact .inr ⟨o4, .inr (.inl ⟨o5, o6, by omega⟩)⟩
      · exfalso
        unfold virD at hlt
        rw [if_neg (by omega)] at hlt
        omega
      · exfalso
        unfold virD at hlt
        rw [if_neg (by omega)] at hlt
        omega
    · rw [h0]
      have := h.once x
      rw [hfi, List.count_cons] at this
      rw [count_one, hgt]
      by_cases hx : placeD R T = x
      · rw [if_pos hx]
        rw [hx] at this
        simp only [beq_self_eq_true, if_true] at this
        omega
      · rw [if_neg hx]
        have hx' : (placeD R T == x) = false := by simpa using hx
        rw [hx'] at this
        simp only [Bool.false_eq_true, if_false] at this
        omega
    · rw [h0]
      by_cases hjk : j = k
      · subst hjk; rw [setT_at]; exact thief_new _ _ _ _ (by omega)
      · rw [setT_ne _ _ hjk]; exact (h.thief j j1 j2).late
  · rw [if_neg hT]
    exact stay ⟨true, at_, top, bot, 0, 3⟩ (by show ¬ (3 : Int) = 1; decide) (thief_new _ _ _ _ (by omega))
theorem owner_mk {T B a top bot g : Int} (ht : 0 ≤ top ∧ top ≤ T) (h : a = 0 ∨ (bot = B ∧ (a = 1 ∨ (a = 2 ∧ top = B ∧ B ≤ T) ∨ (a = 3 ∧ T = B + 1) ∨ (a = 4 ∧ T = B + 1)))) : OwnerOk T B ⟨false, a, top, bot, g, 0⟩ := ⟨rfl, rfl, ht, h⟩
/-- A step of one who pops. -/
theorem PlayInv.pop (h : PlayInv n R T B tk got P) :
    PlayInv n R (ownerD R T B (tk 0)).1 (ownerD R T B (tk 0)).2.1 (setT tk 0 (nextT (ownerD R T B (tk 0)).2.2)) (nextG got (ownerD R T B (tk 0)).2.2) P := by
  obtain ⟨len, pos, owner, htop, lo, hi, few, rise, once, thief⟩ := h
  obtain ⟨t, ht⟩ : ∃ t, t = tk 0 := ⟨_, rfl⟩
  rw [← ht] at owner lo hi few rise
  simp only [← ht] at once thief
  rw [← ht]
  obtain ⟨st, a, top, bot, gt, en⟩ := t
  obtain ⟨o1, o2, ⟨ot1, ot2⟩, o3⟩ := owner
  simp only at o1 o2 ot1 ot2 o3
  subst o1 o2
  have hth : ∀ (o : Tkr) (T' V' : Int), (∀ j, 1 ≤ j → j < 4 → ThiefOk R T' V' P (tk j)) → ∀ j, 1 ≤ j → j < 4 → ThiefOk R T' V' P (setT tk 0 o j) := fun o T' V' q j j1 j2 => by
    rw [setT_ne _ _ (by omega)]; exact q j j1 j2
  unfold ownerD
  by_cases a0 : a = 0
  · subst a0
    have hv : ∀ g2, virD (B - 1) ⟨false, 1, top, B - 1, g2, 0⟩ = B := fun g2 => by show (if (1 : Int) = 0 then B - 1 else B - 1 + 1) = B; rw [if_neg (by decide)]; omega
    have hv0 : virD B ⟨false, 0, top, bot, gt, 0⟩ = B := if_pos rfl
    rw [hv0] at lo hi few rise
    simp only [hv0] at once thief
    rw [if_pos rfl]
    show PlayInv n R T (B - 1) (setT tk 0 ⟨false, 1, top, B - 1, gt, 0⟩) got P
    refine ⟨len, pos, ?_, htop, ?_, ?_, ?_, ?_, fun x => ?_, ?_⟩ <;> (try simp only [setT_at, hv])
    · exact owner_mk ⟨ot1, ot2⟩ (.inr ⟨rfl, .inl rfl⟩)
    · exact lo
    · exact hi
    · exact few
    · exact rise
    · exact once x
    · exact hth _ _ _ thief
  rw [if_neg a0]
  obtain ⟨rfl, o3⟩ := o3.resolve_left a0
  have hv0 : virD bot ⟨false, a, top, bot, gt, 0⟩ = bot + 1 := if_neg a0
  rw [hv0] at lo hi few rise
  simp only [hv0] at once thief
  by_cases a1 : a = 1
  · subst a1
    rw [if_pos rfl]
    have hh : handD ⟨false, 1, top, bot, gt, 0⟩ = [] := rfl
    by_cases h1 : T < bot
    · rw [if_pos h1]
      show PlayInv n R T bot (setT tk 0 (newTk false)) (got ++ [placeD R bot]) P
      have hl := itemsD_last (R := R) (T := T) (V := bot + 1) (by omega)
      rw [show bot + 1 - 1 = bot by omega] at hl
      have hv : virD bot (newTk false) = bot := rfl
      have hh2 : handD (newTk false) = [] := rfl
      refine ⟨len, pos, ?_, htop, ?_, ?_, ?_, ?_, fun x => ?_, ?_⟩ <;> (try simp only [setT_at, hv])
      · exact ⟨rfl, rfl, ⟨by decide, htop⟩, .inl rfl⟩
      · omega
      · omega
      · omega
      · rw [hl] at rise
        exact (List.pairwise_append.mp rise).1
      · have := once x
        rw [hl, hh, count_one, List.count_nil] at this
        rw [hh2, count_one, List.count_nil]
        omega
      · exact hth _ _ _ fun j j1 j2 => (thief j j1 j2).less fun _ => h1
    · rw [if_neg h1]
      by_cases h2 : T = bot
      · rw [if_pos h2]
        show PlayInv n R T bot (setT tk 0 ⟨false, 2, T, bot, gt, 0⟩) got P
        have hv : virD bot ⟨false, 2, T, bot, gt, 0⟩ = bot + 1 := rfl
        refine ⟨len, pos, ?_, htop, ?_, ?_, ?_, ?_, fun x => ?_, ?_⟩ <;> (try simp only [setT_at, hv])
        · exact owner_mk ⟨htop, Int.le_refl _⟩ (.inr ⟨rfl, .inr (.inl ⟨rfl, h2, by omega⟩)⟩)
        · exact lo
        · exact hi
        · exact few
        · exact rise
        · exact once x
        · exact hth _ _ _ thief
      · rw [if_neg h2]
        show PlayInv n R T bot (setT tk 0 ⟨false, 3, T, bot, gt, 0⟩) got P
        have hv : virD bot ⟨false, 3, T, bot, gt, 0⟩ = bot + 1 := rfl
        refine ⟨len, pos, ?_, htop, ?_, ?_, ?_, ?_, fun x => ?_, ?_⟩ <;> (try simp only [setT_at, hv])
        · exact owner_mk ⟨htop, Int.le_refl _⟩ (.inr ⟨rfl, .inr (.inr (.inl ⟨rfl, by omega⟩))⟩)
        · exact lo
        · exact hi
        · exact few
        · exact rise
        · exact once x
        · exact hth _ _ _ thief
  rw [if_neg a1]
  by_cases a2 : a = 2
  · subst a2
    obtain ⟨o4, o5⟩ : top = bot ∧ bot ≤ T := by
      rcases o3 with q | ⟨_, q⟩ | ⟨q, _⟩ | ⟨q, _⟩
      · exact absurd q (by decide)
      · exact q
      · exact absurd q (by decide)
      · exact absurd q (by decide)
    subst o4
    rw [if_pos rfl]
    have hh : handD ⟨false, 2, top, top, gt, 0⟩ = [] := rfl
    by_cases h1 : T = top
    · rw [if_pos h1]
      subst h1
      show PlayInv n R (T + 1) T (setT tk 0 ⟨false, 4, T, T, placeD R T, 0⟩) got P
      have hv : virD T ⟨false, 4, T, T, placeD R T, 0⟩ = T + 1 := rfl
      have hf := itemsD_first (R := R) (T := T) (V := T + 1) (by omega)
      rw [itemsD_empty (Int.le_refl _)] at hf
      have hh2 : handD ⟨false, 4, T, T, placeD R T, 0⟩ = [placeD R T] := rfl
      refine ⟨len, pos, ?_, ?_, ?_, ?_, ?_, ?_, fun x => ?_, ?_⟩ <;> (try simp only [setT_at, hv])
      · exact owner_mk ⟨htop, by omega⟩ (.inr ⟨rfl, .inr (.inr (.inr ⟨rfl, rfl⟩))⟩)
      · omega
      · omega
      · omega
      · exact few
      · rw [itemsD_empty (Int.le_refl _)]; exact List.Pairwise.nil
      · have := once x
        rw [hf, hh, List.count_nil] at this
        rw [hh2, itemsD_empty (Int.le_refl _), List.count_nil]
        omega
      · exact hth _ _ _ fun j j1 j2 => (thief j j1 j2).late
    · rw [if_neg h1]
      show PlayInv n R T top (setT tk 0 ⟨false, 3, top, top, gt, 0⟩) got P
      have hv : virD top ⟨false, 3, top, top, gt, 0⟩ = top + 1 := rfl
      refine ⟨len, pos, ?_, htop, ?_, ?_, ?_, ?_, fun x => ?_, ?_⟩ <;> (try simp only [setT_at, hv])
      · exact owner_mk ⟨ot1, ot2⟩ (.inr ⟨rfl, .inr (.inr (.inl ⟨rfl, by omega⟩))⟩)
      · exact lo
      · exact hi
      · exact few
      · exact rise
      · exact once x
      · exact hth _ _ _ thief
  rw [if_neg a2]
  by_cases a3 : a = 3
  · subst a3
    rw [if_pos rfl]
    show PlayInv n R T (bot + 1) (setT tk 0 (newTk false)) got P
    have hv : virD (bot + 1) (newTk false) = bot + 1 := rfl
    refine ⟨len, pos, ?_, htop, ?_, ?_, ?_, ?_, fun x => ?_, ?_⟩ <;> (try simp only [setT_at, hv])
    · exact ⟨rfl, rfl, ⟨by decide, htop⟩, .inl rfl⟩
    · exact lo
    · exact hi
    · exact few
    · exact rise
    · exact once x
    · exact hth _ _ _ thief
  · have a4 : a = 4 := by
      rcases o3 with q | ⟨q, _⟩ | ⟨q, _⟩ | ⟨q, _⟩
      · exact absurd q a1
      · exact absurd q a2
      · exact absurd q a3
      · exact q
    subst a4
    rw [if_neg (by show ¬ (4 : Int) = 3; decide)]
    show PlayInv n R T (bot + 1) (setT tk 0 (newTk false)) (got ++ [gt]) P
    have hv : virD (bot + 1) (newTk false) = bot + 1 := rfl
    have hh : handD ⟨false, 4, top, bot, gt, 0⟩ = [gt] := rfl
    have hh2 : handD (newTk false) = [] := rfl
    refine ⟨len, pos, ?_, htop, ?_, ?_, ?_, ?_, fun x => ?_, ?_⟩ <;> (try simp only [setT_at, hv])
    · exact ⟨rfl, rfl, ⟨by decide, htop⟩, .inl rfl⟩
    · exact lo
    · exact hi
    · exact few
    · exact rise
    · have := once x
      rw [hh] at this
      rw [hh2, List.count_append, List.count_nil]
      omega
    · exact hth _ _ _ thief
/-- A step of any taker. -/
theorem PlayInv.move (h : PlayInv n R T B tk got P) {k : Nat} (hk : k < 4) :
    PlayInv n R (moveD R T B (tk k)).1 (moveD R T B (tk k)).2.1 (setT tk k (nextT (moveD R T B (tk k)).2.2)) (nextG got (moveD R T B (tk k)).2.2) P := by
  unfold moveD
  rcases Nat.eq_zero_or_pos k with rfl | h1
  · rw [if_neg (by rw [h.owner.1]; decide)]; exact h.pop
  · rw [if_pos (h.thief k h1 hk).1]; exact h.steal h1 hk
/-- What the deque is like, and a taker on the way: no step tells an error. -/
theorem PlayInv.fine (h : PlayInv n R T B tk got P) : (0 ≤ T ∧ T ≤ P) ∧ T - 1 ≤ B ∧ B ≤ T + n ∧ -1 ≤ B ∧ B ≤ P := by
  have hBV : B ≤ virD B (tk 0) ∧ virD B (tk 0) ≤ B + 1 := by unfold virD; split <;> omega
  have := h.top
  have := h.lo
  have := h.hi
  have := h.few
  omega
theorem PlayInv.taker (h : PlayInv n R T B tk got P) {k : Nat} (hk : k < 4) : (tk k).steal = decide (k ≠ 0) ∧ (tk k).end_ = 0 ∧ 0 ≤ (tk k).at_ ∧ (tk k).at_ ≤ 4 ∧ (k ≠ 0 → (tk k).at_ ≤ 3) ∧ ((tk k).at_ ≠ 0 → (-1 ≤ (tk k).top ∧ (tk k).top ≤ P) ∧ -1 ≤ (tk k).bot ∧ (tk k).bot ≤ P) := by
  have hf := h.fine
  rcases Nat.eq_zero_or_pos k with rfl | h1
  · obtain ⟨o1, o2, o3, o4⟩ := h.owner
    refine ⟨by rw [o1]; rfl, o2, ?_, ?_, fun q => absurd rfl q, fun q => ⟨by omega, ?_⟩⟩
    · omega
    · omega
    · have := (o4.resolve_left q).1
      omega
  · obtain ⟨t1, t2, t3, t4, tb, t5, t6⟩ := h.thief k h1 hk
    exact ⟨by rw [t1, decide_eq_true (by omega)], t2, t3.1, by omega, fun _ => t3.2, fun q => ⟨by have := t4 (by omega); omega, tb⟩⟩
/-! In the end -/
/-- How far a taker is. -/
def lvD (t : Tkr) : Int := if t.at_ = 4 then 3 else t.at_
theorem PlayInv.lv (h : PlayInv n R T B tk got P) {k : Nat} (hk : k < 4) (ha : (tk k).at_ ≠ 0) : (nextT (moveD R T B (tk k)).2.2).at_ = 0 ∨ lvD (tk k) + 1 ≤ lvD (nextT (moveD R T B (tk k)).2.2) := by
  obtain ⟨q1, q2, q3, q4, q5, q6⟩ := h.taker hk
  obtain ⟨t, ht⟩ : ∃ t, t = tk k := ⟨_, rfl⟩
  rw [← ht] at q1 q2 q3 q4 q5 ha ⊢
  obtain ⟨st, a, top, bot, gt, en⟩ := t
  simp only at q1 q2 q3 q4 q5 ha
  subst q2
  have new : ∀ b, (newTk b).at_ = 0 := fun b => rfl
  unfold moveD
  by_cases hk0 : k = 0
  · rw [decide_eq_false (by omega)] at q1
    subst q1
    rw [if_neg (by show ¬ false = true; decide)]
    unfold ownerD
    rw [if_neg ha]
    by_cases a1 : a = 1
    · subst a1
      rw [if_pos rfl]
      split
      · exact .inl rfl
      · split
        · exact .inr (by show (1 : Int) + 1 ≤ 2; decide)
        · exact .inr (by show (1 : Int) + 1 ≤ 3; decide)
    rw [if_neg a1]
    by_cases a2 : a = 2
    · subst a2
      rw [if_pos rfl]
      split
      · exact .inr (by show (2 : Int) + 1 ≤ 3; decide)
      · exact .inr (by show (2 : Int) + 1 ≤ 3; decide)
    rw [if_neg a2]
    left
    by_cases a3 : a = 3
    · rw [if_pos a3]; rfl
    · rw [if_neg a3]; rfl
  · rw [decide_eq_true hk0] at q1
    subst q1
    rw [if_pos rfl]
    unfold thiefD
    rw [if_neg ha]
    by_cases a1 : a = 1
    · subst a1
      rw [if_pos rfl]
      split
      · exact .inl rfl
      · exact .inr (by show (1 : Int) + 1 ≤ 2; decide)
    rw [if_neg a1]
    by_cases a2 : a = 2
    · subst a2
      rw [if_pos rfl]
      exact .inr (by show (2 : Int) + 1 ≤ 3; decide)
    rw [if_neg a2]
    left
    split <;> rfl
/-- How often it was a taker's turn, in the end. -/
def turnsD (k j : Nat) : Nat := (j + 3 - k) / 4
structure FinInv (tk : Nat → Tkr) (j : Nat) : Prop where
  on : ∀ k, k < 4 → (tk k).at_ ≠ 0 → (turnsD k j : Int) + 1 ≤ lvD (tk k)
theorem FinInv.start (h : PlayInv n R T B tk got P) : FinInv tk 0 := ⟨fun k hk ha => by
  obtain ⟨q1, q2, q3, q4, q5, q6⟩ := h.taker hk
  have : turnsD k 0 = 0 := by unfold turnsD; omega
  rw [this]
  unfold lvD
  split <;> omega⟩
theorem FinInv.skip {j : Nat} (h : FinInv tk j) (ha : (tk (j % 4)).at_ = 0) : FinInv tk (j + 1) := ⟨fun k hk h1 => by
  have h2 : k ≠ j % 4 := fun e => h1 (by rw [e]; exact ha)
  have h3 : turnsD k (j + 1) = turnsD k j := by unfold turnsD; omega
  rw [h3]; exact h.on k hk h1⟩
theorem FinInv.move {j : Nat} (h : FinInv tk j) (hi : PlayInv n R T B tk got P) (ha : (tk (j % 4)).at_ ≠ 0) : FinInv (setT tk (j % 4) (nextT (moveD R T B (tk (j % 4))).2.2)) (j + 1) := ⟨fun k hk h1 => by
  by_cases h2 : k = j % 4
  · subst h2
    rw [setT_at] at h1 ⊢
    have h3 := (hi.lv (by omega) ha).resolve_left h1
    have h4 := h.on _ hk ha
    have h5 : turnsD (j % 4) (j + 1) = turnsD (j % 4) j + 1 := by unfold turnsD; omega
    rw [h5]
    omega
  · rw [setT_ne _ _ h2] at h1 ⊢
    have h3 : turnsD k (j + 1) = turnsD k j := by unfold turnsD; omega
    rw [h3]; exact h.on k hk h1⟩
theorem FinInv.end_ {j : Nat} (h : FinInv tk j) (hi : PlayInv n R T B tk got P) (hj : 16 ≤ j) : ∀ k, k < 4 → (tk k).at_ = 0 := fun k hk => Classical.byContradiction fun ha => by
  have h1 := h.on k hk ha
  obtain ⟨q1, q2, q3, q4, q5, q6⟩ := hi.taker hk
  have h2 : lvD (tk k) ≤ 3 := by
    unfold lvD
    split <;> omega
  have h3 : 4 ≤ turnsD k j := by unfold turnsD; omega
  omega
theorem pairwise_count : ∀ {l : List Int}, l.Pairwise (· < ·) → ∀ x, l.count x ≤ 1
  | [], _, x => by simp
  | a :: l, h, x => by
    obtain ⟨h1, h2⟩ := List.pairwise_cons.mp h
    have ih := pairwise_count h2 x
    rw [List.count_cons]
    by_cases ha : a = x
    · subst ha
      have : l.count a = 0 := List.count_eq_zero.mpr fun hm => by have := h1 a hm; omega
      rw [this]
      simp
    · have : (a == x) = false := by simpa using ha
      rw [this]
      simpa using ih
theorem sumN_const1 : ∀ m : Nat, sumN (fun x => if 1 ≤ (x : Int) then 1 else 0) (m + 1) = m
  | 0 => rfl
  | m + 1 => by
    show sumN _ (m + 1) + (if (1 : Int) ≤ ((m + 1 : Nat) : Int) then 1 else 0) = m + 1
    rw [sumN_const1 m, if_pos (by omega)]
/-- At the end each number that was pushed was got once, or is there still. -/
theorem PlayInv.told (h : PlayInv n R T B tk got P) (hi : (tk 0).at_ = 0) :
    (∀ x : Int, 1 ≤ x → x ≤ P → got.count x + (if x ∈ itemsD R T B then 1 else 0) = 1) ∧ (itemsD R T B).Pairwise (· < ·) ∧ got.length + (itemsD R T B).length = P ∧ T ≤ B := by
  obtain ⟨len, pos, owner, htop, lo, hi2, few, rise, once, thief⟩ := h
  have hv : virD B (tk 0) = B := if_pos hi
  have hh : handD (tk 0) = [] := if_neg (by rw [hi]; decide)
  rw [hv] at lo rise
  simp only [hv, hh, List.count_nil, Nat.add_zero] at once
  refine ⟨fun x h1 h2 => ?_, rise, ?_, lo⟩
  · have h3 := once x
    rw [if_pos ⟨h1, h2⟩] at h3
    have h4 := pairwise_count rise x
    by_cases hm : x ∈ itemsD R T B
    · rw [if_pos hm]
      have := List.count_pos_iff.mpr hm
      omega
    · rw [if_neg hm]
      rw [List.count_eq_zero.mpr hm] at h3
      omega
  · have h1 := count_all (P + 1) (got ++ itemsD R T B) fun x hx => by
      have h2 := once x
      rw [← List.count_append] at h2
      have h3 := List.count_pos_iff.mpr hx
      split at h2
      · right; omega
      · omega
    have h4 : (got ++ itemsD R T B).count (-1) = 0 := by rw [List.count_append, once, if_neg (by omega)]
    have h5 : sumN (fun x => (got ++ itemsD R T B).count (x : Int)) (P + 1) = sumN (fun x => if 1 ≤ (x : Int) then 1 else 0) (P + 1) := sumN_congr fun x hx => by
      rw [List.count_append, once]
      by_cases h6 : 1 ≤ (x : Int)
      · rw [if_pos h6, if_pos (by omega)]
      · rw [if_neg h6, if_neg (by omega)]
    rw [h4, h5, sumN_const1, List.length_append] at h1
    omega
/-! Where nobody pops -/
structure StealInv (R : List Int) (T B : Int) (tk : Nat → Tkr) (got : List Int) (P : Nat) : Prop where
  idle : (tk 0).at_ = 0
  bot : B = P
  ring : ∀ k : Int, T ≤ k → k < B → placeD R k = k + 1
  gots : got = (List.range T.toNat).map fun (k : Nat) => (k : Int) + 1
theorem StealInv.start (n : Nat) : StealInv (List.replicate n 0) 0 0 startT [] 0 := ⟨rfl, rfl, fun k h1 h2 => by omega, rfl⟩
theorem StealInv.push (h : StealInv R T B tk got P) (hi : PlayInv n R T B tk got P) (hr : B - T < n) : StealInv (R.set (B.toNat % R.length) ((P : Int) + 1)) T (B + 1) tk got (P + 1) := by
  have hl := hi.lo
  unfold virD at hl
  rw [if_pos h.idle] at hl
  have ht := hi.top
  have hb := h.bot
  refine ⟨h.idle, by rw [h.bot]; simp, fun k h1 h2 => ?_, h.gots⟩
  by_cases hk : k = B
  · rw [hk, placeD_set_at (by omega) (by rw [hi.len]; exact hi.pos)]
    omega
  · rw [placeD_set (by omega) (by omega) (by rw [hi.len]; omega)]
    exact h.ring k h1 (by omega)
theorem StealInv.steal (h : StealInv R T B tk got P) (hi : PlayInv n R T B tk got P) {k : Nat} (h1 : 1 ≤ k) (h2 : k < 4) :
    StealInv R (moveD R T B (tk k)).1 (moveD R T B (tk k)).2.1 (setT tk k (nextT (moveD R T B (tk k)).2.2)) (nextG got (moveD R T B (tk k)).2.2) P := by
  obtain ⟨t1, t2, t3, t4, tb, t5, t6⟩ := hi.thief k h1 h2
  have hv : virD B (tk 0) = B := if_pos h.idle
  rw [hv] at t5
  have ht := hi.top
  have hidle : ∀ t, (setT tk k t 0).at_ = 0 := fun t => by rw [setT_ne _ _ (by omega)]; exact h.idle
  have stay : ∀ t' : Tkr, t'.end_ ≠ 1 → StealInv R T B (setT tk k (nextT t')) (nextG got t') P := fun t' he => by
    have hg : nextG got t' = got := if_neg he
    rw [hg]
    exact ⟨hidle _, h.bot, h.ring, h.gots⟩
  unfold moveD
  rw [if_pos t1]
  unfold thiefD
  split
  · exact stay _ (by show ¬ (tk k).end_ = 1; omega)
  next a0 =>
  split
  · split
    · exact stay _ (by show ¬ (2 : Int) = 1; decide)
    · exact stay _ (by show ¬ (tk k).end_ = 1; omega)
  next a1 =>
  split
  · exact stay _ (by show ¬ (tk k).end_ = 1; omega)
  next a2 =>
  split
  · next hT =>
    have hlt := t5 (by omega) hT.symm
    have hgt := t6 (by omega) hT.symm
    rw [h.ring T (Int.le_refl _) hlt] at hgt
    refine ⟨hidle _, h.bot, fun j h3 h4 => h.ring j (by omega) h4, ?_⟩
    show got ++ [(tk k).got] = _
    rw [hgt, h.gots, show (T + 1).toNat = T.toNat + 1 by omega, List.range_succ, List.map_append]
    congr 2
    show T + 1 = ((T.toNat : Nat) : Int) + 1
    omega
  · exact stay _ (by show ¬ (3 : Int) = 1; decide)
end
end Go.Proofs.YtcjmljpfhabmnaaDoor
