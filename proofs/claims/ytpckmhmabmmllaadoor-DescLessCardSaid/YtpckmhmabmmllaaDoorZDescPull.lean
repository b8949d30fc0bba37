/- An edge, a future, a barrier taken out of a task in a box of the call's own, in the seat YtpckmhmabmmllaaDoor (printed by desc/mk_pull.py). No statement is proved here. -/
import Derived.Test.YtpckmhmabmmllaaDoorZDescBoxes2
import Derived.Test.YtpckmhmabmmllaaDoorZPull
set_option linter.unusedVariables false
namespace Go.Proofs.YtpckmhmabmmllaaDoor
open Go Go.RowKit

theorem flat_pull {α : Type} (F : List α → List Value) (f : α → List Value) (sz : Nat) (h0 : F [] = []) (h1 : ∀ a l, F (a :: l) = f a ++ F l) (h2 : ∀ a, (f a).length = sz) : ∀ (l : List α) (k : Nat), k < l.length → (F l).take (k * sz) ++ (F l).drop ((k + 1) * sz) = F (l.eraseIdx k)
  | [], k, h => absurd h (by simp)
  | a :: l, 0, _ => by
    rw [h1, Nat.zero_mul, List.take_zero, List.nil_append, Nat.zero_add, Nat.one_mul, List.drop_left' (h2 a)]
    rfl
  | a :: l, k + 1, h => by
    have ih := flat_pull F f sz h0 h1 h2 l k (by simpa using h)
    have e1 : (k + 1) * sz = sz + k * sz := by rw [Nat.succ_mul, Nat.add_comm]
    have e2 : (k + 1 + 1) * sz = sz + (k + 1) * sz := by rw [Nat.succ_mul (k + 1), Nat.add_comm]
    have t1 : (f a ++ F l).take ((k + 1) * sz) = f a ++ (F l).take (k * sz) := by
      rw [e1, ← h2 a, List.take_length_add_append]
    have t2 : (f a ++ F l).drop ((k + 1 + 1) * sz) = (F l).drop ((k + 1) * sz) := by
      rw [e2, ← h2 a, List.drop_length_add_append]
    rw [h1, t1, t2, List.append_assoc, ih, List.eraseIdx_cons_succ, h1]
theorem flatE_pull (es : List (Int × Int)) (k : Nat) (hk : k < es.length) : (flatE es).take (k * 2) ++ (flatE es).drop ((k + 1) * 2) = flatE (es.eraseIdx k) := flat_pull flatE (fun e => [.int .i64 e.1, .int .i64 e.2]) 2 rfl (fun _ _ => rfl) (fun _ => rfl) es k hk
theorem flatT_pull (es : List (Int × Int × Int)) (k : Nat) (hk : k < es.length) : (flatT es).take (k * 3) ++ (flatT es).drop ((k + 1) * 3) = flatT (es.eraseIdx k) := flat_pull flatT (fun e => [.int .i64 e.1, .int .i64 e.2.1, .int .i64 e.2.2]) 3 rfl (fun _ _ => rfl) (fun _ => rfl) es k hk
theorem flatB_pull (cs : List (Value × Value)) (k : Nat) (hk : k < cs.length) : (cs.flatMap fun c => [c.1, c.2]).take (k * 2) ++ (cs.flatMap fun c => [c.1, c.2]).drop ((k + 1) * 2) = (cs.eraseIdx k).flatMap fun c => [c.1, c.2] :=
  flat_pull (fun cs : List (Value × Value) => cs.flatMap fun c => [c.1, c.2]) (fun c => [c.1, c.2]) 2 rfl (fun _ _ => List.flatMap_cons ..) (fun _ => rfl) cs k hk
theorem flat_one {α : Type} (F : List α → List Value) (f : α → List Value) (h0 : F [] = []) (h1 : ∀ a l, F (a :: l) = f a ++ F l) (h2 : ∀ a, ∀ u ∈ f a, u.oneCell' = true) : ∀ (l : List α), ∀ u ∈ F l, u.oneCell' = true
  | [], u, h => by rw [h0] at h; cases h
  | a :: l, u, h => by
    rw [h1] at h
    rcases List.mem_append.mp h with h | h
    · exact h2 a u h
    · exact flat_one F f h0 h1 h2 l u h
theorem flatE_one' (es : List (Int × Int)) : ∀ u ∈ flatE es, u.oneCell' = true := flat_one flatE (fun e => [.int .i64 e.1, .int .i64 e.2]) rfl (fun _ _ => rfl) (fun a u h => by simp at h; rcases h with rfl | rfl <;> rfl) es
theorem flatT_one' (es : List (Int × Int × Int)) : ∀ u ∈ flatT es, u.oneCell' = true := flat_one flatT (fun e => [.int .i64 e.1, .int .i64 e.2.1, .int .i64 e.2.2]) rfl (fun _ _ => rfl) (fun a u h => by simp at h; rcases h with rfl | rfl | rfl <;> rfl) es
theorem own_one {w : World} {base : Nat} {e : TypeId} {s n : Nat} {v : Value} {xs : List Value} (h : w.ownsRow base e s v n xs) : v.oneCell' = true := by
  rcases h.2 with ⟨rfl, _⟩ | ⟨g, cap, cur, rfl, _⟩ <;> rfl
theorem OwnB.turned {g gx base : Nat} {v w : World} {u : Value} {bs : List (List Int × List Int)} {cr : Array Value} (h : OwnB v base u bs) (ht : Turned g gx v w) (hx : v.heap[gx]? = some (.cells cr 27 (0, 0))) (hg : u.ownBlock ≠ some g) {cg : Array Value} {e : TypeId} (hge : v.heap[g]? = some (.cells cg e (0, 0))) (hne : 3 ≠ e) : OwnB w base u bs := by
  obtain ⟨cs, h1, h2, h3⟩ := h
  exact ⟨cs, h1, own_turned h2 ht hx (by decide) hg, fun k c b hc hb => ⟨own_turned (h3 k c b hc hb).1 ht hx (by decide) (own_type (h3 k c b hc hb).1 hge hne), own_turned (h3 k c b hc hb).2 ht hx (by decide) (own_type (h3 k c b hc hb).2 hge hne)⟩⟩

theorem edges_info : (Tryd.prog.info? 44).map (·.size) = some 2 := by kernel_rfl
set_option maxHeartbeats 4000000 in
theorem wp_pull_edges {ops : Array Oper} {Q : Exit → Act → World → Prop} (x y : Nat) (ds : List Nat) {id : Nat} {a0 : Act} {v0 : World} (hG : gatherB ops 11 ds = true) (hsz : ∀ d ∈ ds, d < a0.tmps.size)
    (hdep : pullDeps ops = true) (hshape : ∀ k o, ops[k]? = some o → pullShape 27 23 3 3 x y (fun j => ds.getD j 0) k o.op) (hdst : ∀ o, ops[11]? = some o → o.dst = none) (hxd : x ∉ ds) (hyd : y ∉ ds)
    {base : Nat} {p q : Int} {T : Task} {gx k : Nat} {u1 u2 u3 u4 : Value} (bx : BoxD base p q T gx u1 u2 u3 u4 v0) (hb : base ≤ v0.heap.size) (hx : a0.eval (.tmp x) = .pointer (some ⟨gx, 0, none⟩)) (hy : a0.eval (.tmp y) = .int .i64 k) (hk : k < T.edges.length) (hl : T.edges.length ≤ 1000)
    (hend : ∀ (vals : Nat → Value) (w' : World) (u' : Value), Below base v0 w' → BoxD base p q { T with edges := T.edges.eraseIdx k } gx u1 u' u3 u4 w' → (∀ p' q' T' g' v1 v2 v3 v4, BoxD base p' q' T' g' v1 v2 v3 v4 v0 → g' ≠ gx → Apart u2 v2 → BoxD base p' q' T' g' v1 v2 v3 v4 w') → (∀ v, Apart u2 v → Apart u' v) → Q .normal ⟨(fillA a0 ds vals).toArray, a0.defers⟩ w') :
    (Code.region id ops true).wp Tryd.prog Q a0 v0 := by
  obtain ⟨i0, hi0, hisz⟩ : ∃ i, Tryd.prog.info? 44 = some i ∧ i.size = 2 := by
    have h := edges_info
    cases hi : Tryd.prog.info? 44 with
    | none => rw [hi] at h; cases h
    | some i =>
      rw [hi] at h
      exact ⟨i, rfl, by simpa using h⟩
  have hO := bx.edges
  have hO0 := hO
  obtain ⟨hxl, h⟩ := hO
  rcases h with ⟨_, h1⟩ | ⟨g, cap, cur, h1, hbg, hg, hmc, hcm, hcs, ht⟩
  · omega
  obtain ⟨m, hm⟩ : ∃ m, m = T.edges.length := ⟨_, rfl⟩
  rw [← hm] at h1 hmc hxl ht hk hl
  subst h1
  have hgx : gx ≠ g := fun e => by
    have := bx.row
    rw [e, hg] at this
    injection this with this
    injection this with _ h2 _
    exact absurd h2 (by decide)
  obtain ⟨AD, hAD, hnews⟩ := pull_news' hg hxl ht hk hmc
  have hmx : cap ≤ 9223372036854775807 := by have := hcm; unfold maxLen at this; omega
  have hic : k ≤ cap := by omega
  have hwr : IntKind.i64.wrap ((k : Int) + 1) = (k : Int) + 1 := by rw [IntKind.wrap_i64]; omega
  have hp0 : (0 : Int) ≤ (k : Int) + 1 := by omega
  have hp1 : (k : Int) + 1 ≤ (m : Int) := by omega
  have hp2 : ((k : Int) + 1).toNat = k + 1 := by omega
  refine wp_region_pull 27 23 44 3 2 3 x y ds (by kernel_rfl) hG hsz hdep hshape hdst hxd hyd i0 Tryd.underlying23 hi0 hisz g gx m cap k base _ cur (flatE T.edges) AD hx hy bx.row rfl hg hgx hk hmc hcs hxl (flatE_one' T.edges) hnews
    (fun ρ o w q hop h => by simp [execOp, hop, h, go_sem])
    (fun ρ o w q hop h hc => by simp [execOp, hop, h, hc, go_sem])
    (fun ρ o w q q' hop h h' => by simp [execOp, hop, h, h', go_sem, hic])
    (fun ρ o w q hop h hc => by simp [execOp, hop, h, hc, go_sem, hwr])
    (fun ρ o w q q' hop h h' => by simp [execOp, hop, h, h', go_sem, hp0, hp1, hp2, ← hAD])
    (fun ρ o w q q' u hop h h' hc hf => by simp [execOp, hop, h, h', hc, hf, go_sem])
    (fun vals w' hT hg' hx' => ?_)
  have hbw := hT.below hbg bx.le hb
  rw [hm] at hO0 hxl
  refine hend vals w' (.slice (some ⟨g, 0, none⟩) (m - 1) cap) hbw ⟨hx', bx.le, own_turned bx.parts hT bx.row (by decide) (own_type bx.parts hg (by decide)), ?new, own_turned bx.futures hT bx.row (by decide) (own_type bx.futures hg (by decide)), bx.bars.turned hT bx.row (own_type bx.bars.choose_spec.2.1 hg (by decide)) hg (by decide)⟩ (fun p' q' T' g' v1 v2 v3 v4 b hne hap => ?other) (fun v hv b hb => hv b (by simpa [Value.ownBlock] using hb))
  case new =>
    have hp := pull_row hO0 (by omega) hg hg'
    have hel : (T.edges.eraseIdx k).length = T.edges.length - 1 := by rw [List.length_eraseIdx, if_pos (by omega)]
    rw [flatE_pull _ _ (by omega)] at hp
    show w'.ownsRow _ _ _ _ (T.edges.eraseIdx k).length _
    rw [hel, hm]
    exact hp
  case other =>
    have hapg : v2.ownBlock ≠ some g := hap g (by simp [Value.ownBlock])
    have hg'g : g' ≠ g := fun e => by
      have := b.row
      rw [e, hg] at this
      injection this with this
      injection this with _ h2 _
      exact absurd h2 (by decide)
    refine ⟨?_, b.le, own_turned b.parts hT bx.row (by decide) (own_type b.parts hg (by decide)), own_turned b.edges hT bx.row (by decide) (hapg), own_turned b.futures hT bx.row (by decide) (own_type b.futures hg (by decide)), b.bars.turned hT bx.row (own_type b.bars.choose_spec.2.1 hg (by decide)) hg (by decide)⟩
    rw [hT.keep g' (Array.getElem?_eq_some_iff.1 b.row).1 hg'g hne]
    exact b.row

theorem futures_info : (Tryd.prog.info? 39).map (·.size) = some 3 := by kernel_rfl
set_option maxHeartbeats 4000000 in
theorem wp_pull_futures {ops : Array Oper} {Q : Exit → Act → World → Prop} (x y : Nat) (ds : List Nat) {id : Nat} {a0 : Act} {v0 : World} (hG : gatherB ops 11 ds = true) (hsz : ∀ d ∈ ds, d < a0.tmps.size)
    (hdep : pullDeps ops = true) (hshape : ∀ k o, ops[k]? = some o → pullShape 27 24 3 4 x y (fun j => ds.getD j 0) k o.op) (hdst : ∀ o, ops[11]? = some o → o.dst = none) (hxd : x ∉ ds) (hyd : y ∉ ds)
    {base : Nat} {p q : Int} {T : Task} {gx k : Nat} {u1 u2 u3 u4 : Value} (bx : BoxD base p q T gx u1 u2 u3 u4 v0) (hb : base ≤ v0.heap.size) (hx : a0.eval (.tmp x) = .pointer (some ⟨gx, 0, none⟩)) (hy : a0.eval (.tmp y) = .int .i64 k) (hk : k < T.futures.length) (hl : T.futures.length ≤ 1000)
    (hend : ∀ (vals : Nat → Value) (w' : World) (u' : Value), Below base v0 w' → BoxD base p q { T with futures := T.futures.eraseIdx k } gx u1 u2 u' u4 w' → (∀ p' q' T' g' v1 v2 v3 v4, BoxD base p' q' T' g' v1 v2 v3 v4 v0 → g' ≠ gx → Apart u3 v3 → BoxD base p' q' T' g' v1 v2 v3 v4 w') → (∀ v, Apart u3 v → Apart u' v) → Q .normal ⟨(fillA a0 ds vals).toArray, a0.defers⟩ w') :
    (Code.region id ops true).wp Tryd.prog Q a0 v0 := by
  obtain ⟨i0, hi0, hisz⟩ : ∃ i, Tryd.prog.info? 39 = some i ∧ i.size = 3 := by
    have h := futures_info
    cases hi : Tryd.prog.info? 39 with
    | none => rw [hi] at h; cases h
    | some i =>
      rw [hi] at h
      exact ⟨i, rfl, by simpa using h⟩
  have hO := bx.futures
  have hO0 := hO
  obtain ⟨hxl, h⟩ := hO
  rcases h with ⟨_, h1⟩ | ⟨g, cap, cur, h1, hbg, hg, hmc, hcm, hcs, ht⟩
  · omega
  obtain ⟨m, hm⟩ : ∃ m, m = T.futures.length := ⟨_, rfl⟩
  rw [← hm] at h1 hmc hxl ht hk hl
  subst h1
  have hgx : gx ≠ g := fun e => by
    have := bx.row
    rw [e, hg] at this
    injection this with this
    injection this with _ h2 _
    exact absurd h2 (by decide)
  obtain ⟨AD, hAD, hnews⟩ := pull_news' hg hxl ht hk hmc
  have hmx : cap ≤ 9223372036854775807 := by have := hcm; unfold maxLen at this; omega
  have hic : k ≤ cap := by omega
  have hwr : IntKind.i64.wrap ((k : Int) + 1) = (k : Int) + 1 := by rw [IntKind.wrap_i64]; omega
  have hp0 : (0 : Int) ≤ (k : Int) + 1 := by omega
  have hp1 : (k : Int) + 1 ≤ (m : Int) := by omega
  have hp2 : ((k : Int) + 1).toNat = k + 1 := by omega
  refine wp_region_pull 27 24 39 3 3 4 x y ds (by kernel_rfl) hG hsz hdep hshape hdst hxd hyd i0 Tryd.underlying24 hi0 hisz g gx m cap k base _ cur (flatT T.futures) AD hx hy bx.row rfl hg hgx hk hmc hcs hxl (flatT_one' T.futures) hnews
    (fun ρ o w q hop h => by simp [execOp, hop, h, go_sem])
    (fun ρ o w q hop h hc => by simp [execOp, hop, h, hc, go_sem])
    (fun ρ o w q q' hop h h' => by simp [execOp, hop, h, h', go_sem, hic])
    (fun ρ o w q hop h hc => by simp [execOp, hop, h, hc, go_sem, hwr])
    (fun ρ o w q q' hop h h' => by simp [execOp, hop, h, h', go_sem, hp0, hp1, hp2, ← hAD])
    (fun ρ o w q q' u hop h h' hc hf => by simp [execOp, hop, h, h', hc, hf, go_sem])
    (fun vals w' hT hg' hx' => ?_)
  have hbw := hT.below hbg bx.le hb
  rw [hm] at hO0 hxl
  refine hend vals w' (.slice (some ⟨g, 0, none⟩) (m - 1) cap) hbw ⟨hx', bx.le, own_turned bx.parts hT bx.row (by decide) (own_type bx.parts hg (by decide)), own_turned bx.edges hT bx.row (by decide) (own_type bx.edges hg (by decide)), ?new, bx.bars.turned hT bx.row (own_type bx.bars.choose_spec.2.1 hg (by decide)) hg (by decide)⟩ (fun p' q' T' g' v1 v2 v3 v4 b hne hap => ?other) (fun v hv b hb => hv b (by simpa [Value.ownBlock] using hb))
  case new =>
    have hp := pull_row hO0 (by omega) hg hg'
    have hel : (T.futures.eraseIdx k).length = T.futures.length - 1 := by rw [List.length_eraseIdx, if_pos (by omega)]
    rw [flatT_pull _ _ (by omega)] at hp
    show w'.ownsRow _ _ _ _ (T.futures.eraseIdx k).length _
    rw [hel, hm]
    exact hp
  case other =>
    have hapg : v3.ownBlock ≠ some g := hap g (by simp [Value.ownBlock])
    have hg'g : g' ≠ g := fun e => by
      have := b.row
      rw [e, hg] at this
      injection this with this
      injection this with _ h2 _
      exact absurd h2 (by decide)
    refine ⟨?_, b.le, own_turned b.parts hT bx.row (by decide) (own_type b.parts hg (by decide)), own_turned b.edges hT bx.row (by decide) (own_type b.edges hg (by decide)), own_turned b.futures hT bx.row (by decide) (hapg), b.bars.turned hT bx.row (own_type b.bars.choose_spec.2.1 hg (by decide)) hg (by decide)⟩
    rw [hT.keep g' (Array.getElem?_eq_some_iff.1 b.row).1 hg'g hne]
    exact b.row

theorem bars_info : (Tryd.prog.info? 46).map (·.size) = some 2 := by kernel_rfl
set_option maxHeartbeats 4000000 in
theorem wp_pull_bars {ops : Array Oper} {Q : Exit → Act → World → Prop} (x y : Nat) (ds : List Nat) {id : Nat} {a0 : Act} {v0 : World} (hG : gatherB ops 11 ds = true) (hsz : ∀ d ∈ ds, d < a0.tmps.size)
    (hdep : pullDeps ops = true) (hshape : ∀ k o, ops[k]? = some o → pullShape 27 25 3 5 x y (fun j => ds.getD j 0) k o.op) (hdst : ∀ o, ops[11]? = some o → o.dst = none) (hxd : x ∉ ds) (hyd : y ∉ ds)
    {base : Nat} {p q : Int} {T : Task} {gx k : Nat} {u1 u2 u3 u4 : Value} (bx : BoxD base p q T gx u1 u2 u3 u4 v0) (hb : base ≤ v0.heap.size) (hx : a0.eval (.tmp x) = .pointer (some ⟨gx, 0, none⟩)) (hy : a0.eval (.tmp y) = .int .i64 k) (hk : k < T.bars.length) (hl : T.bars.length ≤ 1000)
    (hend : ∀ (vals : Nat → Value) (w' : World) (u' : Value), Below base v0 w' → BoxD base p q { T with bars := T.bars.eraseIdx k } gx u1 u2 u3 u' w' → (∀ p' q' T' g' v1 v2 v3 v4, BoxD base p' q' T' g' v1 v2 v3 v4 v0 → g' ≠ gx → Apart u4 v4 → BoxD base p' q' T' g' v1 v2 v3 v4 w') → (∀ v, Apart u4 v → Apart u' v) → Q .normal ⟨(fillA a0 ds vals).toArray, a0.defers⟩ w') :
    (Code.region id ops true).wp Tryd.prog Q a0 v0 := by
  obtain ⟨i0, hi0, hisz⟩ : ∃ i, Tryd.prog.info? 46 = some i ∧ i.size = 2 := by
    have h := bars_info
    cases hi : Tryd.prog.info? 46 with
    | none => rw [hi] at h; cases h
    | some i =>
      rw [hi] at h
      exact ⟨i, rfl, by simpa using h⟩
  obtain ⟨cs, hcl, hO, hin⟩ := bx.bars
  have hone : ∀ u ∈ (cs.flatMap fun c => [c.1, c.2]), u.oneCell' = true := fun u hu => by
    obtain ⟨c, hc, hu⟩ := List.mem_flatMap.mp hu
    obtain ⟨j, hj⟩ := List.mem_iff_getElem?.mp hc
    have hjl := (List.getElem?_eq_some_iff.1 hj).1
    have := hin j c _ hj (List.getElem?_eq_getElem (by omega : j < T.bars.length))
    simp at hu
    rcases hu with rfl | rfl
    · exact own_one this.1
    · exact own_one this.2
  have hO0 := hO
  obtain ⟨hxl, h⟩ := hO
  rcases h with ⟨_, h1⟩ | ⟨g, cap, cur, h1, hbg, hg, hmc, hcm, hcs, ht⟩
  · omega
  obtain ⟨m, hm⟩ : ∃ m, m = T.bars.length := ⟨_, rfl⟩
  rw [← hm] at h1 hmc hxl ht hk hl
  subst h1
  have hgx : gx ≠ g := fun e => by
    have := bx.row
    rw [e, hg] at this
    injection this with this
    injection this with _ h2 _
    exact absurd h2 (by decide)
  obtain ⟨AD, hAD, hnews⟩ := pull_news' hg hxl ht hk hmc
  have hmx : cap ≤ 9223372036854775807 := by have := hcm; unfold maxLen at this; omega
  have hic : k ≤ cap := by omega
  have hwr : IntKind.i64.wrap ((k : Int) + 1) = (k : Int) + 1 := by rw [IntKind.wrap_i64]; omega
  have hp0 : (0 : Int) ≤ (k : Int) + 1 := by omega
  have hp1 : (k : Int) + 1 ≤ (m : Int) := by omega
  have hp2 : ((k : Int) + 1).toNat = k + 1 := by omega
  refine wp_region_pull 27 25 46 3 2 5 x y ds (by kernel_rfl) hG hsz hdep hshape hdst hxd hyd i0 Tryd.underlying25 hi0 hisz g gx m cap k base _ cur (cs.flatMap fun c => [c.1, c.2]) AD hx hy bx.row rfl hg hgx hk hmc hcs hxl hone hnews
    (fun ρ o w q hop h => by simp [execOp, hop, h, go_sem])
    (fun ρ o w q hop h hc => by simp [execOp, hop, h, hc, go_sem])
    (fun ρ o w q q' hop h h' => by simp [execOp, hop, h, h', go_sem, hic])
    (fun ρ o w q hop h hc => by simp [execOp, hop, h, hc, go_sem, hwr])
    (fun ρ o w q q' hop h h' => by simp [execOp, hop, h, h', go_sem, hp0, hp1, hp2, ← hAD])
    (fun ρ o w q q' u hop h h' hc hf => by simp [execOp, hop, h, h', hc, hf, go_sem])
    (fun vals w' hT hg' hx' => ?_)
  have hbw := hT.below hbg bx.le hb
  rw [hm] at hO0 hxl
  refine hend vals w' (.slice (some ⟨g, 0, none⟩) (m - 1) cap) hbw ⟨hx', bx.le, own_turned bx.parts hT bx.row (by decide) (own_type bx.parts hg (by decide)), own_turned bx.edges hT bx.row (by decide) (own_type bx.edges hg (by decide)), own_turned bx.futures hT bx.row (by decide) (own_type bx.futures hg (by decide)), ?new⟩ (fun p' q' T' g' v1 v2 v3 v4 b hne hap => ?other) (fun v hv b hb => hv b (by simpa [Value.ownBlock] using hb))
  case new =>
    have hp := pull_row hO0 (by omega) hg hg'
    have hel : (T.bars.eraseIdx k).length = T.bars.length - 1 := by rw [List.length_eraseIdx, if_pos (by omega)]
    rw [flatB_pull _ _ (by omega)] at hp
    refine ⟨cs.eraseIdx k, by rw [List.length_eraseIdx, List.length_eraseIdx, hcl], ?_, fun j c b hc hb' => ?_⟩
    · rw [hel, hm]
      exact hp
    · have hpair : ∃ j' : Nat, cs[j']? = some c ∧ T.bars[j']? = some b := by
        rw [List.getElem?_eraseIdx] at hc hb'
        by_cases h : j < k
        · rw [if_pos h] at hc hb'
          exact ⟨j, hc, hb'⟩
        · rw [if_neg h] at hc hb'
          exact ⟨j + 1, hc, hb'⟩
      obtain ⟨j', h1, h2⟩ := hpair
      have := hin j' c b h1 h2
      exact ⟨own_turned this.1 hT bx.row (by decide) (own_type this.1 hg (by decide)), own_turned this.2 hT bx.row (by decide) (own_type this.2 hg (by decide))⟩
  case other =>
    have hapg : v4.ownBlock ≠ some g := hap g (by simp [Value.ownBlock])
    have hg'g : g' ≠ g := fun e => by
      have := b.row
      rw [e, hg] at this
      injection this with this
      injection this with _ h2 _
      exact absurd h2 (by decide)
    refine ⟨?_, b.le, own_turned b.parts hT bx.row (by decide) (own_type b.parts hg (by decide)), own_turned b.edges hT bx.row (by decide) (own_type b.edges hg (by decide)), own_turned b.futures hT bx.row (by decide) (own_type b.futures hg (by decide)), b.bars.turned hT bx.row (hapg) hg (by decide)⟩
    rw [hT.keep g' (Array.getElem?_eq_some_iff.1 b.row).1 hg'g hne]
    exact b.row

end Go.Proofs.YtpckmhmabmmllaaDoor
