/- The contract of trefoilref02.Ints in the seat YtfahabphncmbfaaGreatDoor.
   Graphs (plain): edges, ways, paths, what leads round, in the seat YtfahabphncmbfaaGreatDoor. No statement is proved here; it imports nothing of the program.
   Edges that may be: plain mathematics, in the seat YtfahabphncmbfaaGreatDoor.
   The contract of trefoilref04.Has in the seat YtfahabphncmbfaaGreatDoor.
   The contract of trefoilref05.edges in the seat YtfahabphncmbfaaGreatDoor.
   The contract of trefoilref05.futures in the seat YtfahabphncmbfaaGreatDoor.
   No statement is proved here. -/
import Derived.Test.YtfahabphncmbfaaGreatDoorZM2
import Derived.Lib.Hide
import Derived.Test.YtfahabphncmbfaaGreatDoorZM5
import Derived.Deep.RegionWith
set_option linter.unusedSimpArgs false
set_option linter.unusedVariables false
namespace Go.Proofs.YtfahabphncmbfaaGreatDoor
open Go.RowKit

theorem take_snoc' {α : Type} {l : List α} {j : Nat} {a : α} (h : l[j]? = some a) : l.take (j + 1) = l.take j ++ [a] := by
  rw [List.take_add_one, h]
  rfl
theorem take_ext {α : Type} {xs ys : List α} (h : xs.length = ys.length) (e : xs.take xs.length = ys.take xs.length) : xs = ys := by
  rw [List.take_length, h, List.take_length] at e
  exact e
theorem take_next {α : Type} {xs ys : List α} {j : Nat} {a : α} (e : xs.take j = ys.take j) (h1 : xs[j]? = some a) (h2 : ys[j]? = some a) : xs.take (j + 1) = ys.take (j + 1) := by
  rw [take_snoc' h1, take_snoc' h2, e]
theorem take_part {α : Type} {xs ys : List α} {j : Nat} {a b : α} (h1 : xs[j]? = some a) (h2 : ys[j]? = some b) (hne : a ≠ b) : xs ≠ ys := by
  rintro rfl
  rw [h1] at h2
  exact hne (Option.some.inj h2)

theorem drews (w : World) (N n : Nat) : (w.drewN N).drewN n = w.drewN (N + n) := by simp
set_option maxHeartbeats 800000 in
theorem ints_any (B : Nat) (A1 A2 : Option Addr) (c1 c2 : Nat) (xs ys : List Int) (w : World) (hx : xs.length ≤ 1000) (hy : ys.length ≤ 1000) (h1 : Ints w B A1 xs) (h2 : Ints w B A2 ys) :
    Calls Tryz.prog 38 #[.slice A1 xs.length c1, .slice A2 ys.length c2] w fun e w' => e = .returned (.bool (decide (xs = ys))) ∧ ∃ N, w' = w.drewN N := by
  obtain ⟨n, hn⟩ : ∃ n, n = xs.length := ⟨_, rfl⟩
  obtain ⟨m, hm⟩ : ∃ m, m = ys.length := ⟨_, rfl⟩
  rw [← hn, ← hm]
  rw [← hn] at hx
  rw [← hm] at hy
  have HN := Lib.hid hn
  have HM := Lib.hid hm
  have H1 := Lib.hid h1
  have H2 := Lib.hid h2
  clear hn hm h1 h2
  by_cases hnm : n = m
  · subst hnm
    go_enter Tryz.func38, Tryz.ntmps38
    go_wp2
    go_loopw [5] (fun i wr => ∃ j N : Nat, j ≤ n ∧ i = .int .i64 j ∧ Hid (xs.take j = ys.take j) ∧ wr = w.drewN N) (fun i _ => n - (intOf i).toNat)
    case atStart => exact ⟨0, 0, Nat.zero_le _, rfl, Lib.hid rfl, rfl⟩
    case round =>
      obtain ⟨j, N, hj, rfl, HT, rfl⟩ := hrel
      by_cases hlt : j < n
      · obtain ⟨b1, o1, x, rfl, _, hx1, hc1⟩ := H1.out.at_ (k := j) (by rw [← HN.out]; exact hlt)
        obtain ⟨b2, o2, y, rfl, _, hy1, hc2⟩ := H2.out.at_ (k := j) (by rw [← HM.out]; exact hlt)
        have HX := Lib.hid hx1
        have HY := Lib.hid hy1
        clear hx1 hy1
        by_cases hxy : x = y
        · subst hxy
          go_wp2
          go_quiet (fail)
          go_wp2
          go_roundw
          case rel => exact ⟨j + 1, _, by omega, by go_num, Lib.hid (take_next HT.out HX.out HY.out), rfl⟩
          case measure => simp [intOf]; omega
        · have hb : (x != y) = true := by simpa using hxy
          have HXY := Lib.hid hxy
          clear hxy
          go_wp2
          go_quiet (fail)
          go_wp2
          go_ret
          exact ⟨by rw [decide_eq_false (take_part HX.out HY.out HXY.out)]; rfl, _, drews w N _⟩
      · obtain rfl : j = n := by omega
        go_wp2
        go_ret
        exact ⟨by rw [decide_eq_true (take_ext (by rw [← HN.out, ← HM.out]) (by rw [← HN.out]; exact HT.out))]; rfl, _, rfl⟩
  · have hb : ((n : Int) != (m : Int)) = true := by simp; omega
    go_enter Tryz.func38, Tryz.ntmps38
    go_wp2
    go_ret
    exact ⟨by rw [decide_eq_false (fun e : xs = ys => hnm (by rw [HN.out, HM.out, e]))]; rfl, 0, rfl⟩
end Go.Proofs.YtfahabphncmbfaaGreatDoor
set_option linter.unusedVariables false
namespace Go.Proofs.YtfahabphncmbfaaGreatDoor

/-- An edge between two nodes; a way along one edge or more. -/
def ed (E : List (Int × Int)) (a b : Nat) : Prop := ((a : Int), (b : Int)) ∈ E
instance (E : List (Int × Int)) (a b : Nat) : Decidable (ed E a b) := by unfold ed; infer_instance
inductive Way (E : List (Int × Int)) : Nat → Nat → Prop
  | one {a b : Nat} : ed E a b → Way E a b
  | more {a b c : Nat} : Way E a b → ed E b c → Way E a c
def Acyc (E : List (Int × Int)) : Prop := ∀ a, ¬ Way E a a
/-- All edges lead between nodes below n. -/
def Fits (n : Nat) (E : List (Int × Int)) : Prop := ∀ e ∈ E, 0 ≤ e.1 ∧ e.1 < n ∧ 0 ≤ e.2 ∧ e.2 < n
/-- A path, its last node first. -/
def Up (E : List (Int × Int)) : List Nat → Prop
  | [] => False
  | [_] => True
  | b :: a :: r => ed E a b ∧ Up E (a :: r)

variable {E : List (Int × Int)}
theorem Way.trans {a b c : Nat} (h : Way E a b) (k : Way E b c) : Way E a c := by
  induction k with
  | one e => exact .more h e
  | more _ e ih => exact .more ih e
/-- A way's first edge. -/
theorem Way.first {a b : Nat} (h : Way E a b) : ed E a b ∨ ∃ c, ed E a c ∧ Way E c b := by
  induction h with
  | one e => exact .inl e
  | more _ e ih =>
    rcases ih with h | ⟨c, h1, h2⟩
    · exact .inr ⟨_, h, .one e⟩
    · exact .inr ⟨c, h1, .more h2 e⟩
theorem Way.last {a b : Nat} (h : Way E a b) : ∃ c, ed E c b ∧ (c = a ∨ Way E a c) := by
  cases h with
  | one e => exact ⟨a, e, .inl rfl⟩
  | more h e => exact ⟨_, e, .inr h⟩
theorem Way.mono {E' : List (Int × Int)} {a b : Nat} (h : Way E a b) (hE : ∀ a b, ed E a b → ed E' a b) : Way E' a b := by
  induction h with
  | one e => exact .one (hE _ _ e)
  | more _ e ih => exact .more ih (hE _ _ e)
theorem ed_lt {n a b : Nat} (hF : Fits n E) (h : ed E a b) : a < n ∧ b < n := by
  have := hF _ h
  simp at this
  omega
theorem Way.lt {n a b : Nat} (hF : Fits n E) (h : Way E a b) : a < n ∧ b < n := by
  induction h with
  | one e => exact ed_lt hF e
  | more _ e ih => exact ⟨ih.1, (ed_lt hF e).2⟩
theorem Up.tail {b : Nat} {r : List Nat} (h : Up E (b :: r)) (hr : r ≠ []) : Up E r := by
  cases r with
  | nil => exact absurd rfl hr
  | cons a r => exact h.2
/-- From any other node of a path a way leads to its end. -/
theorem Up.way : ∀ {r : List Nat} {b : Nat}, Up E (b :: r) → ∀ a ∈ r, Way E a b
  | [], _, _, a, ha => by simp at ha
  | c :: r, b, h, a, ha => by
    rcases List.mem_cons.mp ha with rfl | ha
    · exact .one h.1
    · exact .more (Up.way h.2 a ha) h.1
theorem Up.nodup (hA : Acyc E) : ∀ {p : List Nat}, Up E p → p.Nodup
  | [], h => h.elim
  | [b], _ => by simp
  | b :: a :: r, h => by
    rw [List.nodup_cons]
    refine ⟨fun hm => hA b (Up.way h b hm), Up.nodup hA h.2⟩
theorem Up.lt {n : Nat} (hF : Fits n E) : ∀ {p : List Nat}, Up E p → (∀ b, p = [b] → b < n) → ∀ x ∈ p, x < n
  | [], h, _, _, _ => h.elim
  | [b], _, h1, x, hx => by
    obtain rfl : x = b := by simpa using hx
    exact h1 x rfl
  | b :: a :: r, h, _, x, hx => by
    have hab := ed_lt hF h.1
    rcases List.mem_cons.mp hx with rfl | hx
    · exact hab.2
    · exact Up.lt hF h.2 (fun c hc => by injection hc with hc _; omega) x hx
/-- A way as a path. -/
theorem Way.up {a b : Nat} (h : Way E a b) : ∃ r, Up E (b :: r) ∧ r.getLast? = some a := by
  induction h with
  | one e => exact ⟨[_], ⟨e, trivial⟩, rfl⟩
  | more _ e ih =>
    obtain ⟨r, hr, hl⟩ := ih
    refine ⟨_ :: r, ⟨e, hr⟩, ?_⟩
    cases r with
    | nil => simp at hl
    | cons x r => rw [List.getLast?_cons_cons]; exact hl

/-- Numbers that are all another, each below n. -/
theorem sum_below (w : Nat → Nat) : ∀ (n : Nat) (l : List Nat), l.Nodup → (∀ x ∈ l, x < n) → (l.map w).sum ≤ ((List.range n).map w).sum
  | 0, l, _, h => by
    cases l with
    | nil => exact Nat.le_refl _
    | cons x r => exact absurd (h x (by simp)) (by omega)
  | n + 1, l, hn, h => by
    rw [List.range_succ, List.map_append, List.sum_append]
    by_cases hm : n ∈ l
    · have hp := List.perm_cons_erase hm
      have hs := (hp.map w).sum_nat
      rw [hs]
      have ih := sum_below w n (l.erase n) (hn.erase n) (fun x hx => by
        have h1 := (hn.mem_erase_iff).mp hx
        have := h x h1.2
        omega)
      simp only [List.map_cons, List.sum_cons, List.map_nil, List.sum_nil]
      omega
    · have ih := sum_below w n l hn (fun x hx => by
        have := h x hx
        have : x ≠ n := fun e => hm (e ▸ hx)
        omega)
      simp only [List.map_cons, List.sum_cons, List.map_nil, List.sum_nil]
      omega
theorem length_below (n : Nat) (l : List Nat) (hn : l.Nodup) (h : ∀ x ∈ l, x < n) : l.length ≤ n := by
  have h1 := sum_below (fun _ => 1) n l hn h
  rw [List.map_const', List.map_const', List.sum_replicate_nat, List.sum_replicate_nat, List.length_range] at h1
  omega
/-- A path, its first node first. -/
def Dn (E : List (Int × Int)) : List Nat → Prop
  | [] => False
  | [_] => True
  | a :: b :: r => ed E a b ∧ Dn E (b :: r)
theorem Dn.way : ∀ {r : List Nat} {a : Nat}, Dn E (a :: r) → ∀ b ∈ r, Way E a b
  | [], _, _, b, hb => by simp at hb
  | c :: r, a, h, b, hb => by
    rcases List.mem_cons.mp hb with rfl | hb
    · exact .one h.1
    · exact (Way.one h.1).trans (Dn.way h.2 b hb)
theorem Dn.nodup (hA : Acyc E) : ∀ {p : List Nat}, Dn E p → p.Nodup
  | [], h => h.elim
  | [b], _ => by simp
  | a :: b :: r, h => by
    rw [List.nodup_cons]
    exact ⟨fun hm => hA a (Dn.way h a hm), Dn.nodup hA h.2⟩
theorem Dn.lt {n : Nat} (hF : Fits n E) : ∀ {p : List Nat}, Dn E p → 2 ≤ p.length → ∀ x ∈ p, x < n
  | [], h, _, _, _ => h.elim
  | [b], _, h1, x, hx => by simp at h1
  | [a, b], h, _, x, hx => by
    have hab := ed_lt hF h.1
    simp at hx
    rcases hx with rfl | rfl
    · exact hab.1
    · exact hab.2
  | a :: b :: c :: r, h, _, x, hx => by
    have hab := ed_lt hF h.1
    rcases List.mem_cons.mp hx with rfl | hx
    · exact hab.1
    · exact Dn.lt hF h.2 (by simp) x hx
/-- Where nothing leads round: of any nodes that are left there is one to which no edge leads from another of them. -/
theorem source {n : Nat} (hF : Fits n E) (hA : Acyc E) (S : Nat → Prop) (u : Nat) (hu : S u) : ∃ v, S v ∧ ∀ a, ed E a v → ¬ S a := by
  apply Classical.byContradiction
  intro hno
  have hall : ∀ v, S v → ∃ a, ed E a v ∧ S a := fun v hv => Classical.byContradiction fun h => hno ⟨v, hv, fun a ha hs => h ⟨a, ha, hs⟩⟩
  have key : ∀ k : Nat, ∃ (a : Nat) (r : List Nat), r.length = k ∧ Dn E (a :: r) ∧ S a := by
    intro k
    induction k with
    | zero => exact ⟨u, [], rfl, trivial, hu⟩
    | succ k ih =>
      obtain ⟨a, r, hl, hp, ha⟩ := ih
      obtain ⟨b, hb, hs⟩ := hall a ha
      exact ⟨b, a :: r, by simp [hl], ⟨hb, hp⟩, hs⟩
  obtain ⟨a, r, hl, hp, _⟩ := key (n + 1)
  have h1 := length_below n (a :: r) (hp.nodup hA) (hp.lt hF (by simp [hl]))
  simp [hl] at h1
  omega

/-! An edge more, an edge less -/
theorem ed_snoc {a b x y : Nat} : ed (E ++ [((a : Int), (b : Int))]) x y ↔ ed E x y ∨ (x = a ∧ y = b) := by
  unfold ed
  rw [List.mem_append, List.mem_singleton, Prod.mk.injEq, Int.ofNat_inj, Int.ofNat_inj]
theorem way_snoc {a b x y : Nat} (h : Way (E ++ [((a : Int), (b : Int))]) x y) : Way E x y ∨ ((x = a ∨ Way E x a) ∧ (y = b ∨ Way E b y)) := by
  induction h with
  | one e =>
    rcases ed_snoc.mp e with e | ⟨rfl, rfl⟩
    · exact .inl (.one e)
    · exact .inr ⟨.inl rfl, .inl rfl⟩
  | more _ e ih =>
    rcases ed_snoc.mp e with e' | ⟨rfl, rfl⟩
    · rcases ih with h | ⟨h1, h2⟩
      · exact .inl (.more h e')
      · refine .inr ⟨h1, .inr ?_⟩
        rcases h2 with rfl | h2
        · exact .one e'
        · exact .more h2 e'
    · rcases ih with h | ⟨h1, _⟩
      · exact .inr ⟨.inr h, .inl rfl⟩
      · exact .inr ⟨h1, .inl rfl⟩
/-- An edge more leads round just if a way led back. -/
theorem acyc_snoc {a b : Nat} (hA : Acyc E) (hab : a ≠ b) : Acyc (E ++ [((a : Int), (b : Int))]) ↔ ¬ Way E b a := by
  constructor
  · intro h k
    refine h b ((k.mono fun x y e => ed_snoc.mpr (.inl e)).trans (.one (ed_snoc.mpr (.inr ⟨rfl, rfl⟩))))
  · intro h x hx
    rcases way_snoc hx with h1 | ⟨h1, h2⟩
    · exact hA x h1
    · rcases h1 with rfl | h1 <;> rcases h2 with h2 | h2
      · exact hab h2
      · exact h h2
      · subst h2
        exact h h1
      · exact h (h2.trans h1)
theorem Acyc.mono {E' : List (Int × Int)} (hA : Acyc E) (h : ∀ a b, ed E' a b → ed E a b) : Acyc E' := fun a hw => hA a (hw.mono h)
theorem Up.mono {E' : List (Int × Int)} (h : ∀ a b, ed E a b → ed E' a b) : ∀ {p : List Nat}, Up E p → Up E' p
  | [], k => k.elim
  | [_], _ => trivial
  | b :: a :: r, k => ⟨h _ _ k.1, Up.mono h k.2⟩

/-! The longest way -/
def wsum (W : List Int) (p : List Nat) : Int := (p.map fun x => W.getD x 0).sum
def In (n : Nat) (p : List Nat) : Prop := ∀ x ∈ p, x < n
/-- L is the greatest sum of work of the nodes on one path (0: there is no node). -/
def IsLong (W : List Int) (E : List (Int × Int)) (L : Int) : Prop :=
  (∀ p, Up E p → In W.length p → wsum W p ≤ L) ∧ ((W = [] ∧ L = 0) ∨ ∃ p, Up E p ∧ In W.length p ∧ wsum W p = L)
theorem IsLong.unique {W : List Int} {L M : Int} (h : IsLong W E L) (k : IsLong W E M) : L = M := by
  have one : ∀ {L M : Int}, IsLong W E L → IsLong W E M → L ≤ M := by
    intro L M h k
    rcases h.2 with ⟨hw, rfl⟩ | ⟨p, hp, hi, rfl⟩
    · rcases k.2 with ⟨_, rfl⟩ | ⟨p, hp, hi, _⟩
      · exact Int.le_refl _
      · subst hw
        cases p with
        | nil => exact hp.elim
        | cons x r => exact absurd (hi x (by simp)) (by simp)
    · exact k.1 p hp hi
  have := one h k
  have := one k h
  omega
theorem wsum_le {W : List Int} (hw : ∀ z ∈ W, 0 ≤ z) {p : List Nat} (hn : p.Nodup) (hi : In W.length p) : wsum W p ≤ W.sum := by
  have h := sum_below (fun x => (W.getD x 0).toNat) W.length p hn hi
  have e1 : ∀ q : List Nat, (((q.map fun x => (W.getD x 0).toNat).sum : Nat) : Int) = wsum W q := by
    intro q
    induction q with
    | nil => rfl
    | cons x q ih =>
      have h0 : 0 ≤ W.getD x 0 := by
        rw [List.getD_eq_getElem?_getD]
        cases hx : W[x]? with
        | none => exact Int.le_refl _
        | some z => exact hw z (List.mem_of_getElem? hx)
      unfold wsum at ih ⊢
      simp only [List.map_cons, List.sum_cons]
      rw [← ih]
      omega
  have e2 : wsum W (List.range W.length) = W.sum := by
    unfold wsum
    congr 1
    apply List.ext_getElem?
    intro i
    rw [List.getElem?_map]
    rcases Nat.lt_or_ge i W.length with h | h
    · rw [List.getElem?_range h]
      simp [List.getElem?_eq_getElem h]
    · rw [List.getElem?_eq_none (by simpa using h), List.getElem?_eq_none h]
      rfl
  have h2 : (((p.map fun x => (W.getD x 0).toNat).sum : Nat) : Int) ≤ (((List.range W.length).map fun x => (W.getD x 0).toNat).sum : Nat) := by exact_mod_cast h
  rw [e1, e1, e2] at h2
  exact h2
end Go.Proofs.YtfahabphncmbfaaGreatDoor
set_option linter.unusedVariables false
namespace Go.Proofs.YtfahabphncmbfaaGreatDoor
open Go.RowKit

def EdgesOk (n : Nat) (E : List (Int × Int)) : Prop := Fits n E ∧ (∀ e ∈ E, e.1 ≠ e.2) ∧ E.Nodup
theorem edgesOk_snoc {n : Nat} {E : List (Int × Int)} {j : Nat} {e : Int × Int} (h : E[j]? = some e) : EdgesOk n (E.take (j + 1)) ↔ EdgesOk n (E.take j) ∧ (0 ≤ e.1 ∧ e.1 < n) ∧ (0 ≤ e.2 ∧ e.2 < n) ∧ e.1 ≠ e.2 ∧ e ∉ E.take j := by
  rw [take_snoc' h]
  unfold EdgesOk Fits
  rw [List.nodup_append]
  constructor
  · rintro ⟨k1, k2, k3⟩
    have q := k1 e (by simp)
    refine ⟨⟨fun x hx => k1 x (by simp [hx]), fun x hx => k2 x (by simp [hx]), k3.1⟩, ⟨q.1, q.2.1⟩, q.2.2, k2 e (by simp), fun hm => k3.2.2 e hm e (by simp) rfl⟩
  · rintro ⟨⟨k1, k2, k3⟩, q1, q2, q3, q4⟩
    refine ⟨fun x hx => ?_, fun x hx => ?_, k3, by simp, fun a ha b hb => ?_⟩
    · rcases List.mem_append.mp hx with hx | hx
      · exact k1 x hx
      · obtain rfl : x = e := by simpa using hx
        exact ⟨q1.1, q1.2, q2.1, q2.2⟩
    · rcases List.mem_append.mp hx with hx | hx
      · exact k2 x hx
      · obtain rfl : x = e := by simpa using hx
        exact q3
    · obtain rfl : b = e := by simpa using hb
      exact fun h => q4 (h ▸ ha)
theorem edgesOk_take {n : Nat} {E : List (Int × Int)} (h : EdgesOk n E) (j : Nat) : EdgesOk n (E.take j) :=
  ⟨fun e he => h.1 e (List.mem_of_mem_take he), fun e he => h.2.1 e (List.mem_of_mem_take he), h.2.2.sublist (List.take_sublist j E)⟩
end Go.Proofs.YtfahabphncmbfaaGreatDoor
set_option linter.unusedVariables false
namespace Go.Proofs.YtfahabphncmbfaaGreatDoor
open Go.RowKit

theorem mem_take_snoc {α : Type} [DecidableEq α] {l : List α} {j : Nat} {e x : α} (h : l[j]? = some e) : x ∈ l.take (j + 1) ↔ x ∈ l.take j ∨ x = e := by
  rw [List.take_add_one, h]
  simp
set_option maxHeartbeats 1000000 in
theorem has_any (A : Option Addr) (c : Nat) (zs : List Int) (x : Int) (w : World) (len : Nat) (hn : zs.length = len) (hl : len ≤ 1000) (hI : Ints w w.heap.size A zs) :
    Calls Tryz.prog 24 #[.slice A len c, .int .i64 x] w fun e w' => e = .returned (.bool (decide (x ∈ zs))) ∧ w = w' := by
  have HI := Lib.hid hI
  have HM := Lib.hid hn
  obtain ⟨r, hr⟩ : ∃ r, r = decide (x ∈ zs) := ⟨_, rfl⟩
  rw [← hr]
  have HR := Lib.hid hr
  clear hI hn hr
  go_enter Tryz.func24, Tryz.ntmps24
  go_wp2
  go_loop [5] (fun i => ∃ j : Nat, j ≤ len ∧ i = .int .i64 j ∧ Hid (x ∉ zs.take j)) (fun i => len - (intOf i).toNat)
  case atStart => exact ⟨0, Nat.zero_le _, rfl, Lib.hid (by simp)⟩
  case round =>
    obtain ⟨j, hj, rfl, HN⟩ := hrel
    by_cases hlt : j < len
    · obtain ⟨bk, o, z, rfl, hbg, hzj, hc1⟩ := HI.out.at_ (k := j) (by rw [HM.out]; exact hlt)
      have HS := Lib.hid (mem_take_snoc (x := x) hzj)
      have HZJ := Lib.hid hzj
      clear hzj
      by_cases h1 : z = x
      · have hin : x ∈ zs := by subst h1; exact List.mem_of_getElem? HZJ.out
        have HIN := Lib.hid (decide_eq_true hin)
        clear hin
        go_wp2
        go_ret
        exact ⟨by rw [HR.out, HIN.out]; rfl, rfl⟩
      · have h3 : (z == x) = false := by simpa using h1
        go_wp2
        go_round
        case rel => exact ⟨j + 1, by omega, by go_num, Lib.hid (by rw [HS.out]; rintro (h | h); exact HN.out h; exact h1 h.symm)⟩
        case measure => simp [intOf]; omega
    · obtain rfl : j = len := by omega
      have hno : x ∉ zs := by
        have h := HN.out
        rwa [List.take_of_length_le (by rw [HM.out]; omega)] at h
      have HNO := Lib.hid (decide_eq_false hno)
      clear hno
      go_wp2
      go_ret
      exact ⟨by rw [HR.out, HNO.out]; rfl, rfl⟩
end Go.Proofs.YtfahabphncmbfaaGreatDoor
set_option linter.unusedVariables false
namespace Go.Proofs.YtfahabphncmbfaaGreatDoor
open Go.RowKit

section
variable {P : Option Addr} {np pc : Nat} {E : Option Addr} {ne ec : Nat} {F : Option Addr} {nf fc : Nat} {R : Option Addr} {nr rc : Nat} {p q : Int}
/-- In the middle of a round: a task lies in its box, an edge in block g, the edges as they came. -/
structure BxE (w : World) (p q : Int) (P : Option Addr) (np pc : Nat) (E : Option Addr) (ne ec : Nat) (F : Option Addr) (nf fc : Nat) (R : Option Addr) (nr rc : Nat) (g : Nat) (x y : Int) (es : List (Int × Int)) (w' : World) : Prop where
  b : BxD w p q P np pc E ne ec F nf fc R nr rc w'
  e0 : w'.cell? ⟨g, 0, none⟩ = some (.int .i64 x)
  e1 : w'.cell? ⟨g, 1, none⟩ = some (.int .i64 y)
  l : Pairs w' w.heap.size E es
theorem BxE.next {w w1 w2 : World} {g : Nat} {x y : Int} {es : List (Int × Int)} (h : BxE w p q P np pc E ne ec F nf fc R nr rc g x y es w1) (hb : Below w1.heap.size w1 w2) : BxE w p q P np pc E ne ec F nf fc R nr rc g x y es w2 :=
  ⟨h.b.next hb, (hb.cell (World.block_lt_of_cell? _ _ h.e0)).trans h.e0, (hb.cell (World.block_lt_of_cell? _ _ h.e1)).trans h.e1, h.l.keep fun a ha => hb.cell (Nat.lt_of_lt_of_le ha h.b.bel.size)⟩
set_option maxRecDepth 100000 in
set_option maxHeartbeats 8000000 in
theorem dedges_any (es : List (Int × Int)) (r : Bool) (hr : r = true ↔ EdgesOk np es) (w : World) (hm : es.length = ne) (hl : ne ≤ 1000) (hP : Pairs w w.heap.size E es) :
    Calls Tryz.prog 173 #[.agg #[.int .i64 p, .int .i64 q, .slice P np pc, .slice E ne ec, .slice F nf fc, .slice R nr rc]] w fun e w' => e = .returned (.bool r) ∧ Below w.heap.size w w' := by
  have B0 := Lib.hid (BxD.start w p q P np pc E ne ec F nf fc R nr rc)
  have HM := Lib.hid hm
  have HR := Lib.hid hr
  have HP := Lib.hid hP
  clear hP hm hr
  go_enter Tryz.func173, Tryz.ntmps173
  go_wp2
  go_loopw [3] (fun v wr => ∃ k : Nat, k ≤ ne ∧ v = .int .i64 k ∧ Hid (BxD w p q P np pc E ne ec F nf fc R nr rc wr) ∧ Hid (EdgesOk np (es.take k))) (fun v _ => ne - (intOf v).toNat)
  case atStart => exact ⟨0, Nat.zero_le _, rfl, B0, Lib.hid ⟨fun e he => by simp at he, fun e he => by simp at he, by simp⟩⟩
  case round =>
    obtain ⟨k, hk, rfl, BR, HE⟩ := hrel
    obtain ⟨c0, c1, c2, c3, c4, c5⟩ := BR.out.cells
    have hlt0 := World.block_lt_of_cell? _ _ c0
    simp only at hlt0
    clear B0
    by_cases hlt : k < ne
    · have hPr := HP.out.below BR.out.bel
      obtain ⟨bk, off, ⟨x, y⟩, rfl, hbg, hek, d1, d2⟩ := hPr.at_ (k := k) (by rw [HM.out]; exact hlt)
      simp only at d1 d2
      have HS := Lib.hid (edgesOk_snoc (n := np) hek)
      have HBAD := Lib.hid (fun h : ¬ EdgesOk np (es.take (k + 1)) => show r = false by
        rw [← Bool.not_eq_true]
        exact fun z => h (edgesOk_take (HR.out.mp z) _))
      have C1 := Lib.hid (dpart_any (P := P) (np := np) (pc := pc) (E := some ⟨bk, off, none⟩) (ne := ne) (ec := ec) (F := F) (nf := nf) (fc := fc) (R := R) (nr := nr) (rc := rc) (p := p) (q := q) x)
      have C2 := Lib.hid (dpart_any (P := P) (np := np) (pc := pc) (E := some ⟨bk, off, none⟩) (ne := ne) (ec := ec) (F := F) (nf := nf) (fc := fc) (R := R) (nr := nr) (rc := rc) (p := p) (q := q) y)
      have X1 : Hid (BxE w p q P np pc (some ⟨bk, off, none⟩) ne ec F nf fc R nr rc wr.heap.size x y es (wr.alloc (.cells #[.int .i64 x, .int .i64 y] 179))) :=
        Lib.hid ⟨BR.out.next (below_alloc _), by rw [World.cell?_alloc_at _ _ _ _ rfl]; rfl, by rw [World.cell?_alloc_at _ _ _ _ rfl]; rfl, hPr.keep fun a ha => World.cell?_alloc_lt _ _ _ (Nat.lt_of_lt_of_le ha BR.out.bel.size)⟩
      clear hek hPr
      by_cases p1 : 0 ≤ x ∧ x < np
      · simp only [decide_eq_true p1] at C1
        by_cases p2 : 0 ≤ y ∧ y < np
        · simp only [decide_eq_true p2] at C2
          by_cases p3 : x = y
          · have HX := Lib.hid (HBAD.out (fun z => ((HS.out.mp z).2.2.2.1) p3))
            subst p3
            clear p1 p2
            go_wp2_with fail
            refine (C1.out _).mono ?_
            rintro e w2 ⟨rfl, b2⟩
            have X2 := Lib.hid (X1.out.next b2)
            clear b2 c0 c1 c2 c3 c4 c5 d1 d2
            obtain ⟨c0, c1, c2, c3, c4, c5⟩ := X2.out.b.cells
            have e0 := X2.out.e0
            have e1 := X2.out.e1
            go_wp2_with fail
            refine (C2.out _).mono ?_
            rintro e w3 ⟨rfl, b3⟩
            have X3 := Lib.hid (X2.out.next b3)
            clear b3 c0 c1 c2 c3 c4 c5 e0 e1
            have e0 := X3.out.e0
            have e1 := X3.out.e1
            go_wp2
            go_ret
            exact ⟨by rw [HX.out]; rfl, X3.out.b.bel⟩
          · have h3 : (x == y) = false := by simpa using p3
            have HP3 := Lib.hid p3
            have HP1 := Lib.hid p1
            have HP2 := Lib.hid p2
            clear p1 p2 p3
            go_wp2_with fail
            refine (C1.out _).mono ?_
            rintro e w2 ⟨rfl, b2⟩
            have X2 := Lib.hid (X1.out.next b2)
            clear b2 c0 c1 c2 c3 c4 c5 d1 d2
            obtain ⟨c0, c1, c2, c3, c4, c5⟩ := X2.out.b.cells
            have e0 := X2.out.e0
            have e1 := X2.out.e1
            go_wp2_with fail
            refine (C2.out _).mono ?_
            rintro e w3 ⟨rfl, b3⟩
            have X3 := Lib.hid (X2.out.next b3)
            clear b3 c0 c1 c2 c3 c4 c5 e0 e1 X1 X2
            have e0 := X3.out.e0
            have e1 := X3.out.e1
            go_wp2
            go_loopw [5] (fun v wq => ∃ t : Nat, t ≤ k ∧ v = .int .i64 t ∧ Hid (BxE w p q P np pc (some ⟨bk, off, none⟩) ne ec F nf fc R nr rc wr.heap.size x y es wq) ∧ Hid ((x, y) ∉ es.take t)) (fun v _ => k - (intOf v).toNat)
            case atStart => exact ⟨0, Nat.zero_le _, rfl, X3, Lib.hid (by simp)⟩
            case round =>
              clear e0 e1
              obtain ⟨t, ht, rfl, XQ, HNO⟩ := hrel
              by_cases hlt3 : t < k
              · obtain ⟨bk2, o2, ⟨u, v⟩, hfe, hbg2, heq, d1, d2⟩ := XQ.out.l.at_ (k := t) (by rw [HM.out]; omega)
                obtain ⟨rfl, rfl⟩ : bk2 = bk ∧ o2 = off := by injection hfe with h; injection h with h1 h2 _; exact ⟨h1.symm, h2.symm⟩
                simp only at d1 d2
                obtain ⟨b0, b1, b2, b3, b4, b5⟩ := XQ.out.b.cells
                have n3 := near_cell b3
                have n4 := near_cell XQ.out.e0
                have n5 := near_cell XQ.out.e1
                have n6 := near_cell d1
                have n7 := near_cell d2
                have htm : t < ne := by omega
                have HEQ := Lib.hid heq
                have HMS := Lib.hid (mem_take_snoc (x := (x, y)) heq)
                clear hfe b0 b1 b2 b3 b4 b5 d1 d2 heq
                by_cases hu : u = x
                · by_cases hv : v = y
                  · have HX := Lib.hid (HBAD.out (fun z => (HS.out.mp z).2.2.2.2 (by
                      subst hu hv
                      exact List.mem_of_getElem? (i := t) (by rw [List.getElem?_take, if_pos hlt3]; exact HEQ.out))))
                    subst hu hv
                    go_wp2
                    refine wp_region_near _ (by kernel_rfl) (by kernel_rfl) (Nat.le_refl _) ?_
                    repeat (go_big_quiet_step (fail))
                    refine wpQuiet_nil ?_
                    intro W hW
                    have XW := Lib.hid (XQ.out.next hW)
                    clear hW
                    go_wp2
                    go_ret
                    exact ⟨by rw [HX.out]; rfl, XW.out.b.bel⟩
                  · have hb : (v == y) = false := by simpa using hv
                    have HV := Lib.hid hv
                    subst hu
                    clear hv
                    go_wp2
                    refine wp_region_near _ (by kernel_rfl) (by kernel_rfl) (Nat.le_refl _) ?_
                    repeat (go_big_quiet_step (fail))
                    refine wpQuiet_nil ?_
                    intro W hW
                    have XW := Lib.hid (XQ.out.next hW)
                    clear hW
                    go_wp2
                    go_roundw
                    case rel => exact ⟨t + 1, by omega, by go_num, XW, Lib.hid (by rw [HMS.out]; rintro (h | h); exact HNO.out h; injection h with _ h; exact HV.out h.symm)⟩
                    case measure => simp [intOf]; omega
                · have hb : (u == x) = false := by simpa using hu
                  have HU := Lib.hid hu
                  clear hu
                  go_wp2
                  refine wp_region_near _ (by kernel_rfl) (by kernel_rfl) (Nat.le_refl _) ?_
                  repeat (go_big_quiet_step (fail))
                  refine wpQuiet_nil ?_
                  intro W hW
                  have XW := Lib.hid (XQ.out.next hW)
                  clear hW
                  go_wp2
                  go_roundw
                  case rel => exact ⟨t + 1, by omega, by go_num, XW, Lib.hid (by rw [HMS.out]; rintro (h | h); exact HNO.out h; injection h with h _; exact HU.out h.symm)⟩
                  case measure => simp [intOf]; omega
              · have e : t = k := by omega
                have HOK := Lib.hid (HS.out.mpr ⟨HE.out, HP1.out, HP2.out, HP3.out, by rw [← e]; exact HNO.out⟩)
                clear e
                go_wp2
                go_roundw
                case rel => exact ⟨k + 1, by omega, by go_num, Lib.hid XQ.out.b, HOK⟩
                case measure => simp [intOf]; omega
        · simp only [decide_eq_false p2] at C2
          have HX := Lib.hid (HBAD.out (fun z => p2 (HS.out.mp z).2.2.1))
          clear p1 p2
          go_wp2_with fail
          refine (C1.out _).mono ?_
          rintro e w2 ⟨rfl, b2⟩
          have X2 := Lib.hid (X1.out.next b2)
          clear b2 c0 c1 c2 c3 c4 c5 d1 d2
          obtain ⟨c0, c1, c2, c3, c4, c5⟩ := X2.out.b.cells
          have e0 := X2.out.e0
          have e1 := X2.out.e1
          go_wp2_with fail
          refine (C2.out _).mono ?_
          rintro e w3 ⟨rfl, b3⟩
          have X3 := Lib.hid (X2.out.next b3)
          clear b3 c0 c1 c2 c3 c4 c5 e0 e1
          go_wp2
          go_ret
          exact ⟨by rw [HX.out]; rfl, X3.out.b.bel⟩
      · simp only [decide_eq_false p1] at C1
        have HX := Lib.hid (HBAD.out (fun z => p1 (HS.out.mp z).2.1))
        clear p1
        go_wp2_with fail
        refine (C1.out _).mono ?_
        rintro e w2 ⟨rfl, b2⟩
        have X2 := Lib.hid (X1.out.next b2)
        clear b2 c0 c1 c2 c3 c4 c5 d1 d2
        go_wp2
        go_ret
        exact ⟨by rw [HX.out]; rfl, X2.out.b.bel⟩
    · have e : ne = k := by omega
      subst e
      have HYES := Lib.hid (show r = true from HR.out.mpr (by
        have h := HE.out
        rwa [List.take_of_length_le (by rw [HM.out]; omega)] at h))
      go_wp2
      go_ret
      exact ⟨by rw [HYES.out]; rfl, BR.out.bel⟩
end
end Go.Proofs.YtfahabphncmbfaaGreatDoor
set_option linter.unusedVariables false
namespace Go.Proofs.YtfahabphncmbfaaGreatDoor
open Go.RowKit

/-- A future that may be (maker, user, at), beside these parts. -/
structure FutOne (ps : List (Int × Int × Int)) (f : Int × Int × Int) : Prop where
  maker : 0 ≤ f.1 ∧ f.1 < ps.length
  user : 0 ≤ f.2.1 ∧ f.2.1 < ps.length
  apart : f.1 ≠ f.2.1
  first : 1 ≤ f.2.2
  last : ∀ e, ps[f.2.1.toNat]? = some e → f.2.2 < e.2.2
structure FutsOk (ps fs : List (Int × Int × Int)) : Prop where
  each : ∀ f ∈ fs, FutOne ps f
  once : (fs.map fun f => f.2).Nodup
theorem futsOk_take {ps fs : List (Int × Int × Int)} (h : FutsOk ps fs) (j : Nat) : FutsOk ps (fs.take j) :=
  ⟨fun f hf => h.each f (List.mem_of_mem_take hf), h.once.sublist ((List.take_sublist j fs).map _)⟩
theorem futsOk_snoc {ps fs : List (Int × Int × Int)} {j : Nat} {f : Int × Int × Int} (h : fs[j]? = some f) : FutsOk ps (fs.take (j + 1)) ↔ FutsOk ps (fs.take j) ∧ FutOne ps f ∧ f.2 ∉ (fs.take j).map fun f => f.2 := by
  rw [take_snoc' h]
  constructor
  · rintro ⟨k1, k2⟩
    rw [List.map_append, List.nodup_append] at k2
    exact ⟨⟨fun x hx => k1 x (by simp [hx]), k2.1⟩, k1 f (by simp), fun hm => k2.2.2 _ hm f.2 (by simp) rfl⟩
  · rintro ⟨⟨k1, k2⟩, q1, q2⟩
    refine ⟨fun x hx => ?_, ?_⟩
    · rcases List.mem_append.mp hx with hx | hx
      · exact k1 x hx
      · obtain rfl : x = f := by simpa using hx
        exact q1
    · rw [List.map_append, List.nodup_append]
      refine ⟨k2, by simp, fun a ha b hb => ?_⟩
      obtain rfl : b = f.2 := by simpa using hb
      exact fun e => q2 (e ▸ ha)
theorem map_take_snoc {fs : List (Int × Int × Int)} {t : Nat} {f : Int × Int × Int} {a : Int × Int} (h : fs[t]? = some f) : a ∈ (fs.take (t + 1)).map (fun f => f.2) ↔ a ∈ (fs.take t).map (fun f => f.2) ∨ a = f.2 := by
  rw [take_snoc' h, List.map_append, List.mem_append]
  simp
section
variable {P : Option Addr} {np pc : Nat} {E : Option Addr} {ne ec : Nat} {F : Option Addr} {nf fc : Nat} {R : Option Addr} {nr rc : Nat} {p q : Int}
/-- In the middle of a round: a task lies in its box, a future in block g, the parts and the futures as they came. -/
structure BxFd (w : World) (p q : Int) (P : Option Addr) (np pc : Nat) (E : Option Addr) (ne ec : Nat) (F : Option Addr) (nf fc : Nat) (R : Option Addr) (nr rc : Nat) (g : Nat) (x y z : Int) (ps fs : List (Int × Int × Int)) (w' : World) : Prop where
  b : BxD w p q P np pc E ne ec F nf fc R nr rc w'
  e0 : w'.cell? ⟨g, 0, none⟩ = some (.int .i64 x)
  e1 : w'.cell? ⟨g, 1, none⟩ = some (.int .i64 y)
  e2 : w'.cell? ⟨g, 2, none⟩ = some (.int .i64 z)
  l : Trips w' w.heap.size P ps
  f : Trips w' w.heap.size F fs
theorem BxFd.next {w w1 w2 : World} {g : Nat} {x y z : Int} {ps fs : List (Int × Int × Int)} (h : BxFd w p q P np pc E ne ec F nf fc R nr rc g x y z ps fs w1) (hb : Below w1.heap.size w1 w2) : BxFd w p q P np pc E ne ec F nf fc R nr rc g x y z ps fs w2 :=
  ⟨h.b.next hb, (hb.cell (World.block_lt_of_cell? _ _ h.e0)).trans h.e0, (hb.cell (World.block_lt_of_cell? _ _ h.e1)).trans h.e1, (hb.cell (World.block_lt_of_cell? _ _ h.e2)).trans h.e2, h.l.keep fun a ha => hb.cell (Nat.lt_of_lt_of_le ha h.b.bel.size), h.f.keep fun a ha => hb.cell (Nat.lt_of_lt_of_le ha h.b.bel.size)⟩
set_option maxRecDepth 100000 in
set_option maxHeartbeats 1600000 in
theorem dfutures_any (ps fs : List (Int × Int × Int)) (r : Bool) (hr : r = true ↔ FutsOk ps fs) (w : World) (hn : ps.length = np) (hl0 : np ≤ 1000) (hm : fs.length = nf) (hl : nf ≤ 1000) (hT : Trips w w.heap.size P ps) (hP : Trips w w.heap.size F fs) :
    Calls Tryz.prog 174 #[.agg #[.int .i64 p, .int .i64 q, .slice P np pc, .slice E ne ec, .slice F nf fc, .slice R nr rc]] w fun e w' => e = .returned (.bool r) ∧ Below w.heap.size w w' := by
  have B0 := Lib.hid (BxD.start w p q P np pc E ne ec F nf fc R nr rc)
  have HN := Lib.hid hn
  have HM := Lib.hid hm
  have HR := Lib.hid hr
  have HP := Lib.hid hP
  have HT := Lib.hid hT
  clear hP hm hr hT hn
  go_enter Tryz.func174, Tryz.ntmps174
  go_wp2
  go_loopw [3] (fun v wr => ∃ k : Nat, k ≤ nf ∧ v = .int .i64 k ∧ Hid (BxD w p q P np pc E ne ec F nf fc R nr rc wr) ∧ Hid (FutsOk ps (fs.take k))) (fun v _ => nf - (intOf v).toNat)
  case atStart => exact ⟨0, Nat.zero_le _, rfl, B0, Lib.hid ⟨fun e he => by simp at he, by simp⟩⟩
  case round =>
    obtain ⟨k, hk, rfl, BR, HE⟩ := hrel
    obtain ⟨c0, c1, c2, c3, c4, c5⟩ := BR.out.cells
    have hlt0 := World.block_lt_of_cell? _ _ c0
    simp only at hlt0
    clear B0
    by_cases hlt : k < nf
    · have hPr := HP.out.below BR.out.bel
      obtain ⟨bk, off, x, y, z, rfl, hbg, hek, d1, d2, d3⟩ := hPr.at_ (k := k) (by rw [HM.out]; exact hlt)
      have HS := Lib.hid (futsOk_snoc (ps := ps) hek)
      have HBAD := Lib.hid (fun h : ¬ FutsOk ps (fs.take (k + 1)) => show r = false by
        rw [← Bool.not_eq_true]
        exact fun z => h (futsOk_take (HR.out.mp z) _))
      have C1 := Lib.hid (dpart_any (P := P) (np := np) (pc := pc) (E := E) (ne := ne) (ec := ec) (F := some ⟨bk, off, none⟩) (nf := nf) (fc := fc) (R := R) (nr := nr) (rc := rc) (p := p) (q := q) x)
      have C2 := Lib.hid (dpart_any (P := P) (np := np) (pc := pc) (E := E) (ne := ne) (ec := ec) (F := some ⟨bk, off, none⟩) (nf := nf) (fc := fc) (R := R) (nr := nr) (rc := rc) (p := p) (q := q) y)
      have X1 : Hid (BxFd w p q P np pc E ne ec (some ⟨bk, off, none⟩) nf fc R nr rc wr.heap.size x y z ps fs (wr.alloc (.cells #[.int .i64 x, .int .i64 y, .int .i64 z] 220))) :=
        Lib.hid ⟨BR.out.next (below_alloc _), by rw [World.cell?_alloc_at _ _ _ _ rfl]; rfl, by rw [World.cell?_alloc_at _ _ _ _ rfl]; rfl, by rw [World.cell?_alloc_at _ _ _ _ rfl]; rfl, (HT.out.below BR.out.bel).keep fun a ha => World.cell?_alloc_lt _ _ _ (Nat.lt_of_lt_of_le ha BR.out.bel.size), hPr.keep fun a ha => World.cell?_alloc_lt _ _ _ (Nat.lt_of_lt_of_le ha BR.out.bel.size)⟩
      obtain ⟨a0, a1, a2, a3, a4, a5⟩ := X1.out.b.cells
      have n0 := near_cell a0
      have n1 := near_cell a1
      have n2 := near_cell a2
      have n3 := near_cell a3
      have n4 := near_cell a4
      have n5 := near_cell a5
      have n6 := near_cell X1.out.e0
      have n7 := near_cell X1.out.e1
      have n8 := near_cell X1.out.e2
      clear hek hPr a0 a1 a2 a3 a4 a5
      by_cases p1 : 0 ≤ x ∧ x < np
      · simp only [decide_eq_true p1] at C1
        by_cases p2 : 0 ≤ y ∧ y < np
        · simp only [decide_eq_true p2] at C2
          by_cases p3 : x = y
          · have HX := Lib.hid (HBAD.out (fun z => (HS.out.mp z).2.1.apart p3))
            subst p3
            clear p1 p2
            go_wp2_with fail
            refine wp_region_near _ (by kernel_rfl) (by kernel_rfl) (Nat.le_refl _) ?_
            repeat (go_big_quiet_step (first
              | (go_at_call_of 212 (Value.int .i64 x); exact near_of (C1.out _) (Nat.le_refl _))
              | (go_at_call_of 212 (Value.int .i64 x); exact near_of (C2.out _) (Nat.le_refl _))))
            refine wpQuiet_nil ?_
            intro W hW
            have X2 := Lib.hid (X1.out.next hW)
            clear hW c0 c1 c2 c3 c4 c5 d1 d2 d3
            go_wp2
            go_ret
            exact ⟨by rw [HX.out]; rfl, X2.out.b.bel⟩
          · have h3 : (x == y) = false := by simpa using p3
            by_cases p4 : 1 ≤ z
            · have g4 : decide (z < 1) = false := by rw [decide_eq_false_iff_not]; omega
              obtain ⟨u, rfl⟩ : ∃ u : Nat, y = (u : Int) := ⟨y.toNat, by omega⟩
              have hu : u < np := by omega
              obtain ⟨bp, op, o1, o2, wk, rfl, hbp, hpk, f1, f2, f3⟩ := X1.out.l.at_ (k := u) (by rw [HN.out]; exact hu)
              have n9 := near_cell f3
              clear f1 f2 f3
              by_cases p5 : z < wk
              · have g5 : decide (wk ≤ z) = false := by rw [decide_eq_false_iff_not]; omega
                have HF1 : Hid (FutOne ps (x, (u : Int), z)) := Lib.hid ⟨by rw [HN.out]; exact p1, by rw [HN.out]; exact p2, p3, p4, fun e he => by
                  simp only [Int.toNat_natCast] at he
                  rw [hpk] at he
                  injection he with he
                  subst he
                  exact p5⟩
                have HPK := Lib.hid hpk
                clear p1 p2 p3 hpk
                go_wp2_with fail
                refine wp_region_near _ (by kernel_rfl) (by kernel_rfl) (Nat.le_refl _) ?_
                repeat (go_big_quiet_step (first
                  | (go_at_call_of 212 (Value.int .i64 x); exact near_of (C1.out _) (Nat.le_refl _))
                  | (go_at_call_of 212 (Value.int .i64 (u : Int)); exact near_of (C2.out _) (Nat.le_refl _))))
                refine wpQuiet_nil ?_
                intro W hW
                have X2 := Lib.hid (X1.out.next hW)
                clear hW c0 c1 c2 c3 c4 c5 d1 d2 d3
                clear n0 n1 n2 n3 n4 n5 n6 n7 n8 n9 X1
                go_wp2
                go_loopw [5] (fun v wq => ∃ t : Nat, t ≤ k ∧ v = .int .i64 t ∧ Hid (BxFd w p q (some ⟨bp, op, none⟩) np pc E ne ec (some ⟨bk, off, none⟩) nf fc R nr rc wr.heap.size x u z ps fs wq) ∧ Hid (((u : Int), z) ∉ (fs.take t).map fun f => f.2)) (fun v _ => k - (intOf v).toNat)
                case atStart => exact ⟨0, Nat.zero_le _, rfl, X2, Lib.hid (by simp)⟩
                case round =>
                  obtain ⟨t, ht, rfl, XQ, HNO⟩ := hrel
                  by_cases hlt3 : t < k
                  · obtain ⟨bk2, o2', u1, u2, u3, hfe, hbg2, heq, d1, d2, d3⟩ := XQ.out.f.at_ (k := t) (by rw [HM.out]; omega)
                    obtain ⟨rfl, rfl⟩ : bk2 = bk ∧ o2' = off := by injection hfe with h; injection h with h1 h2 _; exact ⟨h1.symm, h2.symm⟩
                    obtain ⟨b0, b1, b2, b3, b4, b5⟩ := XQ.out.b.cells
                    have n3 := near_cell b4
                    have n4 := near_cell XQ.out.e1
                    have n5 := near_cell XQ.out.e2
                    have n6 := near_cell d2
                    have n7 := near_cell d3
                    have htm : t < nf := by omega
                    have HEQ := Lib.hid heq
                    have HMS := Lib.hid (map_take_snoc (a := ((u : Int), z)) heq)
                    clear hfe b0 b1 b2 b3 b4 b5 d1 d2 d3 heq
                    by_cases hu : u2 = (u : Int)
                    · by_cases hv : u3 = z
                      · have HX := Lib.hid (HBAD.out (fun zz => (HS.out.mp zz).2.2 (by
                          subst hu hv
                          exact List.mem_map.mpr ⟨(u1, (u : Int), u3), List.mem_of_getElem? (i := t) (by rw [List.getElem?_take, if_pos hlt3]; exact HEQ.out), rfl⟩)))
                        subst hu hv
                        go_wp2
                        refine wp_region_near _ (by kernel_rfl) (by kernel_rfl) (Nat.le_refl _) ?_
                        repeat (go_big_quiet_step (fail))
                        refine wpQuiet_nil ?_
                        intro W hW
                        have XW := Lib.hid (XQ.out.next hW)
                        clear hW
                        go_wp2
                        go_ret
                        exact ⟨by rw [HX.out]; rfl, XW.out.b.bel⟩
                      · have hb : (u3 == z) = false := by simpa using hv
                        have HV := Lib.hid hv
                        subst hu
                        clear hv
                        go_wp2
                        refine wp_region_near _ (by kernel_rfl) (by kernel_rfl) (Nat.le_refl _) ?_
                        repeat (go_big_quiet_step (fail))
                        refine wpQuiet_nil ?_
                        intro W hW
                        have XW := Lib.hid (XQ.out.next hW)
                        clear hW
                        go_wp2
                        go_roundw
                        case rel => exact ⟨t + 1, by omega, by go_num, XW, Lib.hid (by rw [HMS.out]; rintro (h | h); exact HNO.out h; injection h with _ h; exact HV.out h.symm)⟩
                        case measure => simp [intOf]; omega
                    · have hb : (u2 == (u : Int)) = false := by simpa using hu
                      have HU := Lib.hid hu
                      clear hu
                      go_wp2
                      refine wp_region_near _ (by kernel_rfl) (by kernel_rfl) (Nat.le_refl _) ?_
                      repeat (go_big_quiet_step (fail))
                      refine wpQuiet_nil ?_
                      intro W hW
                      have XW := Lib.hid (XQ.out.next hW)
                      clear hW
                      go_wp2
                      go_roundw
                      case rel => exact ⟨t + 1, by omega, by go_num, XW, Lib.hid (by rw [HMS.out]; rintro (h | h); exact HNO.out h; injection h with h _; exact HU.out h.symm)⟩
                      case measure => simp [intOf]; omega
                  · have e : t = k := by omega
                    have HOK := Lib.hid (HS.out.mpr ⟨HE.out, HF1.out, by rw [← e]; exact HNO.out⟩)
                    clear e
                    go_wp2
                    go_roundw
                    case rel => exact ⟨k + 1, by omega, by go_num, Lib.hid XQ.out.b, HOK⟩
                    case measure => simp [intOf]; omega
              · have g5 : decide (wk ≤ z) = true := by rw [decide_eq_true_iff]; omega
                have HX := Lib.hid (HBAD.out (fun zz => p5 ((HS.out.mp zz).2.1.last _ (by simpa using hpk))))
                clear p1 p2 p3 hpk
                go_wp2_with fail
                refine wp_region_near _ (by kernel_rfl) (by kernel_rfl) (Nat.le_refl _) ?_
                repeat (go_big_quiet_step (first
                  | (go_at_call_of 212 (Value.int .i64 x); exact near_of (C1.out _) (Nat.le_refl _))
                  | (go_at_call_of 212 (Value.int .i64 (u : Int)); exact near_of (C2.out _) (Nat.le_refl _))))
                refine wpQuiet_nil ?_
                intro W hW
                have X2 := Lib.hid (X1.out.next hW)
                clear hW c0 c1 c2 c3 c4 c5 d1 d2 d3
                go_wp2
                go_ret
                exact ⟨by rw [HX.out]; rfl, X2.out.b.bel⟩
            · have g4 : decide (z < 1) = true := by rw [decide_eq_true_iff]; omega
              have HX := Lib.hid (HBAD.out (fun zz => p4 (HS.out.mp zz).2.1.first))
              clear p1 p2 p3
              go_wp2_with fail
              refine wp_region_near _ (by kernel_rfl) (by kernel_rfl) (Nat.le_refl _) ?_
              repeat (go_big_quiet_step (first
                | (go_at_call_of 212 (Value.int .i64 x); exact near_of (C1.out _) (Nat.le_refl _))
                | (go_at_call_of 212 (Value.int .i64 y); exact near_of (C2.out _) (Nat.le_refl _))))
              refine wpQuiet_nil ?_
              intro W hW
              have X2 := Lib.hid (X1.out.next hW)
              clear hW c0 c1 c2 c3 c4 c5 d1 d2 d3
              go_wp2
              go_ret
              exact ⟨by rw [HX.out]; rfl, X2.out.b.bel⟩
        · simp only [decide_eq_false p2] at C2
          have HX := Lib.hid (HBAD.out (fun zz => p2 (by have := (HS.out.mp zz).2.1.user; rwa [HN.out] at this)))
          clear p1 p2
          go_wp2_with fail
          refine wp_region_near _ (by kernel_rfl) (by kernel_rfl) (Nat.le_refl _) ?_
          repeat (go_big_quiet_step (first
            | (go_at_call_of 212 (Value.int .i64 x); exact near_of (C1.out _) (Nat.le_refl _))
            | (go_at_call_of 212 (Value.int .i64 y); exact near_of (C2.out _) (Nat.le_refl _))))
          refine wpQuiet_nil ?_
          intro W hW
          have X2 := Lib.hid (X1.out.next hW)
          clear hW c0 c1 c2 c3 c4 c5 d1 d2 d3
          go_wp2
          go_ret
          exact ⟨by rw [HX.out]; rfl, X2.out.b.bel⟩
      · simp only [decide_eq_false p1] at C1
        have HX := Lib.hid (HBAD.out (fun zz => p1 (by have := (HS.out.mp zz).2.1.maker; rwa [HN.out] at this)))
        clear p1
        go_wp2_with fail
        refine wp_region_near _ (by kernel_rfl) (by kernel_rfl) (Nat.le_refl _) ?_
        repeat (go_big_quiet_step (first
          | (go_at_call_of 212 (Value.int .i64 x); exact near_of (C1.out _) (Nat.le_refl _))
          | (go_at_call_of 212 (Value.int .i64 y); exact near_of (C2.out _) (Nat.le_refl _))))
        refine wpQuiet_nil ?_
        intro W hW
        have X2 := Lib.hid (X1.out.next hW)
        clear hW c0 c1 c2 c3 c4 c5 d1 d2 d3
        go_wp2
        go_ret
        exact ⟨by rw [HX.out]; rfl, X2.out.b.bel⟩
    · have e : nf = k := by omega
      subst e
      have HYES := Lib.hid (show r = true from HR.out.mpr (by
        have h := HE.out
        rwa [List.take_of_length_le (by rw [HM.out]; omega)] at h))
      go_wp2
      go_ret
      exact ⟨by rw [HYES.out]; rfl, BR.out.bel⟩
end
end Go.Proofs.YtfahabphncmbfaaGreatDoor
