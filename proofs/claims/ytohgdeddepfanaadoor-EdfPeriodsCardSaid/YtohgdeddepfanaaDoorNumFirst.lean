/- The contracts of num.Check, of the closure in firstFault, of slices.IndexFunc and slices.ContainsFunc at it, and of firstFault, in the seat YtohgdeddepfanaaDoor. No statement is proved here. -/
import Derived.Test.YtohgdeddepfanaaDoorChecked
import Derived.Test.YtohgdeddepfanaaDoorMem
import Derived.Test.YtohgdeddepfanaaDoorNumMath
import Derived.Test.YtohgdeddepfanaaDoorNumCheck
import Derived.KernelRfl
namespace Go.Proofs.YtohgdeddepfanaaDoor
open Go.RowKit

/-- The closure looks at a number, and leaves its error in what it captured. -/
theorem look_ok (g : Nat) (n m : Int) (w : World) (h : chk n = 0) (hc : w.cell? ⟨g, 0, none⟩ = some (.int .i64 m)) (hf : w.frozen? ⟨g, 0, none⟩ = false) :
    Calls Tryd.prog 69 #[.int .i64 n, .pointer (some ⟨g, 0, none⟩)] w fun e w' => e = .returned (.bool false) ∧ w.setCell ⟨g, 0, none⟩ (.int .i64 0) = w' := by
  have H := Lib.hid h
  clear h
  go_enter Tryd.func69, Tryd.ntmps69
  go_wp2_with (go_at_call 41; refine (check_any _ _).mono ?_; rw [H.out]; rintro e w' ⟨rfl, rfl⟩)
  go_ret
  exact ⟨rfl, rfl⟩
theorem look_bad (g : Nat) (n m c : Int) (w : World) (h : chk n = c) (h0 : c ≠ 0) (hc : w.cell? ⟨g, 0, none⟩ = some (.int .i64 m)) (hf : w.frozen? ⟨g, 0, none⟩ = false) :
    Calls Tryd.prog 69 #[.int .i64 n, .pointer (some ⟨g, 0, none⟩)] w fun e w' => e = .returned (.bool true) ∧ w.setCell ⟨g, 0, none⟩ (.int .i64 c) = w' := by
  have H := Lib.hid h
  clear h
  have hb : (c != 0) = true := by simpa using h0
  clear h0
  go_enter Tryd.func69, Tryd.ntmps69
  go_wp2_with (go_at_call 41; refine (check_any _ _).mono ?_; rw [H.out]; rintro e w' ⟨rfl, rfl⟩)
  go_ret
  exact ⟨rfl, rfl⟩

/-- What IndexFunc leaves at the closure: a place or -1, the first error in the captured cell, and nothing else turned below that cell's block. -/
def IdxPost (zs : List Int) (g : Nat) (w : World) (e : Ending) (w' : World) : Prop :=
  ∃ r : Int, e = .returned (.int .i64 r) ∧ (ff zs = 0 ∧ r = -1 ∨ ff zs ≠ 0 ∧ 0 ≤ r) ∧ w'.heap[g]? = some (.cells #[.int .i64 (ff zs)] 24 (0, 0)) ∧ Below g w w'
theorem index_any (g : Nat) (A : Option Addr) (cap : Nat) (zs : List Int) (w : World) (hl : zs.length ≤ 1099511627775) (hI : Ints w g A zs)
    (hg : w.heap[g]? = some (.cells #[.int .i64 0] 24 (0, 0))) :
    Calls Tryd.prog 71 #[.slice A zs.length cap, .func (.func 69) #[] #[.pointer (some ⟨g, 0, none⟩)]] w (IdxPost zs g w) := by
  obtain ⟨len, hlen⟩ : ∃ len, len = zs.length := ⟨_, rfl⟩
  rw [← hlen] at hl ⊢
  have HL := Lib.hid hlen
  clear hlen
  have HG := Lib.hid hg
  clear hg
  have HI := Lib.hid hI
  clear hI
  go_enter Tryd.func71, Tryd.ntmps71
  go_wp2
  go_loopw [8] (fun i wr => ∃ k : Nat, k ≤ len ∧ i = .int .i64 k ∧ Hid (ff (zs.take k) = 0) ∧ Hid (wr.heap[g]? = some (.cells #[.int .i64 0] 24 (0, 0))) ∧ Below g w wr) (fun i _ => len - (intOf i).toNat)
  case atStart => exact ⟨0, Nat.zero_le _, rfl, Lib.hid rfl, HG, Below.refl _ _⟩
  case round =>
    obtain ⟨k, hk, rfl, hff, hgr, hbel⟩ := hrel
    by_cases hlt : k < len
    · obtain ⟨b, off, z, rfl, hbg, hz, hcell⟩ := HI.out.at_ (by rw [← HL.out]; exact hlt)
      have hcell' : wr.cell? ⟨b, off + k, none⟩ = some (.int .i64 z) := (hbel.cell hbg).trans hcell
      have HZ := Lib.hid hz
      clear hz hcell
      have hcg : wr.cell? ⟨g, 0, none⟩ = some (.int .i64 0) := cell_of_one hgr.out
      have hfg : wr.frozen? ⟨g, 0, none⟩ = false := free_of_one hgr.out
      by_cases hc : chk z = 0
      · have HC := Lib.hid hc
        clear hc
        go_wp2_with (go_at_call 69; refine (look_ok g z 0 _ HC.out hcg hfg).mono ?_; rintro e w' ⟨rfl, rfl⟩)
        go_roundw
        case rel => exact ⟨k + 1, by omega, by go_num, Lib.hid (by rw [ff_step HZ.out hff.out, HC.out]), Lib.hid (one_setCell hgr.out), hbel.setCell (Nat.le_refl _) _⟩
        case measure => simp [intOf]; omega
      · have HC := Lib.hid hc
        clear hc
        go_wp2_with (go_at_call 69; refine (look_bad g z 0 _ _ rfl HC.out hcg hfg).mono ?_; rintro e w' ⟨rfl, rfl⟩)
        go_ret
        have e1 := ff_early HZ.out hff.out HC.out
        exact ⟨k, rfl, .inr ⟨by rw [e1]; exact HC.out, by omega⟩, by rw [e1]; exact one_setCell hgr.out, hbel.setCell (Nat.le_refl _) _⟩
    · have hkl : k = len := by omega
      subst hkl
      go_wp2
      go_ret
      have e1 : ff zs = 0 := by
        have := hff.out
        rwa [HL.out, List.take_length] at this
      exact ⟨-1, rfl, .inl ⟨e1, rfl⟩, by rw [e1]; exact hgr.out, hbel⟩

theorem contains_no (g : Nat) (A : Option Addr) (cap : Nat) (zs : List Int) (w : World) (hl : zs.length ≤ 1099511627775) (hI : Ints w g A zs)
    (hg : w.heap[g]? = some (.cells #[.int .i64 0] 24 (0, 0))) (h : ff zs = 0) :
    Calls Tryd.prog 70 #[.slice A zs.length cap, .func (.func 69) #[] #[.pointer (some ⟨g, 0, none⟩)]] w fun e w' => e = .returned (.bool false) ∧ w'.heap[g]? = some (.cells #[.int .i64 0] 24 (0, 0)) ∧ Below g w w' := by
  have C := fun W : World => fun h1 h2 => index_any g A cap zs W hl h1 h2
  have C1 := Lib.hid (C w hI hg)
  have H := Lib.hid h
  clear C hI hg h
  go_enter Tryd.func70, Tryd.ntmps70
  go_wp2_with fail
  refine C1.out.mono ?_
  rintro e w' ⟨r, rfl, hr, hh, hb⟩
  rcases hr with ⟨_, rfl⟩ | ⟨hn, _⟩
  · rw [H.out] at hh
    have HH := Lib.hid hh
    clear hh
    go_wp2
    go_ret
    exact ⟨rfl, HH.out, hb⟩
  · exact absurd H.out hn
theorem contains_yes (g : Nat) (A : Option Addr) (cap : Nat) (zs : List Int) (w : World) (hl : zs.length ≤ 1099511627775) (hI : Ints w g A zs)
    (hg : w.heap[g]? = some (.cells #[.int .i64 0] 24 (0, 0))) (h : ff zs ≠ 0) :
    Calls Tryd.prog 70 #[.slice A zs.length cap, .func (.func 69) #[] #[.pointer (some ⟨g, 0, none⟩)]] w fun e w' => e = .returned (.bool true) ∧ w'.heap[g]? = some (.cells #[.int .i64 (ff zs)] 24 (0, 0)) ∧ Below g w w' := by
  have C := fun W : World => fun h1 h2 => index_any g A cap zs W hl h1 h2
  have C1 := Lib.hid (C w hI hg)
  have H := Lib.hid h
  clear C hI hg h
  go_enter Tryd.func70, Tryd.ntmps70
  go_wp2_with fail
  refine C1.out.mono ?_
  rintro e w' ⟨r, rfl, hr, hh, hb⟩
  rcases hr with ⟨hn, _⟩ | ⟨_, hn⟩
  · exact absurd hn H.out
  · have HH := Lib.hid hh
    clear hh
    go_wp2
    go_ret
    exact ⟨rfl, HH.out, hb⟩

/-- num.firstFault: the first error of the numbers; nothing that was there has turned. -/
theorem first_any (A : Option Addr) (cap : Nat) (zs : List Int) (w : World) (hl : zs.length ≤ 1099511627775) (hI : Ints w w.heap.size A zs) :
    Calls Tryd.prog 67 #[.slice A zs.length cap] w fun e w' => e = .returned (.int .i64 (ff zs)) ∧ Below w.heap.size w w' := by
  have hmf : ∀ (fn : Fn) (first cap : Array Value) (w : World), (Instr.makeFunc fn first cap).run Tryd.prog w = .ok (.func fn first cap) w := fun _ _ _ _ => rfl
  have hg : (w.alloc (.cells #[.int .i64 0] 24)).heap[w.heap.size]? = some (.cells #[.int .i64 0] 24 (0, 0)) := heap_alloc_new w _
  have hI1 := hI.alloc (Nat.le_refl _) (.cells #[.int .i64 0] 24)
  by_cases h : ff zs = 0
  · have C := Lib.hid (contains_no w.heap.size A cap zs _ hl hI1 hg h)
    rw [h]
    clear h hI hg hI1
    go_enter Tryd.func67, Tryd.ntmps67
    go_wp2_with fail
    refine C.out.mono ?_
    rintro e w' ⟨rfl, hh, hb⟩
    clear hh
    go_wp2
    go_ret
    exact ⟨rfl, (below_alloc _).trans (hb.mono (by simp))⟩
  · have C := Lib.hid (contains_yes w.heap.size A cap zs _ hl hI1 hg h)
    clear h hI hg hI1
    go_enter Tryd.func67, Tryd.ntmps67
    go_wp2_with fail
    refine C.out.mono ?_
    rintro e w' ⟨rfl, hh, hb⟩
    have hc := cell_of_one hh
    clear hh
    go_wp2
    go_ret
    exact ⟨rfl, (below_alloc _).trans (hb.mono (by simp))⟩
end Go.Proofs.YtohgdeddepfanaaDoor
