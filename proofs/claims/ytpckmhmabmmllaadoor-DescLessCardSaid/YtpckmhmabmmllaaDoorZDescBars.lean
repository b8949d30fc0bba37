/- The contract of trefoilref05.barriers in the seat YtpckmhmabmmllaaDoor. No statement is proved here. -/
import Derived.Test.YtpckmhmabmmllaaDoorZDescRow
import Derived.Test.YtpckmhmabmmllaaDoorZM1
set_option linter.unusedVariables false
namespace Go.Proofs.YtpckmhmabmmllaaDoor
open Go.RowKit

/-- A barrier that may be (in, out). -/
structure BarOne (np : Nat) (b : List Int × List Int) : Prop where
  ins : RowOk np b.1
  outs : RowOk np b.2
  apart : ∀ x ∈ b.1, x ∉ b.2
def BarsOk (np : Nat) (bs : List (List Int × List Int)) : Prop := ∀ b ∈ bs, BarOne np b
theorem bars_step {np : Nat} {bs : List (List Int × List Int)} {k : Nat} {b : List Int × List Int} (h : BarsOk np (bs.take k)) (hb : bs[k]? = some b) (h1 : BarOne np b) : BarsOk np (bs.take (k + 1)) := by
  intro x hx
  rw [List.take_add_one, hb] at hx
  rcases List.mem_append.mp hx with hx | hx
  · exact h x hx
  · obtain rfl : x = b := by simpa using hx
    exact h1
section
variable {P : Option Addr} {np pc : Nat} {E : Option Addr} {ne ec : Nat} {F : Option Addr} {nf fc : Nat} {R : Option Addr} {nr rc : Nat} {p q : Int}
/-- In the middle of a round: a task lies in its box, a barrier in block g, all barriers as they came. -/
structure BxB (w : World) (p q : Int) (P : Option Addr) (np pc : Nat) (E : Option Addr) (ne ec : Nat) (F : Option Addr) (nf fc : Nat) (R : Option Addr) (nr rc : Nat) (g : Nat) (A1 : Option Addr) (n1 c1 : Nat) (A2 : Option Addr) (n2 c2 : Nat) (xs ys : List Int) (w' : World) : Prop where
  b : BxD w p q P np pc E ne ec F nf fc R nr rc w'
  e0 : w'.cell? ⟨g, 0, none⟩ = some (.slice A1 n1 c1)
  e1 : w'.cell? ⟨g, 1, none⟩ = some (.slice A2 n2 c2)
  xs : Ints w' w.heap.size A1 xs
  ys : Ints w' w.heap.size A2 ys
theorem BxB.next {w w1 w2 : World} {g : Nat} {A1 : Option Addr} {n1 c1 : Nat} {A2 : Option Addr} {n2 c2 : Nat} {xs ys : List Int} (h : BxB w p q P np pc E ne ec F nf fc R nr rc g A1 n1 c1 A2 n2 c2 xs ys w1) (hb : Below w1.heap.size w1 w2) : BxB w p q P np pc E ne ec F nf fc R nr rc g A1 n1 c1 A2 n2 c2 xs ys w2 :=
  ⟨h.b.next hb, (hb.cell (World.block_lt_of_cell? _ _ h.e0)).trans h.e0, (hb.cell (World.block_lt_of_cell? _ _ h.e1)).trans h.e1, h.xs.keep fun a ha => hb.cell (Nat.lt_of_lt_of_le ha h.b.bel.size), h.ys.keep fun a ha => hb.cell (Nat.lt_of_lt_of_le ha h.b.bel.size)⟩
set_option maxRecDepth 100000 in
set_option maxHeartbeats 8000000 in
theorem dbars_any (bs : List (List Int × List Int)) (r : Bool) (hr : r = true ↔ BarsOk np bs) (w : World) (hm : bs.length = nr) (hl : nr ≤ 1000) (hbl : ∀ b ∈ bs, b.1.length ≤ 900 ∧ b.2.length ≤ 900) (hB : Bars w w.heap.size R bs) :
    Calls Tryd.prog 32 #[.agg #[.int .i64 p, .int .i64 q, .slice P np pc, .slice E ne ec, .slice F nf fc, .slice R nr rc]] w fun e w' => e = .returned (.bool r) ∧ Below w.heap.size w w' := by
  have B0 := Lib.hid (BxD.start w p q P np pc E ne ec F nf fc R nr rc)
  have HM := Lib.hid hm
  have HR := Lib.hid hr
  have HBS := Lib.hid hB
  have HBL := Lib.hid hbl
  clear hB hm hr hbl
  go_enter Tryd.func32, Tryd.ntmps32
  go_wp2
  go_loopw [3] (fun v wr => ∃ k : Nat, k ≤ nr ∧ v = .int .i64 k ∧ Hid (BxD w p q P np pc E ne ec F nf fc R nr rc wr) ∧ Hid (BarsOk np (bs.take k))) (fun v _ => nr - (intOf v).toNat)
  case atStart => exact ⟨0, Nat.zero_le _, rfl, B0, Lib.hid (fun b hb => by simp at hb)⟩
  case round =>
    obtain ⟨k, hk, rfl, BR, HN⟩ := hrel
    obtain ⟨c0, c1', c2', c3, c4, c5⟩ := BR.out.cells
    have hlt0 := World.block_lt_of_cell? _ _ c0
    simp only at hlt0
    clear B0
    by_cases hlt : k < nr
    · have hBr := HBS.out.below BR.out.bel
      obtain ⟨bk, off, xs, ys, A1, n1, c1, A2, n2, c2, rfl, hbg, hek, hn1, hn2, d1, d2, hxs, hys, _, _⟩ := hBr.at_ (k := k) (by rw [HM.out]; exact hlt)
      have hb1 := HBL.out _ (List.mem_of_getElem? hek)
      simp only at hb1
      rw [hn1, hn2] at hb1
      have HEK := Lib.hid hek
      have HN1 := Lib.hid hn1
      have HN2 := Lib.hid hn2
      have HBAD := Lib.hid (fun h : ¬ BarOne np (xs, ys) => show r = false by
        rw [← Bool.not_eq_true]
        exact fun z => h (HR.out.mp z _ (List.mem_of_getElem? hek)))
      have X1 : Hid (BxB w p q P np pc E ne ec F nf fc (some ⟨bk, off, none⟩) nr rc wr.heap.size A1 n1 c1 A2 n2 c2 xs ys (wr.alloc (.cells #[.slice A1 n1 c1, .slice A2 n2 c2] 46))) :=
        Lib.hid ⟨BR.out.next (below_alloc _), by rw [World.cell?_alloc_at _ _ _ _ rfl]; rfl, by rw [World.cell?_alloc_at _ _ _ _ rfl]; rfl, hxs.keep fun a ha => World.cell?_alloc_lt _ _ _ (Nat.lt_of_lt_of_le ha BR.out.bel.size), hys.keep fun a ha => World.cell?_alloc_lt _ _ _ (Nat.lt_of_lt_of_le ha BR.out.bel.size)⟩
      have CR := Lib.hid (fun (A : Option Addr) (c : Nat) (l : List Int) (len : Nat) (r : Bool) (hr : r = true ↔ RowOk np l) (W' : World) hm hl hI => drow_any (P := P) (np := np) (pc := pc) (E := E) (ne := ne) (ec := ec) (F := F) (nf := nf) (fc := fc) (R := some ⟨bk, off, none⟩) (nr := nr) (rc := rc) (p := p) (q := q) A c l len r hr W' hm hl hI)
      clear hek hn1 hn2 hxs hys hBr
      by_cases p1 : RowOk np xs
      · have HP1 := Lib.hid p1
        clear p1
        by_cases p2 : RowOk np ys
        · have HP2 := Lib.hid p2
          clear p2
          go_wp2_with fail
          refine (CR.out A1 c1 xs n1 true ⟨fun _ => HP1.out, fun _ => rfl⟩ _ HN1.out (by omega) (X1.out.xs.more (by have := X1.out.b.bel.size; exact this))).mono ?_
          rintro e w2 ⟨rfl, b2⟩
          have X2 := Lib.hid (X1.out.next b2)
          clear b2 c0 c1' c2' c3 c4 c5 d1 d2
          obtain ⟨c0, c1', c2', c3, c4, c5⟩ := X2.out.b.cells
          have e0 := X2.out.e0
          have e1 := X2.out.e1
          go_wp2_with fail
          refine (CR.out A2 c2 ys n2 true ⟨fun _ => HP2.out, fun _ => rfl⟩ _ HN2.out (by omega) (X2.out.ys.more (by have := X2.out.b.bel.size; exact this))).mono ?_
          rintro e w3 ⟨rfl, b3⟩
          have X3 := Lib.hid (X2.out.next b3)
          clear b3 c0 c1' c2' c3 c4 c5 e0 e1 X1 X2
          go_wp2
          go_loopw [5] (fun v wq => ∃ t : Nat, t ≤ n1 ∧ v = .int .i64 t ∧ Hid (BxB w p q P np pc E ne ec F nf fc (some ⟨bk, off, none⟩) nr rc wr.heap.size A1 n1 c1 A2 n2 c2 xs ys wq) ∧ Hid (∀ x ∈ xs.take t, x ∉ ys)) (fun v _ => n1 - (intOf v).toNat)
          case atStart => exact ⟨0, Nat.zero_le _, rfl, X3, Lib.hid (by simp)⟩
          case round =>
            obtain ⟨t, ht, rfl, XQ, HNO⟩ := hrel
            clear X3
            have e0 := XQ.out.e0
            have e1 := XQ.out.e1
            by_cases hlt2 : t < n1
            · obtain ⟨bq, oq, z, rfl, hbq, hz, hcz⟩ := XQ.out.xs.at_ (k := t) (by rw [HN1.out]; exact hlt2)
              have m0 := near_cell e0
              have m1 := near_cell e1
              have m2 := near_cell hcz
              have CH := Lib.hid (fun (x : Near wr.heap.size wr) => has_any A2 c2 ys z x.W n2 HN2.out (by omega) (((XQ.out.ys.more XQ.out.b.bel.size).below x.h).more x.h.size))
              have HZ := Lib.hid hz
              clear hz hcz
              by_cases p3 : z ∈ ys
              · simp only [decide_eq_true p3] at CH
                have HX := Lib.hid (HBAD.out (fun q => q.apart z (List.mem_of_getElem? HZ.out) p3))
                clear p3
                go_wp2
                refine wp_region_near _ (by kernel_rfl) (by kernel_rfl) (Nat.le_refl _) ?_
                repeat (go_big_quiet_step (first
                  | (go_at_call 60; exact near_same (CH.out _))))
                refine wpQuiet_nil ?_
                intro W hW
                have XW := Lib.hid (XQ.out.next hW)
                clear hW
                go_wp2
                go_ret
                exact ⟨by rw [HX.out]; rfl, XW.out.b.bel⟩
              · simp only [decide_eq_false p3] at CH
                have HNX := Lib.hid p3
                clear p3
                go_wp2
                refine wp_region_near _ (by kernel_rfl) (by kernel_rfl) (Nat.le_refl _) ?_
                repeat (go_big_quiet_step (first
                  | (go_at_call 60; exact near_same (CH.out _))))
                refine wpQuiet_nil ?_
                intro W hW
                have XW := Lib.hid (XQ.out.next hW)
                clear hW
                go_wp2
                go_roundw
                case rel => exact ⟨t + 1, by omega, by go_num, XW, Lib.hid (by
                  intro x hx
                  rw [List.take_add_one, HZ.out] at hx
                  rcases List.mem_append.mp hx with hx | hx
                  · exact HNO.out x hx
                  · obtain rfl : x = z := by simpa using hx
                    exact HNX.out)⟩
                case measure => simp [intOf]; omega
            · have e : t = n1 := by omega
              have HOK := Lib.hid (bars_step HN.out HEK.out ⟨HP1.out, HP2.out, by
                have h := HNO.out
                rwa [List.take_of_length_le (by rw [HN1.out, e]; exact Nat.le_refl _)] at h⟩)
              clear e
              go_wp2
              go_roundw
              case rel => exact ⟨k + 1, by omega, by go_num, Lib.hid XQ.out.b, HOK⟩
              case measure => simp [intOf]; omega
        · have HP2 := Lib.hid p2
          have HX := Lib.hid (HBAD.out (fun q => p2 q.outs))
          clear p2
          go_wp2_with fail
          refine (CR.out A1 c1 xs n1 true ⟨fun _ => HP1.out, fun _ => rfl⟩ _ HN1.out (by omega) (X1.out.xs.more (by have := X1.out.b.bel.size; exact this))).mono ?_
          rintro e w2 ⟨rfl, b2⟩
          have X2 := Lib.hid (X1.out.next b2)
          clear b2 c0 c1' c2' c3 c4 c5 d1 d2
          obtain ⟨c0, c1', c2', c3, c4, c5⟩ := X2.out.b.cells
          have e0 := X2.out.e0
          have e1 := X2.out.e1
          go_wp2_with fail
          refine (CR.out A2 c2 ys n2 false ⟨fun q => Bool.noConfusion q, fun q => absurd q HP2.out⟩ _ HN2.out (by omega) (X2.out.ys.more (by have := X2.out.b.bel.size; exact this))).mono ?_
          rintro e w3 ⟨rfl, b3⟩
          have X3 := Lib.hid (X2.out.next b3)
          clear b3 c0 c1' c2' c3 c4 c5 e0 e1 X1 X2
          go_wp2
          go_ret
          exact ⟨by rw [HX.out]; rfl, X3.out.b.bel⟩
      · have HP1 := Lib.hid p1
        have HX := Lib.hid (HBAD.out (fun q => p1 q.ins))
        clear p1
        go_wp2_with fail
        refine (CR.out A1 c1 xs n1 false ⟨fun q => Bool.noConfusion q, fun q => absurd q HP1.out⟩ _ HN1.out (by omega) (X1.out.xs.more (by have := X1.out.b.bel.size; exact this))).mono ?_
        rintro e w2 ⟨rfl, b2⟩
        have X2 := Lib.hid (X1.out.next b2)
        clear b2 c0 c1' c2' c3 c4 c5 d1 d2
        go_wp2
        go_ret
        exact ⟨by rw [HX.out]; rfl, X2.out.b.bel⟩
    · have e : nr = k := by omega
      subst e
      have HYES := Lib.hid (show r = true from HR.out.mpr (by
        have h := HN.out
        rwa [List.take_of_length_le (by rw [HM.out]; exact Nat.le_refl _)] at h))
      go_wp2
      go_ret
      exact ⟨by rw [HYES.out]; rfl, BR.out.bel⟩
end
end Go.Proofs.YtpckmhmabmmllaaDoor
