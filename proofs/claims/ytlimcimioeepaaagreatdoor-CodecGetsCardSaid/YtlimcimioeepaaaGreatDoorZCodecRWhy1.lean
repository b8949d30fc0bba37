/- The reference's Why in the seat YtlimcimioeepaaaGreatDoor, where the bytes open (printed by codec/mk_rwhy2.py). No statement is proved here. -/
import Derived.Test.YtlimcimioeepaaaGreatDoorZG12
set_option linter.unusedVariables false
namespace Go.Proofs.YtlimcimioeepaaaGreatDoor
open Go.RowKit

theorem rep_snoc (k : Nat) (l : List Nat) : (List.replicate (k + 1) l).flatten = (List.replicate k l).flatten ++ l := by
  rw [List.replicate_succ', List.flatten_append]
  simp
theorem rep_len (k : Nat) (l : List Nat) : (List.replicate k l).flatten.length = k * l.length := by
  induction k with
  | zero => simp
  | succ k ih => rw [rep_snoc, List.length_append, ih, Nat.succ_mul]
/-- The state while the numbers are read. -/
structure Wz (w : World) (v1 : Value) (W : List Int) (v2 : Value) (L : List Int) (wr : World) : Prop where
  y : Wy w wr
  two : TwoI wr (w.heap.size + 3) v1 W v2 L
theorem Wz.next {w wr w' : World} {v1 v2 : Value} {W L : List Int} (h : Wz w v1 W v2 L wr) (hb : Below wr.heap.size wr w') : Wz w v1 W v2 L w' := ⟨h.y.next hb, h.two.below hb⟩
def WsOk (ws : List Nat) : Prop := ∀ x ∈ ws, ∃ P, Wid x P
theorem w0_ok (n m f : Nat) : WsOk (W0 n m f) := by
  have h1 : ∃ P, Wid 1 P := ⟨256, .inl ⟨rfl, rfl⟩⟩
  have h2 : ∃ P, Wid 2 P := ⟨65536, .inr (.inl ⟨rfl, rfl⟩)⟩
  have h4 : ∃ P, Wid 4 P := ⟨4294967296, .inr (.inr ⟨rfl, rfl⟩)⟩
  intro x hx
  unfold W0 at hx
  simp only [List.mem_append, List.mem_flatten, List.mem_replicate] at hx
  rcases hx with ⟨l, ⟨_, rfl⟩, hx⟩ | ⟨l, ⟨_, rfl⟩, hx⟩ | ⟨l, ⟨_, rfl⟩, hx⟩
  all_goals
    have hx' : x = 1 ∨ x = 2 ∨ x = 4 := by simp at hx; omega
    rcases hx' with rfl | rfl | rfl <;> assumption
theorem Wz.size {w wr : World} {v1 v2 : Value} {W L : List Int} (h : Wz w v1 W v2 L wr) : w.heap.size + 3 ≤ wr.heap.size := by have := h.y.lt; omega
theorem Wz.put {w wr w' : World} {v1 v2 u1 u2 : Value} {W L W' L' : List Int} (h : Wz w v1 W v2 L wr) (hb : Below (w.heap.size + 3) wr w') (ht : TwoI w' (w.heap.size + 3) u1 W' u2 L') : Wz w u1 W' u2 L' w' := ⟨h.y.keep (Nat.le_refl _) hb, ht⟩
theorem TwoI.one {w : World} {base : Nat} {v : Value} {zs : List Int} (h : OwnI w base v zs) : TwoI w base v zs (.slice none 0 0) [] := ⟨h, OwnI.nil _ _, fun k _ h2 => by cases h2⟩
set_option maxRecDepth 100000 in
set_option maxHeartbeats 16000000 in
theorem rwhy_rest (s : ByteArray) (w : World) (hs : s.size ≤ 1000) (h : 21 ≤ s.size) (hy : sound s) (hm : magicB (txB s)) (hv : verB (txB s)) (CB : BuildOk (txB s)) : Calls Tryz.prog 16 #[.string s] w (GotWhy s w) := by
  have g1 : decide ((s.size : Int) < 21) = false := by rw [decide_eq_false_iff_not]; omega
  have g2 : decide (s.size < 21) = false := by rw [decide_eq_false_iff_not]; omega
  have C := Lib.hid (fun W => ropen_yes s W hs hy)
  have e4 : ∀ W : World, (Instr.slice 9 (.string s) none (some (.int .i64 4)) none).run Tryz.prog W = .ok (.string (s.extract 0 4)) W := fun W => run_slice_string_lo s W 4 (by omega) (by omega)
  rw [(dag1_iff h).mpr hm] at e4
  obtain ⟨c, hc, hcv⟩ := ver_at (b := txB s) (by rw [txB_length]; omega)
  have i0 : ∀ W, (Instr.index 9 (.string s) (.int .i64 4)).run Tryz.prog W = .ok (.int .u8 (c.toNat : Int)) W := fun W => by
    rw [run_index_string (P := Tryz.prog) W 9 s .i64 4 Tryz.underlying9, dif_pos ⟨by omega, by omega⟩]
    have e : s[(4 : Int).toNat]'(by show 4 < _; omega) = c := by
      unfold txB at hc
      rw [text_list', List.getElem?_take_of_lt (by omega), Array.getElem?_toList] at hc
      exact (Array.getElem?_eq_some_iff.mp hc).2
    rw [e]
  have HV0 := Lib.hid hv
  unfold verB at hv
  rw [hcv] at hv
  rw [hv] at i0
  have hz : s.size = (txB s).length + 4 := by rw [txB_length]; omega
  have GS := fun p e => flaw_stop (p := p) h hy hm HV0.out hz e
  have GR := fun p e => flaw_read (s := s) (p := p) h e
  have GA := fun p hf hw => flaw_after (p := p) h hy hm HV0.out hz hf hw
  have e9 : ∀ W : World, (Instr.slice 9 (.string s) none (some (.int .i64 ((txB s).length : Int))) none).run Tryz.prog W = .ok (.string (txt (txB s))) W := fun W => by
    have h := run_slice_string_lo s W ((txB s).length : Int) (by omega) (by omega)
    rw [Int.toNat_natCast, show (txB s).length = s.size - 4 by omega] at h
    rw [txB_txt, show (txB s).length = s.size - 4 by omega]
    exact h
  obtain ⟨b, hb⟩ : ∃ b, b = txB s := ⟨_, rfl⟩
  rw [← hb] at e9 hz CB GS GR GA
  have hbl : 17 ≤ b.length := by omega
  have hbs : (txt b).size = b.length := txt_size b
  obtain ⟨q, hq⟩ : ∃ q, q = b.length := ⟨_, rfl⟩
  have HQB := Lib.hid hq
  rw [← hq] at hz hbl hbs e9 GS GA
  have i5 : ∀ W : World, (Instr.index 9 (.string (txt b)) (.int .i64 5)).run Tryz.prog W = .ok (.int .u8 (cnt b 5 : Int)) W := fun W => idx_txt (b := b) (p := 5) (by omega) W
  have i6 : ∀ W : World, (Instr.index 9 (.string (txt b)) (.int .i64 6)).run Tryz.prog W = .ok (.int .u8 (cnt b 6 : Int)) W := fun W => idx_txt (b := b) (p := 6) (by omega) W
  have i7 : ∀ W : World, (Instr.index 9 (.string (txt b)) (.int .i64 7)).run Tryz.prog W = .ok (.int .u8 (cnt b 7 : Int)) W := fun W => idx_txt (b := b) (p := 7) (by omega) W
  have i8 : ∀ W : World, (Instr.index 9 (.string (txt b)) (.int .i64 8)).run Tryz.prog W = .ok (.int .u8 (cnt b 8 : Int)) W := fun W => idx_txt (b := b) (p := 8) (by omega) W
  have l5 := cnt_lt b 5
  have l6 := cnt_lt b 6
  have l7 := cnt_lt b 7
  have l8 := cnt_lt b 8
  obtain ⟨n5, h5⟩ : ∃ n, n = cnt b 5 := ⟨_, rfl⟩
  obtain ⟨n6, h6⟩ : ∃ n, n = cnt b 6 := ⟨_, rfl⟩
  obtain ⟨n7, h7⟩ : ∃ n, n = cnt b 7 := ⟨_, rfl⟩
  obtain ⟨n8, h8⟩ : ∃ n, n = cnt b 8 := ⟨_, rfl⟩
  rw [← h5] at i5 l5
  rw [← h6] at i6 l6
  rw [← h7] at i7 l7
  rw [← h8] at i8 l8
  have HN := Lib.hid (And.intro h5 (And.intro h6 (And.intro h7 h8)))
  have HCB := Lib.hid CB
  have HGS := Lib.hid GS
  have HGR := Lib.hid GR
  have HGA := Lib.hid GA
  have HB := Lib.hid hb
  have HYM := Lib.hid (And.intro hy hm)
  clear hy hm hc hcv hv CB hb hq h5 h6 h7 h8 GS GR GA HV0 HYM
  have hs2 : q ≤ 996 := by omega
  obtain ⟨z, hzz⟩ : ∃ z, z = s.size := ⟨_, rfl⟩
  go_enter Tryz.func16, Tryz.ntmps16
  obtain ⟨w0, hw0⟩ : ∃ w0, w0 = (((w.alloc (.cells #[.int .i64 0, .int .i64 0, .slice none 0 0, .slice none 0 0, .slice none 0 0, .slice none 0 0] 27)).alloc (.cells #[.int .i64 0, .int .i64 0] 37)).alloc (.cells #[.int .i64 0, .int .i64 0, .slice none 0 0, .slice none 0 0, .slice none 0 0, .slice none 0 0] 27)) := ⟨_, rfl⟩
  have H0 : Hid (Wy w w0) := Lib.hid (by rw [hw0]; exact Wy.start w)
  go_wp2_with fail
  rw [← hw0, show w.heap.size + 1 + 1 = w.heap.size + 2 from rfl]
  clear hw0
  refine (C.out _).mono ?_
  rintro e w1 ⟨rfl, b1⟩
  have H1 := Lib.hid (H0.out.next b1)
  clear b1 H0 C
  have H2 : Hid (Wz w (.slice (some ⟨w1.heap.size, 0, none⟩) 0 0) (wI []) (.slice none 0 0) [] (w1.alloc (.cells #[] 3))) := Lib.hid ⟨H1.out.next (below_alloc _), TwoI.one (OwnI.new w1 (w.heap.size + 3) (by have := H1.out.lt; omega))⟩
  go_wp2
  go_loopw [10, 11] (fun v i wr => ∃ (k u c : Nat) (A : Option Addr), k ≤ n5 ∧ i = .int .i64 k ∧ v = .slice A u c ∧ u ≤ 0 + 3 * k ∧ Hid (u = (wI (([] : List Nat) ++ (List.replicate k [1, 4, 2]).flatten)).length) ∧ Hid (Wz w (.slice A u c) (wI (([] : List Nat) ++ (List.replicate k [1, 4, 2]).flatten)) (.slice none 0 0) [] wr)) (fun _ i _ => n5 - (intOf i).toNat)
  case atStart => exact ⟨0, 0, 0, _, Nat.zero_le _, rfl, rfl, Nat.zero_le _, Lib.hid rfl, H2⟩
  case round =>
    obtain ⟨k, u, c, A, hk, rfl, rfl, hu, HU, HW⟩ := hrel
    by_cases hlt : k < n5
    · have HL := Lib.hid HW.out.size
      go_wp2_with (at_builtin; refine wpList_pushN rfl _ _ rfl wr (w.heap.size + 3) _ _ _ _ [1, 4, 2] 3 rfl (by omega) (by omega) _ rfl u HU.out.symm (by omega) HW.out.two HL.out rfl rfl ?_; intro A' c' w3 hT3 hb3; have HT3 := Lib.hid hT3; have HB3 := Lib.hid hb3; clear hT3 hb3)
      go_roundw
      case rel => exact ⟨k + 1, u + 3, c', A', by omega, by go_num, rfl, by omega, Lib.hid (by rw [rep_snoc, ← List.append_assoc, wI_add, List.length_append, ← HU.out]; rfl), Lib.hid (by rw [rep_snoc, ← List.append_assoc, wI_add]; exact HW.out.put HB3.out HT3.out)⟩
      case measure => simp [intOf]; omega
    · obtain rfl : n5 = k := by omega
      clear H2
      go_wp2
      go_loopw [10, 12] (fun v i wr => ∃ (k u c : Nat) (A : Option Addr), k ≤ n6 ∧ i = .int .i64 k ∧ v = .slice A u c ∧ u ≤ 3 * n5 + 2 * k ∧ Hid (u = (wI ((([] : List Nat) ++ (List.replicate n5 [1, 4, 2]).flatten) ++ (List.replicate k [1, 1]).flatten)).length) ∧ Hid (Wz w (.slice A u c) (wI ((([] : List Nat) ++ (List.replicate n5 [1, 4, 2]).flatten) ++ (List.replicate k [1, 1]).flatten)) (.slice none 0 0) [] wr)) (fun _ i _ => n6 - (intOf i).toNat)
      case atStart => exact ⟨0, u, c, A, Nat.zero_le _, rfl, rfl, by omega, Lib.hid (by rw [show (List.replicate 0 [1, 1]).flatten = [] from rfl, List.append_nil]; exact HU.out), Lib.hid (by rw [show (List.replicate 0 [1, 1]).flatten = [] from rfl, List.append_nil]; exact HW.out)⟩
      case round =>
        obtain ⟨k, u, c, A, hk, rfl, rfl, hu, HU, HW⟩ := hrel
        by_cases hlt : k < n6
        · have HL := Lib.hid HW.out.size
          go_wp2_with (at_builtin; refine wpList_pushN rfl _ _ rfl wr (w.heap.size + 3) _ _ _ _ [1, 1] 2 rfl (by omega) (by omega) _ rfl u HU.out.symm (by omega) HW.out.two HL.out rfl rfl ?_; intro A' c' w3 hT3 hb3; have HT3 := Lib.hid hT3; have HB3 := Lib.hid hb3; clear hT3 hb3)
          go_roundw
          case rel => exact ⟨k + 1, u + 2, c', A', by omega, by go_num, rfl, by omega, Lib.hid (by rw [rep_snoc, ← List.append_assoc, wI_add, List.length_append, ← HU.out]; rfl), Lib.hid (by rw [rep_snoc, ← List.append_assoc, wI_add]; exact HW.out.put HB3.out HT3.out)⟩
          case measure => simp [intOf]; omega
        · obtain rfl : n6 = k := by omega
          go_wp2
          go_loopw [10, 13] (fun v i wr => ∃ (k u c : Nat) (A : Option Addr), k ≤ n7 ∧ i = .int .i64 k ∧ v = .slice A u c ∧ u ≤ 3 * n5 + 2 * n6 + 3 * k ∧ Hid (u = (wI (((([] : List Nat) ++ (List.replicate n5 [1, 4, 2]).flatten) ++ (List.replicate n6 [1, 1]).flatten) ++ (List.replicate k [1, 1, 2]).flatten)).length) ∧ Hid (Wz w (.slice A u c) (wI (((([] : List Nat) ++ (List.replicate n5 [1, 4, 2]).flatten) ++ (List.replicate n6 [1, 1]).flatten) ++ (List.replicate k [1, 1, 2]).flatten)) (.slice none 0 0) [] wr)) (fun _ i _ => n7 - (intOf i).toNat)
          case atStart => exact ⟨0, u, c, A, Nat.zero_le _, rfl, rfl, by omega, Lib.hid (by rw [show (List.replicate 0 [1, 1, 2]).flatten = [] from rfl, List.append_nil]; exact HU.out), Lib.hid (by rw [show (List.replicate 0 [1, 1, 2]).flatten = [] from rfl, List.append_nil]; exact HW.out)⟩
          case round =>
            obtain ⟨k, u, c, A, hk, rfl, rfl, hu, HU, HW⟩ := hrel
            by_cases hlt : k < n7
            · have HL := Lib.hid HW.out.size
              go_wp2_with (at_builtin; refine wpList_pushN rfl _ _ rfl wr (w.heap.size + 3) _ _ _ _ [1, 1, 2] 3 rfl (by omega) (by omega) _ rfl u HU.out.symm (by omega) HW.out.two HL.out rfl rfl ?_; intro A' c' w3 hT3 hb3; have HT3 := Lib.hid hT3; have HB3 := Lib.hid hb3; clear hT3 hb3)
              go_roundw
              case rel => exact ⟨k + 1, u + 3, c', A', by omega, by go_num, rfl, by omega, Lib.hid (by rw [rep_snoc, ← List.append_assoc, wI_add, List.length_append, ← HU.out]; rfl), Lib.hid (by rw [rep_snoc, ← List.append_assoc, wI_add]; exact HW.out.put HB3.out HT3.out)⟩
              case measure => simp [intOf]; omega
            · obtain rfl : n7 = k := by omega
              have H3 : Hid (Wz w (.slice A u c) (wI (((([] : List Nat) ++ (List.replicate n5 [1, 4, 2]).flatten) ++ (List.replicate n6 [1, 1]).flatten) ++ (List.replicate n7 [1, 1, 2]).flatten)) (.slice (some ⟨wr.heap.size, 0, none⟩) 0 0) [] (wr.alloc (.cells #[] 3))) := Lib.hid ⟨HW.out.y.next (below_alloc _), TwoI.new HW.out.two.a HW.out.size⟩
              have e3 : (((([] : List Nat) ++ (List.replicate n5 [1, 4, 2]).flatten) ++ (List.replicate n6 [1, 1]).flatten) ++ (List.replicate n7 [1, 1, 2]).flatten) = W0 n5 n6 n7 := by unfold W0; rw [List.nil_append, List.append_assoc]
              rw [e3] at H3 HU
              obtain ⟨f5, f6, f7, f8⟩ := HN.out
              have HS0 : Hid (restS b (W0 n5 n6 n7) n8 17 = (taskS b (5, false)).2) := Lib.hid (by rw [f5, f6, f7, f8]; exact rest_start (by rw [← HQB.out]; omega))
              have HV0 : Hid (restV b (W0 n5 n6 n7) n8 17 = restV b (W0 (cnt b 5) (cnt b 6) (cnt b 7)) (cnt b 8) 17) := Lib.hid (by rw [f5, f6, f7, f8])
              obtain ⟨F, hF⟩ : ∃ F, F = (taskS b (5, false)).2 := ⟨_, rfl⟩
              obtain ⟨V, hV⟩ : ∃ V, V = restV b (W0 (cnt b 5) (cnt b 6) (cnt b 7)) (cnt b 8) 17 := ⟨_, rfl⟩
              rw [← hF] at HS0
              rw [← hV] at HV0
              have HF := Lib.hid (And.intro hF hV)
              have HW0 := Lib.hid (w0_ok n5 n6 n7)
              obtain ⟨ws0, hws0⟩ : ∃ ws, ws = W0 n5 n6 n7 := ⟨_, rfl⟩
              rw [← hws0] at H3 HU HS0 HV0 HW0
              have hu0 : u = ws0.length := by rw [HU.out, wI_len]
              clear hF hV hws0 e3 f5 f6 f7 f8 HW HU
              go_wp2
              clear i5 i6 i7 i8 e4 e9 i0 g1 g2 hzz hz HN H1
              go_loopw [10, 14, 15, 16, 17] (fun v l pv lv i wx => ∃ (k u c p lf d : Nat) (A B : Option Addr) (D : List Int) (ws : List Nat) (L : List Int), v = .slice A u c ∧ l = .slice B k d ∧ pv = .int .i64 p ∧ lv = .int .i64 lf ∧ i = .int .i64 k ∧ k + ws.length = u ∧ p ≤ q ∧ lf ≤ 255 ∧ u + 512 * lf ≤ 200000 ∧ Hid (D.length = k) ∧ Hid (L.length = k) ∧ Hid (WsOk ws) ∧ Hid (restS b ws lf p = F) ∧ Hid (L ++ restV b ws lf p = V) ∧ Hid (Wz w (.slice A u c) (D ++ wI ws) (.slice B k d) L wx)) (fun _ _ _ _ i _ => 200001 - (intOf i).toNat)
              case atStart => exact ⟨0, u, c, 17, n8, 0, A, _, [], ws0, [], rfl, rfl, rfl, rfl, rfl, by omega, hbl, by omega, by omega, Lib.hid rfl, Lib.hid rfl, HW0, HS0, HV0, H3⟩
              case round =>
                obtain ⟨k, u, c, p, lf, d, A, B, D, ws, L, rfl, rfl, rfl, rfl, rfl, hku, hpq, hlf, hul, HD, HL, HO, HS, HV, HW⟩ := hrel
                clear H3
                cases ws with
                | cons x ws =>
                  simp only [List.length_cons] at hku
                  have hx := HO.out x (List.mem_cons_self ..)
                  have hx4 : x ≤ 4 := by obtain ⟨P, hP⟩ := hx; exact hP.le.2.1
                  have HX := Lib.hid hx
                  clear hx
                  have hlt : k < u := by omega
                  obtain ⟨g, off, rfl⟩ := own_addr HW.out.two.a (by rw [List.length_append, wI_len, List.length_cons]; omega)
                  have d1 := own_cell HW.out.two.a HD.out
                  by_cases hp : p + x ≤ q
                  · have CG := Lib.hid (get_x HQB.out hs2 HX.out hp)
                    have HR := Lib.hid (rest_step (b := b) (k := x) (p := p) (by rw [← HQB.out]; exact hp) ws lf)
                    obtain ⟨n, hn⟩ : ∃ n, n = rd x (b.drop p) := ⟨_, rfl⟩
                    rw [← hn] at CG HR
                    have HSZ := Lib.hid HW.out.size
                    clear hn
                    go_wp2_with (first
                      | (go_at_call 30; refine (CG.out _).mono ?_; rintro e w2 ⟨rfl, rfl⟩)
                      | (at_builtin; refine wpList_pushN rfl _ _ rfl _ (w.heap.size + 3) _ _ _ _ [n] 1 rfl (by omega) (by omega) _ rfl k HL.out (by omega) HW.out.two.swap HSZ.out rfl rfl ?_; intro B' d' w3 hT3 hb3; have d2 := own_cell hT3.b HD.out; have HT3 := Lib.hid hT3; have HB3 := Lib.hid hb3; clear hT3 hb3 d1))
                    go_roundw
                    case rel => exact ⟨k + 1, u, c, p + x, lf, d', _, B', D ++ [(x : Int)], ws, L ++ [n], rfl, rfl, by go_num, rfl, by go_num, by omega, by omega, hlf, hul, Lib.hid (by rw [List.length_append, HD.out]; rfl), Lib.hid (by rw [List.length_append, HL.out]; rfl), Lib.hid (fun y hy => HO.out y (List.mem_cons_of_mem _ hy)), Lib.hid (by rw [← HR.out.2]; exact HS.out), Lib.hid (by rw [List.append_assoc, List.singleton_append, ← HR.out.1]; exact HV.out), Lib.hid (by have := HW.out.put HB3.out HT3.out.swap; rwa [wI_cons] at this)⟩
                    case measure => simp [intOf]; omega
                  · have CG := Lib.hid (get_x_not HQB.out hs2 hpq HX.out hp)
                    have G := Lib.hid (fun w' (kb : Below w.heap.size w w') => GotWhy.of (HGS.out p (by rw [← HF.out.1, ← HS.out]; exact rest_cut (by rw [← HQB.out]; exact hp) _ _)) kb)
                    have r0 := cell_of_row wr w.heap.size 0 _ _ _ HW.out.y.r
                    have r1 := cell_of_row wr w.heap.size 1 _ _ _ HW.out.y.r
                    have r2 := cell_of_row wr w.heap.size 2 _ _ _ HW.out.y.r
                    have r3 := cell_of_row wr w.heap.size 3 _ _ _ HW.out.y.r
                    have r4 := cell_of_row wr w.heap.size 4 _ _ _ HW.out.y.r
                    have r5 := cell_of_row wr w.heap.size 5 _ _ _ HW.out.y.r
                    simp at r0 r1 r2 r3 r4 r5
                    have fr0 := frozen_of_row wr w.heap.size 0 _ _ HW.out.y.r
                    have fr1 := frozen_of_row wr w.heap.size 1 _ _ HW.out.y.r
                    have fr2 := frozen_of_row wr w.heap.size 2 _ _ HW.out.y.r
                    have fr3 := frozen_of_row wr w.heap.size 3 _ _ HW.out.y.r
                    have fr4 := frozen_of_row wr w.heap.size 4 _ _ HW.out.y.r
                    have fr5 := frozen_of_row wr w.heap.size 5 _ _ HW.out.y.r
                    have s0 := cell_of_row wr (w.heap.size + 1) 0 _ _ _ HW.out.y.sp
                    have s1 := cell_of_row wr (w.heap.size + 1) 1 _ _ _ HW.out.y.sp
                    simp at s0 s1
                    have fs0 := frozen_of_row wr (w.heap.size + 1) 0 _ _ HW.out.y.sp
                    have fs1 := frozen_of_row wr (w.heap.size + 1) 1 _ _ HW.out.y.sp
                    have n0 := cell_of_row wr (w.heap.size + 2) 0 _ _ _ HW.out.y.no
                    have n1 := cell_of_row wr (w.heap.size + 2) 1 _ _ _ HW.out.y.no
                    have n2 := cell_of_row wr (w.heap.size + 2) 2 _ _ _ HW.out.y.no
                    have n3 := cell_of_row wr (w.heap.size + 2) 3 _ _ _ HW.out.y.no
                    have n4 := cell_of_row wr (w.heap.size + 2) 4 _ _ _ HW.out.y.no
                    have n5 := cell_of_row wr (w.heap.size + 2) 5 _ _ _ HW.out.y.no
                    simp at n0 n1 n2 n3 n4 n5
                    go_wp2_with (go_at_call 30; refine (CG.out _).mono ?_; rintro e w2 ⟨rfl, rfl⟩)
                    obtain ⟨wz, hwz, e1, e2, e3, e4, e5⟩ := Wy.told HW.out.y (.int .i64 0) (.int .i64 0) (.slice none 0 0) (.slice none 0 0) (.slice none 0 0) (.slice none 0 0) (.int .i64 (p : Int)) (.int .i64 (q : Int))
                    rw [← hwz]
                    have k0 := cell_of_row wz w.heap.size 0 _ _ _ e1
                    have k1 := cell_of_row wz w.heap.size 1 _ _ _ e1
                    have k2 := cell_of_row wz w.heap.size 2 _ _ _ e1
                    have k3 := cell_of_row wz w.heap.size 3 _ _ _ e1
                    have k4 := cell_of_row wz w.heap.size 4 _ _ _ e1
                    have k5 := cell_of_row wz w.heap.size 5 _ _ _ e1
                    simp at k0 k1 k2 k3 k4 k5
                    have m0 := cell_of_row wz (w.heap.size + 1) 0 _ _ _ e2
                    have m1 := cell_of_row wz (w.heap.size + 1) 1 _ _ _ e2
                    simp at m0 m1
                    clear hwz
                    refine bodyPost_ret (v := .tuple #[.agg #[.int .i64 0, .int .i64 0, .slice none 0 0, .slice none 0 0, .slice none 0 0, .slice none 0 0], .agg #[.int .i64 (p : Int), .int .i64 (q : Int)], .int .i64 64]) ?_ rfl (G.out _ e3)
                    rw [results_cc_tmp rfl]
                    go_simp
                | nil =>
                  cases lf with
                  | zero =>
                    obtain rfl : k = u := by simpa using hku
                    have hF : F = (p, false) := by rw [← HS.out]; exact (rest_end b p).2
                    obtain ⟨h1, h2⟩ := HGR.out p (by rw [← HF.out.1, hF])
                    have h3 := HGA.out p h1 h2
                    by_cases hp : p < q
                    · have G := Lib.hid (fun w' (kb : Below w.heap.size w w') => GotWhy.of (h3.1 hp) kb)
                      have r0 := cell_of_row wr w.heap.size 0 _ _ _ HW.out.y.r
                      have r1 := cell_of_row wr w.heap.size 1 _ _ _ HW.out.y.r
                      have r2 := cell_of_row wr w.heap.size 2 _ _ _ HW.out.y.r
                      have r3 := cell_of_row wr w.heap.size 3 _ _ _ HW.out.y.r
                      have r4 := cell_of_row wr w.heap.size 4 _ _ _ HW.out.y.r
                      have r5 := cell_of_row wr w.heap.size 5 _ _ _ HW.out.y.r
                      simp at r0 r1 r2 r3 r4 r5
                      have fr0 := frozen_of_row wr w.heap.size 0 _ _ HW.out.y.r
                      have fr1 := frozen_of_row wr w.heap.size 1 _ _ HW.out.y.r
                      have fr2 := frozen_of_row wr w.heap.size 2 _ _ HW.out.y.r
                      have fr3 := frozen_of_row wr w.heap.size 3 _ _ HW.out.y.r
                      have fr4 := frozen_of_row wr w.heap.size 4 _ _ HW.out.y.r
                      have fr5 := frozen_of_row wr w.heap.size 5 _ _ HW.out.y.r
                      have s0 := cell_of_row wr (w.heap.size + 1) 0 _ _ _ HW.out.y.sp
                      have s1 := cell_of_row wr (w.heap.size + 1) 1 _ _ _ HW.out.y.sp
                      simp at s0 s1
                      have fs0 := frozen_of_row wr (w.heap.size + 1) 0 _ _ HW.out.y.sp
                      have fs1 := frozen_of_row wr (w.heap.size + 1) 1 _ _ HW.out.y.sp
                      have n0 := cell_of_row wr (w.heap.size + 2) 0 _ _ _ HW.out.y.no
                      have n1 := cell_of_row wr (w.heap.size + 2) 1 _ _ _ HW.out.y.no
                      have n2 := cell_of_row wr (w.heap.size + 2) 2 _ _ _ HW.out.y.no
                      have n3 := cell_of_row wr (w.heap.size + 2) 3 _ _ _ HW.out.y.no
                      have n4 := cell_of_row wr (w.heap.size + 2) 4 _ _ _ HW.out.y.no
                      have n5 := cell_of_row wr (w.heap.size + 2) 5 _ _ _ HW.out.y.no
                      simp at n0 n1 n2 n3 n4 n5
                      clear h1 h2 h3 hF
                      go_wp2
                      obtain ⟨wz, hwz, e1, e2, e3, e4, e5⟩ := Wy.told HW.out.y (.int .i64 0) (.int .i64 0) (.slice none 0 0) (.slice none 0 0) (.slice none 0 0) (.slice none 0 0) (.int .i64 (p : Int)) (.int .i64 (q : Int))
                      rw [← hwz]
                      have k0 := cell_of_row wz w.heap.size 0 _ _ _ e1
                      have k1 := cell_of_row wz w.heap.size 1 _ _ _ e1
                      have k2 := cell_of_row wz w.heap.size 2 _ _ _ e1
                      have k3 := cell_of_row wz w.heap.size 3 _ _ _ e1
                      have k4 := cell_of_row wz w.heap.size 4 _ _ _ e1
                      have k5 := cell_of_row wz w.heap.size 5 _ _ _ e1
                      simp at k0 k1 k2 k3 k4 k5
                      have m0 := cell_of_row wz (w.heap.size + 1) 0 _ _ _ e2
                      have m1 := cell_of_row wz (w.heap.size + 1) 1 _ _ _ e2
                      simp at m0 m1
                      clear hwz
                      refine bodyPost_ret (v := .tuple #[.agg #[.int .i64 0, .int .i64 0, .slice none 0 0, .slice none 0 0, .slice none 0 0, .slice none 0 0], .agg #[.int .i64 (p : Int), .int .i64 (q : Int)], .int .i64 65]) ?_ rfl (G.out _ e3)
                      rw [results_cc_tmp rfl]
                      go_simp
                    · obtain rfl : p = q := by omega
                      have hLV : L = numsT (taskR b) := by
                        have e := HV.out
                        rw [(rest_end b p).1, List.append_nil] at e
                        rw [e, HF.out.2]
                        exact rest_all (by rw [← HQB.out]; exact hbl) h1
                      have hO := HW.out.two.b
                      have hcap : k ≤ d := own_cap (by have h := HW.out.two.b; unfold OwnI at h; rw [HL.out] at h; exact h)
                      obtain ⟨A', c', e', hI'⟩ := hO.slice
                      obtain rfl : B = A' := by injection e'
                      rw [hLV] at hI'
                      have CB := HCB.out wr B k d (w.heap.size + 3) (by rw [← hLV]; exact HL.out) hcap hI' (own_from hO) HW.out.size
                      have FT := Lib.hid (few_R b)
                      have HBT := Lib.hid (show taskR b = taskR (txB s) by rw [HB.out])
                      obtain ⟨T, hT⟩ : ∃ T, T = taskR b := ⟨_, rfl⟩
                      rw [← hT] at CB h3 FT HBT
                      have H3 := Lib.hid (h3.2 rfl)
                      have HCBB := Lib.hid CB
                      clear h1 h2 h3 hF hLV hO e' hI' hT CB
                      go_wp2_with fail
                      refine HCBB.out.mono ?_
                      rintro e w5 ⟨sh, rfl, hI, hFr, l1, l2, b5⟩
                      have HY5 := Lib.hid (HW.out.y.next b5)
                      obtain ⟨w6, hw6⟩ : ∃ w6, w6 = w5.alloc (.cells #[.int .i64 T.period, .int .i64 T.deadline, .slice sh.P sh.np sh.pc, .slice sh.E sh.ne sh.ec, .slice sh.F sh.nf sh.fc, .slice sh.R sh.nr sh.rc] 27) := ⟨_, rfl⟩
                      have hb6 : Below w5.heap.size w5 w6 := by rw [hw6]; exact below_alloc _
                      have hr6 : w6.heap[w5.heap.size]? = some (.cells #[.int .i64 T.period, .int .i64 T.deadline, .slice sh.P sh.np sh.pc, .slice sh.E sh.ne sh.ec, .slice sh.F sh.nf sh.fc, .slice sh.R sh.nr sh.rc] 27 (0, 0)) := by rw [hw6]; exact heap_alloc_new w5 _
                      have HY6 := Lib.hid (HY5.out.next hb6)
                      have HI6 := Lib.hid ((hI.below hb6).more hb6.size)
                      have HF6 := Lib.hid (hFr.below hI hb6)
                      have HR6 := Lib.hid hr6
                      have HL12 := Lib.hid (And.intro l1 l2)
                      clear hI hFr l1 l2 b5 hb6 hr6
                      go_wp2_with fail
                      rw [← hw6]
                      clear hw6
                      refine (dcheck_any sh T w6 FT.out HI6.out).mono ?_
                      rintro e w7 ⟨rfl, b7⟩
                      have HY7 := Lib.hid (HY6.out.next b7)
                      have HI7 := Lib.hid ((HI6.out.below b7).more b7.size)
                      have HF7 := Lib.hid (HF6.out.below HI6.out b7)
                      have hr7 := (b7.block _ (Array.getElem?_eq_some_iff.mp HR6.out).1).trans HR6.out
                      have x0 := cell_of_row w7 w5.heap.size 0 _ _ _ hr7
                      have x1 := cell_of_row w7 w5.heap.size 1 _ _ _ hr7
                      have x2 := cell_of_row w7 w5.heap.size 2 _ _ _ hr7
                      have x3 := cell_of_row w7 w5.heap.size 3 _ _ _ hr7
                      have x4 := cell_of_row w7 w5.heap.size 4 _ _ _ hr7
                      have x5 := cell_of_row w7 w5.heap.size 5 _ _ _ hr7
                      simp at x0 x1 x2 x3 x4 x5
                      obtain ⟨r, hr⟩ : ∃ r, r = chkT T := ⟨_, rfl⟩
                      rw [← hr] at H3
                      rw [← hr]
                      clear hr b7 hr7
                      have r0 := cell_of_row w7 w.heap.size 0 _ _ _ HY7.out.r
                      have r1 := cell_of_row w7 w.heap.size 1 _ _ _ HY7.out.r
                      have r2 := cell_of_row w7 w.heap.size 2 _ _ _ HY7.out.r
                      have r3 := cell_of_row w7 w.heap.size 3 _ _ _ HY7.out.r
                      have r4 := cell_of_row w7 w.heap.size 4 _ _ _ HY7.out.r
                      have r5 := cell_of_row w7 w.heap.size 5 _ _ _ HY7.out.r
                      simp at r0 r1 r2 r3 r4 r5
                      have fr0 := frozen_of_row w7 w.heap.size 0 _ _ HY7.out.r
                      have fr1 := frozen_of_row w7 w.heap.size 1 _ _ HY7.out.r
                      have fr2 := frozen_of_row w7 w.heap.size 2 _ _ HY7.out.r
                      have fr3 := frozen_of_row w7 w.heap.size 3 _ _ HY7.out.r
                      have fr4 := frozen_of_row w7 w.heap.size 4 _ _ HY7.out.r
                      have fr5 := frozen_of_row w7 w.heap.size 5 _ _ HY7.out.r
                      have s0 := cell_of_row w7 (w.heap.size + 1) 0 _ _ _ HY7.out.sp
                      have s1 := cell_of_row w7 (w.heap.size + 1) 1 _ _ _ HY7.out.sp
                      simp at s0 s1
                      have fs0 := frozen_of_row w7 (w.heap.size + 1) 0 _ _ HY7.out.sp
                      have fs1 := frozen_of_row w7 (w.heap.size + 1) 1 _ _ HY7.out.sp
                      have n0 := cell_of_row w7 (w.heap.size + 2) 0 _ _ _ HY7.out.no
                      have n1 := cell_of_row w7 (w.heap.size + 2) 1 _ _ _ HY7.out.no
                      have n2 := cell_of_row w7 (w.heap.size + 2) 2 _ _ _ HY7.out.no
                      have n3 := cell_of_row w7 (w.heap.size + 2) 3 _ _ _ HY7.out.no
                      have n4 := cell_of_row w7 (w.heap.size + 2) 4 _ _ _ HY7.out.no
                      have n5 := cell_of_row w7 (w.heap.size + 2) 5 _ _ _ HY7.out.no
                      simp at n0 n1 n2 n3 n4 n5
                      by_cases hr : r = 0
                      · have HNO := Lib.hid (H3.out.2 hr)
                        subst hr
                        go_wp2
                        obtain ⟨wz, hwz, e1, e2, e3, e4, e5⟩ := Wy.told HY7.out (.int .i64 T.period) (.int .i64 T.deadline) (.slice sh.P sh.np sh.pc) (.slice sh.E sh.ne sh.ec) (.slice sh.F sh.nf sh.fc) (.slice sh.R sh.nr sh.rc) (.int .i64 0) (.int .i64 0)
                        rw [← hwz]
                        have k0 := cell_of_row wz w.heap.size 0 _ _ _ e1
                        have k1 := cell_of_row wz w.heap.size 1 _ _ _ e1
                        have k2 := cell_of_row wz w.heap.size 2 _ _ _ e1
                        have k3 := cell_of_row wz w.heap.size 3 _ _ _ e1
                        have k4 := cell_of_row wz w.heap.size 4 _ _ _ e1
                        have k5 := cell_of_row wz w.heap.size 5 _ _ _ e1
                        simp at k0 k1 k2 k3 k4 k5
                        have m0 := cell_of_row wz (w.heap.size + 1) 0 _ _ _ e2
                        have m1 := cell_of_row wz (w.heap.size + 1) 1 _ _ _ e2
                        simp at m0 m1
                        clear hwz
                        refine bodyPost_ret (v := .tuple #[.agg #[.int .i64 T.period, .int .i64 T.deadline, .slice sh.P sh.np sh.pc, .slice sh.E sh.ne sh.ec, .slice sh.F sh.nf sh.fc, .slice sh.R sh.nr sh.rc], .agg #[.int .i64 0, .int .i64 0], .int .i64 0]) ?_ rfl ⟨sh, ?_, ?_, HL12.out.1, HL12.out.2, e3⟩
                        · rw [results_cc_tmp rfl]
                          go_simp
                        · have hd : decT s = T := by unfold decT; rw [HNO.out, HBT.out]; rfl
                          rw [hd, HNO.out]
                          rfl
                        · have hd : decT s = T := by unfold decT; rw [HNO.out, HBT.out]; rfl
                          rw [hd, e5]
                          exact HI7.out.from_ HF7.out (fun a ha => World.cell?_of_block (e4 a.block (by omega)))
                      · have hr2 : (r != 0) = true := bne_iff_ne.mpr hr
                        have G := Lib.hid (fun w' (kb : Below w.heap.size w w') => GotWhy.of (H3.out.1 hr) kb)
                        go_wp2
                        obtain ⟨wz, hwz, e1, e2, e3, e4, e5⟩ := Wy.told HY7.out (.int .i64 0) (.int .i64 0) (.slice none 0 0) (.slice none 0 0) (.slice none 0 0) (.slice none 0 0) (.int .i64 5) (.int .i64 (p : Int))
                        rw [← hwz]
                        have k0 := cell_of_row wz w.heap.size 0 _ _ _ e1
                        have k1 := cell_of_row wz w.heap.size 1 _ _ _ e1
                        have k2 := cell_of_row wz w.heap.size 2 _ _ _ e1
                        have k3 := cell_of_row wz w.heap.size 3 _ _ _ e1
                        have k4 := cell_of_row wz w.heap.size 4 _ _ _ e1
                        have k5 := cell_of_row wz w.heap.size 5 _ _ _ e1
                        simp at k0 k1 k2 k3 k4 k5
                        have m0 := cell_of_row wz (w.heap.size + 1) 0 _ _ _ e2
                        have m1 := cell_of_row wz (w.heap.size + 1) 1 _ _ _ e2
                        simp at m0 m1
                        clear hwz
                        refine bodyPost_ret (v := .tuple #[.agg #[.int .i64 0, .int .i64 0, .slice none 0 0, .slice none 0 0, .slice none 0 0, .slice none 0 0], .agg #[.int .i64 5, .int .i64 (p : Int)], .int .i64 r]) ?_ rfl (G.out _ e3)
                        rw [results_cc_tmp rfl]
                        go_simp
                  | succ lf =>
                    obtain rfl : k = u := by simpa using hku
                    have HSB := Lib.hid (rest_bar b lf p)
                    by_cases h2 : p + 2 ≤ q
                    · have ib0 : ∀ W : World, (Instr.index 9 (.string (txt b)) (.int .i64 (p : Int))).run Tryz.prog W = .ok (.int .u8 (cnt b p : Int)) W := fun W => idx_txt (b := b) (p := p) (by rw [← HQB.out]; omega) W
                      have ib1 : ∀ W : World, (Instr.index 9 (.string (txt b)) (.int .i64 ((p : Int) + 1))).run Tryz.prog W = .ok (.int .u8 (cnt b (p + 1) : Int)) W := fun W => by
                        rw [show (p : Int) + 1 = ((p + 1 : Nat) : Int) by omega]
                        exact idx_txt (b := b) (p := p + 1) (by rw [← HQB.out]; omega) W
                      have lm0 := cnt_lt b p
                      have lm1 := cnt_lt b (p + 1)
                      have HWS := Lib.hid (barWs_two (b := b) (p := p) (by rw [← HQB.out]; exact h2))
                      obtain ⟨m0, hm0⟩ : ∃ m, m = cnt b p := ⟨_, rfl⟩
                      obtain ⟨m1, hm1⟩ : ∃ m, m = cnt b (p + 1) := ⟨_, rfl⟩
                      rw [← hm0] at ib0 lm0 HWS
                      rw [← hm1] at ib1 lm1 HWS
                      have CG := Lib.hid (get_x (x := 1) HQB.out hs2 ⟨256, .inl ⟨rfl, rfl⟩⟩ (show p + 1 ≤ q by omega))
                      have HR := Lib.hid (rest_step (b := b) (k := 1) (p := p) (by rw [← HQB.out]; omega) (1 :: List.replicate (m0 + m1) 1) lf)
                      obtain ⟨n, hn⟩ : ∃ n, n = rd 1 (b.drop p) := ⟨_, rfl⟩
                      rw [← hn] at CG HR
                      have HSZ := Lib.hid HW.out.size
                      have HU2 : Hid ((D ++ wI []).length = k) := Lib.hid (by rw [List.length_append, wI_len, HD.out]; rfl)
                      clear hn hm0 hm1
                      go_wp2_with (at_builtin; refine wpList_pushN rfl _ _ rfl _ (w.heap.size + 3) _ _ _ _ [1, 1] 2 rfl (by omega) (by omega) _ rfl k HU2.out (by omega) HW.out.two HSZ.out rfl rfl ?_; intro A' c' w3 hT3 hb3; have HT3 := Lib.hid hT3; have HW3 := Lib.hid (HW.out.put hb3 hT3); clear hT3 hb3)
                      go_loopw [10, 19] (fun v i wx => ∃ (j c : Nat) (A : Option Addr), j ≤ m0 + m1 ∧ i = .int .i64 j ∧ v = .slice A (k + 2 + j) c ∧ Hid (Wz w (.slice A (k + 2 + j) c) (D ++ wI (1 :: 1 :: List.replicate j 1)) (.slice B k d) L wx)) (fun _ i _ => m0 + m1 - (intOf i).toNat)
                      case atStart => exact ⟨0, c', A', Nat.zero_le _, rfl, rfl, Lib.hid (by have h := HW3.out; rwa [List.append_assoc] at h)⟩
                      case round =>
                        obtain ⟨j, c1, A1, hj, rfl, rfl, HWJ⟩ := hrel
                        clear HW3
                        by_cases hj2 : j < m0 + m1
                        · go_wp2_with fail
                          go_quiet (fail)
                          have HWD := Lib.hid (HWJ.out.next (below_drewN (Below.refl _ _) nq))
                          have HSD := Lib.hid HWD.out.size
                          have HLJ : Hid ((D ++ wI (1 :: 1 :: List.replicate j 1)).length = k + 2 + j) := Lib.hid (by rw [List.length_append, wI_len, HD.out, List.length_cons, List.length_cons, List.length_replicate]; omega)
                          go_wp2_with (at_builtin; refine wpList_pushN rfl _ _ rfl _ (w.heap.size + 3) _ _ _ _ [1] 1 rfl (by omega) (by omega) _ rfl (k + 2 + j) HLJ.out (by omega) HWD.out.two HSD.out rfl rfl ?_; intro A' c' w3 hT3 hb3; have HT3 := Lib.hid hT3; have HW4 := Lib.hid (HWD.out.put hb3 hT3); clear hT3 hb3)
                          go_roundw
                          case rel => exact ⟨j + 1, c', A', by omega, by go_num, rfl, Lib.hid (by have h := HW4.out; rw [List.replicate_succ', ← List.cons_append, ← List.cons_append, wI_add, ← List.append_assoc]; exact h)⟩
                          case measure => simp [intOf]; omega
                        · obtain rfl : j = m0 + m1 := by omega
                          go_wp2_with fail
                          go_quiet (fail)
                          have HWD := Lib.hid (HWJ.out.next (below_drewN (Below.refl _ _) nq))
                          have HSD := Lib.hid HWD.out.size
                          obtain ⟨g, off, rfl⟩ := own_addr HWD.out.two.a (by rw [List.length_append, wI_len, List.length_cons]; omega)
                          have d1 : (wr.drewN nq).cell? ⟨g, off + k, none⟩ = some (.int .i64 1) := own_cell HWD.out.two.a HD.out
                          go_wp2_with (first
                            | (go_at_call 30; refine (CG.out _).mono ?_; rintro e w2 ⟨rfl, rfl⟩)
                            | (at_builtin; refine wpList_pushN rfl _ _ rfl _ (w.heap.size + 3) _ _ _ _ [n] 1 rfl (by omega) (by omega) _ rfl k HL.out (by omega) HWD.out.two.swap HSD.out rfl rfl ?_; intro B' d' w3 hT3 hb3; have d2 : w3.cell? ⟨g, off + k, none⟩ = some (.int .i64 1) := own_cell hT3.b HD.out; have HT3 := Lib.hid hT3; have HB3 := Lib.hid hb3; clear hT3 hb3 d1))
                          go_roundw
                          case rel => exact ⟨k + 1, k + 2 + (m0 + m1), c1, p + 1, lf, d', _, B', D ++ [1], 1 :: List.replicate (m0 + m1) 1, L ++ [n], rfl, rfl, by go_num, by go_num, by go_num, by rw [List.length_cons, List.length_replicate]; omega, by omega, by omega, by omega, Lib.hid (by rw [List.length_append, HD.out]; rfl), Lib.hid (by rw [List.length_append, HL.out]; rfl), Lib.hid (fun y hy => ⟨256, .inl ⟨by rcases List.mem_cons.mp hy with e | e; exact e; exact List.eq_of_mem_replicate e, rfl⟩⟩), Lib.hid (by rw [← HR.out.2, ← HWS.out, ← HSB.out.2]; exact HS.out), Lib.hid (by rw [List.append_assoc, List.singleton_append, ← HR.out.1, ← HWS.out, ← HSB.out.1]; exact HV.out), Lib.hid (by have h := HWD.out.put HB3.out HT3.out.swap; rwa [wI_cons] at h)⟩
                          case measure => simp [intOf]; omega
                    · have hF : F = (if p < b.length then p + 1 else p, true) := by rw [← HS.out]; exact rest_bar_cut (by rw [← HQB.out]; exact hpq) (by rw [← HQB.out]; omega) lf
                      by_cases h3 : p < q
                      · rw [if_pos (by rw [← HQB.out]; exact h3)] at hF
                        have hfl : flaw s = some ((p : Int) + 1, (q : Int), (64 : Int)) := HGS.out (p + 1) (by rw [← HF.out.1, hF])
                        have G := Lib.hid (fun w' (kb : Below w.heap.size w w') => GotWhy.of hfl kb)
                        have r0 := cell_of_row wr w.heap.size 0 _ _ _ HW.out.y.r
                        have r1 := cell_of_row wr w.heap.size 1 _ _ _ HW.out.y.r
                        have r2 := cell_of_row wr w.heap.size 2 _ _ _ HW.out.y.r
                        have r3 := cell_of_row wr w.heap.size 3 _ _ _ HW.out.y.r
                        have r4 := cell_of_row wr w.heap.size 4 _ _ _ HW.out.y.r
                        have r5 := cell_of_row wr w.heap.size 5 _ _ _ HW.out.y.r
                        simp at r0 r1 r2 r3 r4 r5
                        have fr0 := frozen_of_row wr w.heap.size 0 _ _ HW.out.y.r
                        have fr1 := frozen_of_row wr w.heap.size 1 _ _ HW.out.y.r
                        have fr2 := frozen_of_row wr w.heap.size 2 _ _ HW.out.y.r
                        have fr3 := frozen_of_row wr w.heap.size 3 _ _ HW.out.y.r
                        have fr4 := frozen_of_row wr w.heap.size 4 _ _ HW.out.y.r
                        have fr5 := frozen_of_row wr w.heap.size 5 _ _ HW.out.y.r
                        have s0 := cell_of_row wr (w.heap.size + 1) 0 _ _ _ HW.out.y.sp
                        have s1 := cell_of_row wr (w.heap.size + 1) 1 _ _ _ HW.out.y.sp
                        simp at s0 s1
                        have fs0 := frozen_of_row wr (w.heap.size + 1) 0 _ _ HW.out.y.sp
                        have fs1 := frozen_of_row wr (w.heap.size + 1) 1 _ _ HW.out.y.sp
                        have n0 := cell_of_row wr (w.heap.size + 2) 0 _ _ _ HW.out.y.no
                        have n1 := cell_of_row wr (w.heap.size + 2) 1 _ _ _ HW.out.y.no
                        have n2 := cell_of_row wr (w.heap.size + 2) 2 _ _ _ HW.out.y.no
                        have n3 := cell_of_row wr (w.heap.size + 2) 3 _ _ _ HW.out.y.no
                        have n4 := cell_of_row wr (w.heap.size + 2) 4 _ _ _ HW.out.y.no
                        have n5 := cell_of_row wr (w.heap.size + 2) 5 _ _ _ HW.out.y.no
                        simp at n0 n1 n2 n3 n4 n5
                        clear hF hfl HSB
                        go_wp2
                        obtain ⟨wz, hwz, e1, e2, e3, e4, e5⟩ := Wy.told HW.out.y (.int .i64 0) (.int .i64 0) (.slice none 0 0) (.slice none 0 0) (.slice none 0 0) (.slice none 0 0) (.int .i64 ((p : Int) + 1)) (.int .i64 (q : Int))
                        rw [← hwz]
                        have k0 := cell_of_row wz w.heap.size 0 _ _ _ e1
                        have k1 := cell_of_row wz w.heap.size 1 _ _ _ e1
                        have k2 := cell_of_row wz w.heap.size 2 _ _ _ e1
                        have k3 := cell_of_row wz w.heap.size 3 _ _ _ e1
                        have k4 := cell_of_row wz w.heap.size 4 _ _ _ e1
                        have k5 := cell_of_row wz w.heap.size 5 _ _ _ e1
                        simp at k0 k1 k2 k3 k4 k5
                        have m0 := cell_of_row wz (w.heap.size + 1) 0 _ _ _ e2
                        have m1 := cell_of_row wz (w.heap.size + 1) 1 _ _ _ e2
                        simp at m0 m1
                        clear hwz
                        refine bodyPost_ret (v := .tuple #[.agg #[.int .i64 0, .int .i64 0, .slice none 0 0, .slice none 0 0, .slice none 0 0, .slice none 0 0], .agg #[.int .i64 ((p : Int) + 1), .int .i64 (q : Int)], .int .i64 64]) ?_ rfl (G.out _ e3)
                        rw [results_cc_tmp rfl]
                        go_simp
                      · rw [if_neg (by rw [← HQB.out]; exact h3)] at hF
                        have hfl : flaw s = some ((p : Int), (q : Int), (64 : Int)) := HGS.out p (by rw [← HF.out.1, hF])
                        have G := Lib.hid (fun w' (kb : Below w.heap.size w w') => GotWhy.of hfl kb)
                        have r0 := cell_of_row wr w.heap.size 0 _ _ _ HW.out.y.r
                        have r1 := cell_of_row wr w.heap.size 1 _ _ _ HW.out.y.r
                        have r2 := cell_of_row wr w.heap.size 2 _ _ _ HW.out.y.r
                        have r3 := cell_of_row wr w.heap.size 3 _ _ _ HW.out.y.r
                        have r4 := cell_of_row wr w.heap.size 4 _ _ _ HW.out.y.r
                        have r5 := cell_of_row wr w.heap.size 5 _ _ _ HW.out.y.r
                        simp at r0 r1 r2 r3 r4 r5
                        have fr0 := frozen_of_row wr w.heap.size 0 _ _ HW.out.y.r
                        have fr1 := frozen_of_row wr w.heap.size 1 _ _ HW.out.y.r
                        have fr2 := frozen_of_row wr w.heap.size 2 _ _ HW.out.y.r
                        have fr3 := frozen_of_row wr w.heap.size 3 _ _ HW.out.y.r
                        have fr4 := frozen_of_row wr w.heap.size 4 _ _ HW.out.y.r
                        have fr5 := frozen_of_row wr w.heap.size 5 _ _ HW.out.y.r
                        have s0 := cell_of_row wr (w.heap.size + 1) 0 _ _ _ HW.out.y.sp
                        have s1 := cell_of_row wr (w.heap.size + 1) 1 _ _ _ HW.out.y.sp
                        simp at s0 s1
                        have fs0 := frozen_of_row wr (w.heap.size + 1) 0 _ _ HW.out.y.sp
                        have fs1 := frozen_of_row wr (w.heap.size + 1) 1 _ _ HW.out.y.sp
                        have n0 := cell_of_row wr (w.heap.size + 2) 0 _ _ _ HW.out.y.no
                        have n1 := cell_of_row wr (w.heap.size + 2) 1 _ _ _ HW.out.y.no
                        have n2 := cell_of_row wr (w.heap.size + 2) 2 _ _ _ HW.out.y.no
                        have n3 := cell_of_row wr (w.heap.size + 2) 3 _ _ _ HW.out.y.no
                        have n4 := cell_of_row wr (w.heap.size + 2) 4 _ _ _ HW.out.y.no
                        have n5 := cell_of_row wr (w.heap.size + 2) 5 _ _ _ HW.out.y.no
                        simp at n0 n1 n2 n3 n4 n5
                        clear hF hfl HSB
                        go_wp2
                        obtain ⟨wz, hwz, e1, e2, e3, e4, e5⟩ := Wy.told HW.out.y (.int .i64 0) (.int .i64 0) (.slice none 0 0) (.slice none 0 0) (.slice none 0 0) (.slice none 0 0) (.int .i64 (p : Int)) (.int .i64 (q : Int))
                        rw [← hwz]
                        have k0 := cell_of_row wz w.heap.size 0 _ _ _ e1
                        have k1 := cell_of_row wz w.heap.size 1 _ _ _ e1
                        have k2 := cell_of_row wz w.heap.size 2 _ _ _ e1
                        have k3 := cell_of_row wz w.heap.size 3 _ _ _ e1
                        have k4 := cell_of_row wz w.heap.size 4 _ _ _ e1
                        have k5 := cell_of_row wz w.heap.size 5 _ _ _ e1
                        simp at k0 k1 k2 k3 k4 k5
                        have m0 := cell_of_row wz (w.heap.size + 1) 0 _ _ _ e2
                        have m1 := cell_of_row wz (w.heap.size + 1) 1 _ _ _ e2
                        simp at m0 m1
                        clear hwz
                        refine bodyPost_ret (v := .tuple #[.agg #[.int .i64 0, .int .i64 0, .slice none 0 0, .slice none 0 0, .slice none 0 0, .slice none 0 0], .agg #[.int .i64 (p : Int), .int .i64 (q : Int)], .int .i64 64]) ?_ rfl (G.out _ e3)
                        rw [results_cc_tmp rfl]
                        go_simp
end Go.Proofs.YtlimcimioeepaaaGreatDoor
