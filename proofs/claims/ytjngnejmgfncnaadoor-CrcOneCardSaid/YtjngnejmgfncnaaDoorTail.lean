/- A sum as four bytes in the seat YtjngnejmgfncnaaDoor: the contracts of crc.spell, trefoilref03.Tail and crc.Seal. No statement is proved here. -/
import Derived.Test.YtjngnejmgfncnaaDoorRefSum
import Derived.Laws.Strings2
import Derived.WalkSmall
set_option linter.unusedVariables false
namespace Go.Proofs.YtjngnejmgfncnaaDoor
open Go.RowKit

/-- A sum's bytes, the lowest one first. -/
def tl (n : Nat) : List UInt8 := [UInt8.ofNat (n % 256), UInt8.ofNat (n / 256 % 256), UInt8.ofNat (n / 65536 % 256), UInt8.ofNat (n / 16777216)]
def tz (n : Nat) : List Int := [(n : Int) % 256, (n : Int) / 256 % 256, (n : Int) / 65536 % 256, (n : Int) / 16777216]
theorem tl_length (n : Nat) : (tl n).length = 4 := rfl

theorem below_alloc {w : World} (o : Obj) : Below w.heap.size w (w.alloc o) := (Below.refl _ _).alloc (Nat.le_refl _) o
theorem spell_any (n : Nat) (w : World) (hn : n < 4294967296) :
    Calls Tryd.prog 17 #[.int .u32 n] w fun e w' => e = .returned (.agg #[.int .u8 ((n : Int) % 256), .int .u8 ((n : Int) / 256 % 256), .int .u8 ((n : Int) / 65536 % 256), .int .u8 ((n : Int) / 16777216)]) ∧ Below w.heap.size w w' := by
  go_enter Tryd.func17, Tryd.ntmps17
  go_wp2
  refine wp_loop_rounds 5 ?_
  iterate 5 (rw [rounds_succ]; go_wp2)
  exact bodyPost_ret (by simp [results, Tryd.results17, go_sem]) rfl ⟨rfl, ((Below.refl _ _).alloc (Nat.le_refl _) _).alloc (by simp) _⟩
theorem str_tz (n : Nat) : strOfNums (tz n) = ⟨(tl n).toArray⟩ := by
  unfold strOfNums tz tl
  simp only [List.map_cons, List.map_nil]
  rw [show ((n : Int) % 256).toNat = n % 256 by omega, show ((n : Int) / 256 % 256).toNat = n / 256 % 256 by omega, show ((n : Int) / 65536 % 256).toNat = n / 65536 % 256 by omega, show ((n : Int) / 16777216).toNat = n / 16777216 by omega]
theorem conv_tail (w : World) (n : Nat) (t : TypeId) :
    (convert 32 9 (.slice (some ⟨w.heap.size, 0, none⟩) 4 4)).run Tryd.prog (w.alloc (.cells #[.int .u8 ((n : Int) % 256), .int .u8 ((n : Int) / 256 % 256), .int .u8 ((n : Int) / 65536 % 256), .int .u8 ((n : Int) / 16777216)] t)) = .ok (.string ⟨(tl n).toArray⟩) (w.alloc (.cells #[.int .u8 ((n : Int) % 256), .int .u8 ((n : Int) / 256 % 256), .int .u8 ((n : Int) / 65536 % 256), .int .u8 ((n : Int) / 16777216)] t)) := by
  rw [← str_tz n]
  exact run_convert_bytes_arg _ 32 5 Tryd.underlying32 Tryd.underlying5 w.heap.size 0 4 4 (tz n) rfl (fun i hi => by
    rw [World.cell?_alloc_at _ _ _ _ rfl, Nat.zero_add]
    match i, hi with
    | 0, _ | 1, _ | 2, _ | 3, _ => rfl) 9 Tryd.underlying9
theorem conv_tailN (w : World) (n : Nat) (t : TypeId) (N : Nat) :
    (convert 32 9 (.slice (some ⟨w.heap.size, 0, none⟩) 4 4)).run Tryd.prog ((w.alloc (.cells #[.int .u8 ((n : Int) % 256), .int .u8 ((n : Int) / 256 % 256), .int .u8 ((n : Int) / 65536 % 256), .int .u8 ((n : Int) / 16777216)] t)).drewN N) = .ok (.string ⟨(tl n).toArray⟩) ((w.alloc (.cells #[.int .u8 ((n : Int) % 256), .int .u8 ((n : Int) / 256 % 256), .int .u8 ((n : Int) / 65536 % 256), .int .u8 ((n : Int) / 16777216)] t)).drewN N) := by
  rw [← str_tz n]
  exact run_convert_bytes_arg _ 32 5 Tryd.underlying32 Tryd.underlying5 w.heap.size 0 4 4 (tz n) rfl (fun i hi => by
    show (w.alloc _).cell? _ = _
    rw [World.cell?_alloc_at _ _ _ _ rfl, Nat.zero_add]
    match i, hi with
    | 0, _ | 1, _ | 2, _ | 3, _ => rfl) 9 Tryd.underlying9
theorem rtail_any (n : Nat) (w : World) (hn : n < 4294967296) :
    Calls Tryd.prog 13 #[.int .u32 n] w fun e w' => e = .returned (.string ⟨(tl n).toArray⟩) ∧ Below w.heap.size w w' := by
  have hc := conv_tail w n 5
  go_enter Tryd.func13, Tryd.ntmps13
  go_wp2
  go_ret
  exact ⟨rfl, below_alloc _⟩

/-- What is sealed. -/
def sealL (l : List UInt8) : List UInt8 := l ++ tl (crc l)
def sealS (s : ByteArray) : ByteArray := s ++ ⟨(tl (crc s.data.toList)).toArray⟩
theorem sealS_list (s : ByteArray) : (sealS s).data.toList = sealL s.data.toList := by
  unfold sealS sealL
  rw [ByteArray.data_append, Array.toList_append]
theorem sealS_size (s : ByteArray) : (sealS s).size = s.size + 4 := by
  unfold sealS
  rw [ByteArray.size_append]
  rfl
theorem seal_any (s : ByteArray) (w : World) (hs : s.size ≤ 1000) (hT : Tab w) :
    Calls Tryd.prog 12 #[.string s] w fun e w' => e = .returned (.string (sealS s)) ∧ Below w.heap.size w w' := by
  have C := Lib.hid (fun W => sum_any s W (by omega))
  have hz : ∀ n, (⟨(tl n).toArray⟩ : ByteArray).size = 4 := fun _ => rfl
  have D := Lib.hid (fun W => spell_any (crc s.data.toList) W (crc_lt _))
  have HE : Hid (sealS s = s ++ ⟨(tl (crc s.data.toList)).toArray⟩) := Lib.hid rfl
  obtain ⟨n, hn⟩ : ∃ n, n = crc s.data.toList := ⟨_, rfl⟩
  rw [← hn] at C D HE
  clear hn
  go_enter Tryd.func12, Tryd.ntmps12
  go_wp2_with fail
  refine (C.out _ hT).mono ?_
  rintro e w1 ⟨rfl, rfl⟩
  go_wp2_with fail
  refine (D.out _).mono ?_
  rintro e w1 ⟨rfl, b1⟩
  have HB := Lib.hid b1
  have hc := conv_tail w1 n 37
  have hz := hz n
  clear b1
  go_wp2
  go_ret
  exact ⟨by rw [HE.out]; rfl, HB.out.trans ((below_alloc _).mono HB.out.size)⟩
end Go.Proofs.YtjngnejmgfncnaaDoor
