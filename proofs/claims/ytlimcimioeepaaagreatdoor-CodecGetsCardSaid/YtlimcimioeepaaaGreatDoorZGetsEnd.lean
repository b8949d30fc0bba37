/- The contract of trefoilref06.Why, whole, and the walk of CodecGets in the seat YtlimcimioeepaaaGreatDoor. No statement is proved here. -/
import Derived.Test.YtlimcimioeepaaaGreatDoorZGetsWalk
import Derived.Test.YtlimcimioeepaaaGreatDoorZCodecRWhy1
import Derived.Test.YtlimcimioeepaaaGreatDoorZCodecBuild
namespace Go.Proofs.YtlimcimioeepaaaGreatDoor
open Go.RowKit

theorem rwhy_any (s : ByteArray) (w : World) (hs : s.size ≤ 1000) : Calls Tryz.prog 16 #[.string s] w (GotWhy s w) := by
  by_cases h : s.size < 21
  · exact rwhy_short s w h
  · have h' : 21 ≤ s.size := by omega
    by_cases hy : sound s
    · by_cases hm : magicB (txB s)
      · by_cases hv : verB (txB s)
        · exact rwhy_rest s w hs h' hy hm hv (build_ok (txB s) (by rw [txB_length]; omega) (by rw [txB_length]; omega))
        · exact rwhy_ver s w hs h' hy hm hv
      · exact rwhy_magic s w hs h' hy hm
    · exact rwhy_unsound s w hs h' hy
theorem walk_CodecGets (w : World) (s : ByteArray) (hs : s.size ≤ 9223372036854775807) (hT : CTab w) :
    Calls Tryz.prog 4 #[.string s] w fun e w' => e = .returned (.bool true) ∧ Below w.heap.size w w' := by
  by_cases h : s.size ≤ 700
  · exact gets_short w s h hT (fun W => rwhy_any s W (by omega))
  · exact gets_long w s hs (by omega) hT
end Go.Proofs.YtlimcimioeepaaaGreatDoor
