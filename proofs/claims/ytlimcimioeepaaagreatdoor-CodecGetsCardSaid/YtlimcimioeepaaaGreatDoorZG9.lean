/- errors.As at the targets *api.Errno and *codec.fault, of nil and of a fault, in the seat YtlimcimioeepaaaGreatDoor: their contracts (Go's own text is walked).
   The contracts of strings.HasPrefix at four bytes and of codec.open, in the seat YtlimcimioeepaaaGreatDoor.
   errors.As and errors.Is of a fault, and codec.told, in the seat YtlimcimioeepaaaGreatDoor: their contracts (Go's own text is walked).
   errors.As at a fault's own target, errors.Is of a fault, codec.told and codec.end, in the seat YtlimcimioeepaaaGreatDoor: their contracts (printed by codec/mk_ask.py).
   No statement is proved here. -/
import Derived.Test.YtlimcimioeepaaaGreatDoorChecked
import Derived.WalkKit
import Derived.LaidEql
import Derived.Stop.Asserts
import Derived.RowKitTokens
import Derived.Below
import Derived.Lib.Hide
import Derived.Test.YtlimcimioeepaaaGreatDoorZG6
import Derived.Test.YtlimcimioeepaaaGreatDoorZG7
import Derived.Test.YtlimcimioeepaaaGreatDoorZG8
import Derived.Laws.CopyRow
set_option linter.unusedVariables false
namespace Go.Proofs.YtlimcimioeepaaaGreatDoor
open Go.RowKit Go.Extern.Stop Go.Stop Go.Extern

/-- A fault: from where, and which number. -/
@[reducible] def faultV (from_ n : Int) : Value := .iface 73 (.agg #[.int .i64 from_, .iface 30 (.int .i64 n)])
/-- What a package variable of errors holds. -/
def ErrT (w : World) : Prop := w.cell? ⟨0, 0, none⟩ = some (.iface 157 (.agg #[.pointer (some ⟨5, 63, none⟩)]))
theorem ErrT.lt {w : World} (h : ErrT w) : 0 < w.heap.size := by
  rcases Nat.lt_or_ge 0 w.heap.size with k | k
  · exact k
  · simp [ErrT, World.cell?, Array.getElem?_eq_none k] at h
theorem ErrT.via {w w' : World} (h : ErrT w) (hb : Below w.heap.size w w') : ErrT w' := by
  have k := h.lt
  unfold ErrT at h ⊢
  rw [hb.cell k]
  exact h

theorem as_nil (t : Value) (w : World) :
    Calls Tryz.prog 32 #[.nilIface, t] w fun e w' => e = .returned (.bool false) ∧ w = w' := by
  go_enter Tryz.func32, Tryz.ntmps32
  go_wp2
  go_ret
  exact ⟨rfl, rfl⟩

/-! ### closed facts on the model's entries -/
theorem valueOfE (t : Addr) (w : World) : (ReflectliteValue.unpack (.iface 108 (.pointer (some t)))).run Tryz.prog w
    = .ok (.agg #[.pointer (some ⟨5, 108, none⟩), .pointer (some ⟨w.heap.size, 0, none⟩), .int .u64 150]) (w.alloc (.cells #[.pointer (some t)] 108)) := by kernel_rfl
theorem valueOfF (t : Addr) (w : World) : (ReflectliteValue.unpack (.iface 75 (.pointer (some t)))).run Tryz.prog w
    = .ok (.agg #[.pointer (some ⟨5, 75, none⟩), .pointer (some ⟨w.heap.size, 0, none⟩), .int .u64 150]) (w.alloc (.cells #[.pointer (some t)] 75)) := by kernel_rfl
theorem typeE (a : Addr) (w : World) : (ReflectliteValue.methodAny (ReflectliteValue.valueError "reflectlite.Value.Type" 0) (fun t _ _ _ => ReflectliteType.toType t) #[.agg #[.pointer (some ⟨5, 108, none⟩), .pointer (some a), .int .u64 150]]).run Tryz.prog w
    = .ok (.iface 157 (.agg #[.pointer (some ⟨5, 108, none⟩)])) w := by kernel_rfl
theorem typeF (a : Addr) (w : World) : (ReflectliteValue.methodAny (ReflectliteValue.valueError "reflectlite.Value.Type" 0) (fun t _ _ _ => ReflectliteType.toType t) #[.agg #[.pointer (some ⟨5, 75, none⟩), .pointer (some a), .int .u64 150]]).run Tryz.prog w
    = .ok (.iface 157 (.agg #[.pointer (some ⟨5, 75, none⟩)])) w := by kernel_rfl
theorem methodKind (h : Value) (w : World) : (Go.method 321 157 (.agg #[h]) "Kind").run Tryz.prog w = .ok (149, h) w := by kernel_rfl
theorem methodElem (h : Value) (w : World) : (Go.method 321 157 (.agg #[h]) "Elem").run Tryz.prog w = .ok (162, .agg #[h]) w := by kernel_rfl
theorem methodImplements (h : Value) (w : World) : (Go.method 321 157 (.agg #[h]) "Implements").run Tryz.prog w = .ok (163, .agg #[h]) w := by kernel_rfl
theorem methodAssignableTo (h : Value) (w : World) : (Go.method 321 157 (.agg #[h]) "AssignableTo").run Tryz.prog w = .ok (160, .agg #[h]) w := by kernel_rfl
theorem methodUnwrap (v : Value) (w : World) : (Go.method 321 73 v "Unwrap").run Tryz.prog w = .ok (154, v) w := by kernel_rfl
theorem kindPE (w : World) : ((ReflectliteType.abiMethod fun t => (fun a : Nat => Value.int IntKind.u8 (a : Int)) <$> Rtype.kind t) #[.pointer (some ⟨5, 108, none⟩)]).run Tryz.prog w = .ok (.int .u8 22) w := by kernel_rfl
theorem kindPF (w : World) : ((ReflectliteType.abiMethod fun t => (fun a : Nat => Value.int IntKind.u8 (a : Int)) <$> Rtype.kind t) #[.pointer (some ⟨5, 75, none⟩)]).run Tryz.prog w = .ok (.int .u8 22) w := by kernel_rfl
theorem kindE (w : World) : ((ReflectliteType.abiMethod fun t => (fun a : Nat => Value.int IntKind.u8 (a : Int)) <$> Rtype.kind t) #[.pointer (some ⟨5, 30, none⟩)]).run Tryz.prog w = .ok (.int .u8 2) w := by kernel_rfl
theorem kindF (w : World) : ((ReflectliteType.abiMethod fun t => (fun a : Nat => Value.int IntKind.u8 (a : Int)) <$> Rtype.kind t) #[.pointer (some ⟨5, 73, none⟩)]).run Tryz.prog w = .ok (.int .u8 25) w := by kernel_rfl
theorem elemE (w : World) : (ReflectliteType.method ReflectliteType.elem #[.agg #[.pointer (some ⟨5, 108, none⟩)]]).run Tryz.prog w = .ok (.iface 157 (.agg #[.pointer (some ⟨5, 30, none⟩)])) w := by kernel_rfl
theorem elemF (w : World) : (ReflectliteType.method ReflectliteType.elem #[.agg #[.pointer (some ⟨5, 75, none⟩)]]).run Tryz.prog w = .ok (.iface 157 (.agg #[.pointer (some ⟨5, 73, none⟩)])) w := by kernel_rfl
theorem implE (w : World) : (ReflectliteType.relation "Implements" ReflectliteType.implements_ #[.agg #[.pointer (some ⟨5, 30, none⟩)], .iface 157 (.agg #[.pointer (some ⟨5, 63, none⟩)])]).run Tryz.prog w = .ok (.bool true) w := by kernel_rfl
theorem implF (w : World) : (ReflectliteType.relation "Implements" ReflectliteType.implements_ #[.agg #[.pointer (some ⟨5, 73, none⟩)], .iface 157 (.agg #[.pointer (some ⟨5, 63, none⟩)])]).run Tryz.prog w = .ok (.bool true) w := by kernel_rfl
theorem typeOfE (v : Value) (w : World) : (ReflectliteType.typeOf #[.iface 30 v]).run Tryz.prog w = .ok (.iface 157 (.agg #[.pointer (some ⟨5, 30, none⟩)])) w := by kernel_rfl
theorem typeOfF (v : Value) (w : World) : (ReflectliteType.typeOf #[.iface 73 v]).run Tryz.prog w = .ok (.iface 157 (.agg #[.pointer (some ⟨5, 73, none⟩)])) w := by kernel_rfl
theorem asgEE (w : World) : (ReflectliteType.relation "AssignableTo" ReflectliteType.assignableTo #[.agg #[.pointer (some ⟨5, 30, none⟩)], .iface 157 (.agg #[.pointer (some ⟨5, 30, none⟩)])]).run Tryz.prog w = .ok (.bool true) w := by kernel_rfl
theorem asgFF (w : World) : (ReflectliteType.relation "AssignableTo" ReflectliteType.assignableTo #[.agg #[.pointer (some ⟨5, 73, none⟩)], .iface 157 (.agg #[.pointer (some ⟨5, 73, none⟩)])]).run Tryz.prog w = .ok (.bool true) w := by kernel_rfl
theorem asgFE (w : World) : (ReflectliteType.relation "AssignableTo" ReflectliteType.assignableTo #[.agg #[.pointer (some ⟨5, 73, none⟩)], .iface 157 (.agg #[.pointer (some ⟨5, 30, none⟩)])]).run Tryz.prog w = .ok (.bool false) w := by kernel_rfl
theorem valE (n : Int) (w : World) : (ReflectliteValue.unpack (.iface 30 (.int .i64 n))).run Tryz.prog w
    = .ok (.agg #[.pointer (some ⟨5, 30, none⟩), .pointer (some ⟨w.heap.size, 0, none⟩), .int .u64 130]) (w.alloc (.cells #[.int .i64 n] 30)) := by kernel_rfl
theorem valF (x e : Value) (w : World) : (ReflectliteValue.unpack (.iface 73 (.agg #[x, e]))).run Tryz.prog w
    = .ok (.agg #[.pointer (some ⟨5, 73, none⟩), .pointer (some ⟨w.heap.size, 0, none⟩), .int .u64 153]) (w.alloc (.cells #[x, e] 73)) := by kernel_rfl
theorem noAsF (v : Value) (xT : TypeId) (w : World) : (Instr.typeAssert (.iface 73 v) xT 162 true).run Tryz.prog w = .ok (.tuple #[.nilIface, .bool false]) w := run_typeAssert_lacksB Tryz.underlying162 (by kernel_rfl) (by kernel_rfl) v xT w
theorem hasUnwrapF (v : Value) (xT : TypeId) (w : World) : (Instr.typeAssert (.iface 73 v) xT 165 true).run Tryz.prog w = .ok (.tuple #[.iface 73 v, .bool true]) w := run_typeAssert_hasB Tryz.underlying165 (by kernel_rfl) v xT w

theorem rlm (z : Sem Value) (f : TypeId → Addr → Nat → Nat → Sem Value) (v : Value) :
    ReflectliteValue.method z f #[v] = (do match ← ReflectliteValue.parts v with | none => z | some (t, a, fl) => f t a fl (fl % 32)) := rfl
theorem partsPE (a : Addr) (w : World) : (ReflectliteValue.parts (.agg #[.pointer (some ⟨5, 108, none⟩), .pointer (some a), .int .u64 150])).run Tryz.prog w = .ok (some (108, a, 150)) w := by kernel_rfl
theorem partsPF (a : Addr) (w : World) : (ReflectliteValue.parts (.agg #[.pointer (some ⟨5, 75, none⟩), .pointer (some a), .int .u64 150])).run Tryz.prog w = .ok (some (75, a, 150)) w := by kernel_rfl
theorem isNilE (a p : Addr) (W : World) (ha : W.cell? a = some (.pointer (some p))) :
    (ReflectliteValue.method (ReflectliteValue.valueError "reflectlite.Value.IsNil" 0) ReflectliteValue.isNil #[.agg #[.pointer (some ⟨5, 108, none⟩), .pointer (some a), .int .u64 150]]).run Tryz.prog W = .ok (.bool false) W := by
  rw [rlm]
  simp only [Sem.run_bind, partsPE, Result.andThen]
  simp [ReflectliteValue.isNil, loadVar, isAgg, underlying, Tryz.underlying108, ha, Result.andThen]
theorem isNilF (a p : Addr) (W : World) (ha : W.cell? a = some (.pointer (some p))) :
    (ReflectliteValue.method (ReflectliteValue.valueError "reflectlite.Value.IsNil" 0) ReflectliteValue.isNil #[.agg #[.pointer (some ⟨5, 75, none⟩), .pointer (some a), .int .u64 150]]).run Tryz.prog W = .ok (.bool false) W := by
  rw [rlm]
  simp only [Sem.run_bind, partsPF, Result.andThen]
  simp [ReflectliteValue.isNil, loadVar, isAgg, underlying, Tryz.underlying75, ha, Result.andThen]
theorem elemOfPE (w : World) : (Rtype.elem? 108).run Tryz.prog w = .ok (some 30) w := by kernel_rfl
theorem elemOfPF (w : World) : (Rtype.elem? 75).run Tryz.prog w = .ok (some 73) w := by kernel_rfl
theorem mkE (p : Addr) (w : World) : (ReflectliteValue.mk 30 p ReflectliteValue.flagAddr).run Tryz.prog w = .ok (.agg #[.pointer (some ⟨5, 30, none⟩), .pointer (some p), .int .u64 386]) w := by kernel_rfl
theorem mkF (p : Addr) (w : World) : (ReflectliteValue.mk 73 p ReflectliteValue.flagAddr).run Tryz.prog w = .ok (.agg #[.pointer (some ⟨5, 73, none⟩), .pointer (some p), .int .u64 409]) w := by kernel_rfl
theorem elemVE (a p : Addr) (W : World) (ha : W.cell? a = some (.pointer (some p))) :
    (ReflectliteValue.method (ReflectliteValue.valueError "reflectlite.Value.Elem" 0) ReflectliteValue.elem #[.agg #[.pointer (some ⟨5, 108, none⟩), .pointer (some a), .int .u64 150]]).run Tryz.prog W
      = .ok (.agg #[.pointer (some ⟨5, 30, none⟩), .pointer (some p), .int .u64 386]) W := by
  rw [rlm]
  simp only [Sem.run_bind, partsPE, Result.andThen]
  simp [ReflectliteValue.elem, loadVar, isAgg, underlying, Tryz.underlying108, ha, Result.andThen, elemOfPE, mkE]
theorem elemVF (a p : Addr) (W : World) (ha : W.cell? a = some (.pointer (some p))) :
    (ReflectliteValue.method (ReflectliteValue.valueError "reflectlite.Value.Elem" 0) ReflectliteValue.elem #[.agg #[.pointer (some ⟨5, 75, none⟩), .pointer (some a), .int .u64 150]]).run Tryz.prog W
      = .ok (.agg #[.pointer (some ⟨5, 73, none⟩), .pointer (some p), .int .u64 409]) W := by
  rw [rlm]
  simp only [Sem.run_bind, partsPF, Result.andThen]
  simp [ReflectliteValue.elem, loadVar, isAgg, underlying, Tryz.underlying75, ha, Result.andThen, elemOfPF, mkF]
theorem rls (v x : Value) : ReflectliteValue.set #[v, x] = (do
    let (some (dst, a, fl), some (src, b, _)) := (← ReflectliteValue.parts v, ← ReflectliteValue.parts x)
      | unsupported (.noEntry "extern/(internal/reflectlite.Value).Set.zeroValue")
    if fl / ReflectliteValue.flagAddr % 2 == 0 then unsupported (.noEntry "extern/(internal/reflectlite.Value).Set.unaddressable")
    let val ← loadVar src b
    if ← Rtype.directlyAssignable dst src then storeVar dst a val
    else if ← Rtype.implements dst src then
      if (← Rtype.kind src) == 20 then
        match val with
        | .nilIface => unsupported (.noEntry "extern/reflectlite: a nil value of one interface type handed on as a value of another")
        | _ => storeVar dst a val
      else storeVar dst a (.iface src val)
    else panicString ("reflectlite.Set: value of type " ++ (← Rtype.spelt src) ++ " is not assignable to type " ++ (← Rtype.spelt dst))
    pure (.tuple #[])) := rfl
theorem partsEa (a : Addr) (w : World) : (ReflectliteValue.parts (.agg #[.pointer (some ⟨5, 30, none⟩), .pointer (some a), .int .u64 386])).run Tryz.prog w = .ok (some (30, a, 386)) w := by kernel_rfl
theorem partsEv (a : Addr) (w : World) : (ReflectliteValue.parts (.agg #[.pointer (some ⟨5, 30, none⟩), .pointer (some a), .int .u64 130])).run Tryz.prog w = .ok (some (30, a, 130)) w := by kernel_rfl
theorem partsFa (a : Addr) (w : World) : (ReflectliteValue.parts (.agg #[.pointer (some ⟨5, 73, none⟩), .pointer (some a), .int .u64 409])).run Tryz.prog w = .ok (some (73, a, 409)) w := by kernel_rfl
theorem partsFv (a : Addr) (w : World) : (ReflectliteValue.parts (.agg #[.pointer (some ⟨5, 73, none⟩), .pointer (some a), .int .u64 153])).run Tryz.prog w = .ok (some (73, a, 153)) w := by kernel_rfl
theorem directE (w : World) : (Rtype.directlyAssignable 30 30).run Tryz.prog w = .ok true w := by kernel_rfl
theorem directF (w : World) : (Rtype.directlyAssignable 73 73).run Tryz.prog w = .ok true w := by kernel_rfl
theorem sizeE (w : World) : (sizeOf 30).run Tryz.prog w = .ok 1 w := by kernel_rfl
theorem sizeF (w : World) : (sizeOf 73).run Tryz.prog w = .ok 2 w := by kernel_rfl
theorem setE (ta b : Addr) (n : Int) (old : Value) (W : World) (hb : W.cell? b = some (.int .i64 n)) (ht : W.cell? ta = some old) (hf : W.frozen? ta = false) :
    (ReflectliteValue.set #[.agg #[.pointer (some ⟨5, 30, none⟩), .pointer (some ta), .int .u64 386], .agg #[.pointer (some ⟨5, 30, none⟩), .pointer (some b), .int .u64 130]]).run Tryz.prog W
      = .ok (.tuple #[]) (W.setCell ta (.int .i64 n)) := by
  rw [rls]
  simp only [Sem.run_bind, partsEa, partsEv, Result.andThen]
  simp [ReflectliteValue.flagAddr, loadVar, isAgg, underlying, Tryz.underlying30, hb, Result.andThen, directE, storeVar, Value.cells, storeCells, Addr.add]
  rw [run_store Tryz.prog W ta _ _ (by rfl)]
  simp [ht, hf]
end Go.Proofs.YtlimcimioeepaaaGreatDoor
set_option linter.unusedVariables false
namespace Go.Proofs.YtlimcimioeepaaaGreatDoor
open Go.RowKit Go.BigFrame

set_option maxRecDepth 100000 in
set_option maxHeartbeats 1000000 in
theorem prefix_any (t : ByteArray) (r : Bool) (w : World) (h4 : 4 ≤ t.size) (hr : ((t.extract 0 4).toList == [100, 97, 103, 49]) = r) :
    Calls Tryz.prog 95 #[.string t, .string ⟨#[100, 97, 103, 49]⟩] w fun e w' => e = .returned (.bool r) ∧ w = w' := by
  have e2 : ∀ W : World, (Instr.slice 9 (.string t) none (some (.int .i64 4)) none).run Tryz.prog W = .ok (.string (t.extract 0 4)) W := fun W => by
    have h := run_slice_string_lo t W 4 (by omega) (by omega)
    simpa using h
  have g1 : decide ((4 : Int) ≤ (t.size : Int)) = true := by rw [decide_eq_true_iff]; omega
  have g2 : decide (4 ≤ t.size) = true := by rw [decide_eq_true_iff]; omega
  obtain ⟨U, hU⟩ : ∃ U, U = t.extract 0 4 := ⟨_, rfl⟩
  rw [← hU] at e2 hr
  clear hU
  go_enter Tryz.func95, Tryz.ntmps95
  go_wp2
  go_ret
  exact ⟨by rw [← hr]; rfl, rfl⟩
/-- The bytes ahead of the sum. -/
def txB (s : ByteArray) : List UInt8 := (text s).data.toList
theorem txB_txt (s : ByteArray) : txt (txB s) = text s := by
  unfold txt txB
  apply ByteArray.ext
  simp
theorem txB_length (s : ByteArray) : (txB s).length = s.size - 4 := by
  unfold txB
  rw [Array.length_toList, ByteArray.size_data, text_size]
theorem magic_iff (s : ByteArray) : ((text s).extract 0 4).toList = (txB s).take 4 := by
  rw [ByteArray.toList_eq]
  unfold txB
  simp [ByteArray.data_extract]

theorem open_short (s : ByteArray) (w : World) (h : s.size < 21) :
    Calls Tryz.prog 60 #[.string s] w fun e w' => e = .returned (.tuple #[.string ⟨#[]⟩, faultV 0 60]) ∧ Below w.heap.size w w' := by
  go_enter Tryz.func60, Tryz.ntmps60
  go_wp2
  go_ret2
  exact ⟨rfl, Below.refl _ _⟩
set_option maxRecDepth 100000 in
set_option maxHeartbeats 1000000 in
theorem open_sum (s : ByteArray) (w : World) (hs : s.size ≤ 1000) (hT : Tab w) (h : 21 ≤ s.size) (hn : ¬ sound s) :
    Calls Tryz.prog 60 #[.string s] w fun e w' => e = .returned (.tuple #[.string ⟨#[]⟩, faultV ((s.size : Int) - 4) 61]) ∧ Below w.heap.size w w' := by
  have C := Lib.hid (open_no s w hs hT hn)
  have g1 : decide ((s.size : Int) < 21) = false := by rw [decide_eq_false_iff_not]; omega
  have g2 : decide (s.size < 21) = false := by rw [decide_eq_false_iff_not]; omega
  clear hT hn
  go_enter Tryz.func60, Tryz.ntmps60
  go_wp2_with fail
  refine C.out.mono ?_
  rintro e w1 ⟨rfl, b1⟩
  have HB := Lib.hid b1
  clear b1
  go_wp2
  go_ret2
  exact ⟨rfl, HB.out⟩
set_option maxRecDepth 100000 in
set_option maxHeartbeats 1000000 in
theorem open_magic (s : ByteArray) (w : World) (hs : s.size ≤ 1000) (hT : Tab w) (h : 21 ≤ s.size) (hy : sound s) (hm : ¬ magicB (txB s)) :
    Calls Tryz.prog 60 #[.string s] w fun e w' => e = .returned (.tuple #[.string ⟨#[]⟩, faultV 0 62]) ∧ Below w.heap.size w w' := by
  have C := Lib.hid (open_yes s w hs hT hy)
  have hts := text_size s
  have D := Lib.hid (fun W => prefix_any (text s) false W (by omega) (by rw [magic_iff, beq_eq_false_iff_ne]; exact hm))
  have g1 : decide ((s.size : Int) < 21) = false := by rw [decide_eq_false_iff_not]; omega
  have g2 : decide (s.size < 21) = false := by rw [decide_eq_false_iff_not]; omega
  obtain ⟨T, hT2⟩ : ∃ T, T = text s := ⟨_, rfl⟩
  rw [← hT2] at C D hts
  clear hT hm hy hT2
  go_enter Tryz.func60, Tryz.ntmps60
  go_wp2_with fail
  refine C.out.mono ?_
  rintro e w1 ⟨rfl, b1⟩
  have HB := Lib.hid b1
  clear b1
  go_wp2_with fail
  refine (D.out _).mono ?_
  rintro e w2 ⟨rfl, rfl⟩
  go_wp2
  go_ret2
  exact ⟨rfl, HB.out⟩
/-- The version's byte. -/
theorem ver_at {b : List UInt8} (h : 17 ≤ b.length) : ∃ c : UInt8, b[4]? = some c ∧ rd 1 (b.drop 4) = (c.toNat : Int) := by
  obtain ⟨c, hc⟩ : ∃ c, b[4]? = some c := ⟨_, List.getElem?_eq_getElem (by omega)⟩
  refine ⟨c, hc, ?_⟩
  unfold rd
  have e : (b.drop 4).take 1 = [c] := by
    have h1 : b.drop 4 = c :: b.drop 5 := by
      rw [List.drop_eq_getElem_cons (by omega)]
      congr 1
      have := List.getElem?_eq_getElem (l := b) (i := 4) (by omega)
      rw [this] at hc
      exact Option.some.inj hc
    rw [h1]
    rfl
  rw [e]
  simp [Lib.leNat]
set_option maxRecDepth 100000 in
set_option maxHeartbeats 1000000 in
theorem open_rest (s : ByteArray) (w : World) (hs : s.size ≤ 1000) (hT : Tab w) (h : 21 ≤ s.size) (hy : sound s) (hm : magicB (txB s)) (v : Value) (t : ByteArray) (hv : verB (txB s) ∧ v = .nilIface ∧ t = text s ∨ ¬ verB (txB s) ∧ v = faultV 4 63 ∧ t = ⟨#[]⟩) :
    Calls Tryz.prog 60 #[.string s] w fun e w' => e = .returned (.tuple #[.string t, v]) ∧ Below w.heap.size w w' := by
  have C := Lib.hid (open_yes s w hs hT hy)
  have hts := text_size s
  have D := Lib.hid (fun W => prefix_any (text s) true W (by omega) (by rw [magic_iff, beq_iff_eq]; exact hm))
  have g1 : decide ((s.size : Int) < 21) = false := by rw [decide_eq_false_iff_not]; omega
  have g2 : decide (s.size < 21) = false := by rw [decide_eq_false_iff_not]; omega
  obtain ⟨c, hc, hcv⟩ := ver_at (b := txB s) (by rw [txB_length]; omega)
  have i0 : ∀ W, (Instr.index 9 (.string (text s)) (.int .i64 4)).run Tryz.prog W = .ok (.int .u8 (c.toNat : Int)) W := fun W => by
    rw [run_index_string (P := Tryz.prog) W 9 (text s) .i64 4 Tryz.underlying9, dif_pos ⟨by omega, by omega⟩]
    have e : (text s)[(4 : Int).toNat]'(by show 4 < _; omega) = c := by
      unfold txB at hc
      rw [Array.getElem?_toList] at hc
      exact (Array.getElem?_eq_some_iff.mp hc).2
    rw [e]
  unfold verB at hv
  rw [hcv] at hv
  obtain ⟨T, hT2⟩ : ∃ T, T = text s := ⟨_, rfl⟩
  rw [← hT2] at C D hts i0 hv
  clear hT hm hy hT2 hc hcv
  go_enter Tryz.func60, Tryz.ntmps60
  go_wp2_with fail
  refine C.out.mono ?_
  rintro e w1 ⟨rfl, b1⟩
  have HB := Lib.hid b1
  clear b1
  go_wp2_with fail
  refine (D.out _).mono ?_
  rintro e w2 ⟨rfl, rfl⟩
  rcases hv with ⟨h1, rfl, rfl⟩ | ⟨h1, rfl, rfl⟩
  · rw [h1] at i0
    go_wp2
    go_ret2
    exact ⟨rfl, HB.out⟩
  · have g3 : decide ((c.toNat : Int) = 1) = false := decide_eq_false h1
    go_wp2
    go_ret2
    exact ⟨rfl, HB.out⟩
end Go.Proofs.YtlimcimioeepaaaGreatDoor
set_option linter.unusedVariables false
namespace Go.Proofs.YtlimcimioeepaaaGreatDoor
open Go.RowKit Go.Extern.Stop Go.Stop Go.Extern

theorem loadF (b : Nat) (x e : Value) (W : World) (hb1 : W.cell? ⟨b, 0, none⟩ = some x) (hb2 : W.cell? ⟨b, 1, none⟩ = some e) : (loadVar 73 ⟨b, 0, none⟩).run Tryz.prog W = .ok (.agg #[x, e]) W := by
  have h := run_loadCells_list (P := Tryz.prog) W ⟨b, 0, none⟩ [x, e] (fun j v hv => by
    rcases j with _ | _ | j
    · obtain rfl : x = v := by simpa using hv
      exact hb1
    · obtain rfl : e = v := by simpa using hv
      simpa [Addr.add] using hb2
    · simp at hv)
  have h2 : (loadCells ⟨b, 0, none⟩ 2).run Tryz.prog W = .ok #[x, e] W := h
  have hi : (isAgg 73).run Tryz.prog W = .ok true W := by kernel_rfl
  unfold loadVar
  simp only [Sem.run_bind, hi, Result.andThen, if_true, sizeF, h2]
  rfl
theorem storeF (g : Nat) (x e o1 o2 : Value) (W : World) (h1 : x.oneCell' = true) (h2 : e.oneCell' = true) (ht : W.heap[g]? = some (.cells #[o1, o2] 73 (0, 0))) : (storeVar 73 ⟨g, 0, none⟩ (.agg #[x, e])).run Tryz.prog W = .ok () (W.setRow g #[x, e]) := by
  have hst := run_storeCells_at (P := Tryz.prog) g 0 73 [x, e] 0 #[o1, o2] W ht (by simp) (by simp [h1, h2])
  have hst2 : (storeCells ⟨g, 0, none⟩ [x, e]).run Tryz.prog W = .ok () (W.setRow g #[x, e]) := hst
  unfold storeVar
  simp only [Sem.run_bind, sizeF, Result.andThen]
  exact hst2
theorem setF (g b : Nat) (x e o1 o2 : Value) (W : World) (h1 : x.oneCell' = true) (h2 : e.oneCell' = true) (hb1 : W.cell? ⟨b, 0, none⟩ = some x) (hb2 : W.cell? ⟨b, 1, none⟩ = some e)
    (ht : W.heap[g]? = some (.cells #[o1, o2] 73 (0, 0))) :
    (ReflectliteValue.set #[.agg #[.pointer (some ⟨5, 73, none⟩), .pointer (some ⟨g, 0, none⟩), .int .u64 409], .agg #[.pointer (some ⟨5, 73, none⟩), .pointer (some ⟨b, 0, none⟩), .int .u64 153]]).run Tryz.prog W
      = .ok (.tuple #[]) (W.setRow g #[x, e]) := by
  have l := loadF b x e W hb1 hb2
  have t := storeF g x e o1 o2 W h1 h2 ht
  rw [rls]
  simp only [Sem.run_bind, partsFa, partsFv, Result.andThen]
  have hq : (409 / ReflectliteValue.flagAddr % 2 == 0) = false := by decide
  simp only [hq, Bool.false_eq_true, if_false, Sem.run_bind, Sem.run_pure, l, directF, Result.andThen, if_true, t]

set_option maxRecDepth 100000 in
set_option maxHeartbeats 4000000 in
theorem as_errno (from_ n : Int) (t : Addr) (old : Value) (w : World) (hg : ErrT w) (ht0 : w.cell? t = some old) (hf0 : w.frozen? t = false) :
    Calls Tryz.prog 32 #[faultV from_ n, .iface 108 (.pointer (some t))] w fun ev w' => ev = .returned (.bool true) ∧ ∃ w1, Below w.heap.size w w1 ∧ w' = w1.setCell t (.int .i64 n) := by
  have h6 := @run_callFunc_extern Tryz.prog 64 _ (fun args => ReflectliteValue.unpack (args.getD 0 (.tuple #[]))) Tryz.func64 (by kernel_rfl) (by kernel_rfl) (by kernel_rfl) (by kernel_rfl)
  have h7 := @run_callFunc_extern Tryz.prog 65 _ (ReflectliteValue.methodAny (ReflectliteValue.valueError "reflectlite.Value.Type" 0) (fun t _ _ _ => ReflectliteType.toType t)) Tryz.func65 (by kernel_rfl) (by kernel_rfl) (by kernel_rfl) (by kernel_rfl)
  have h8 := @run_callFunc_extern Tryz.prog 66 _ (ReflectliteValue.method (ReflectliteValue.valueError "reflectlite.Value.IsNil" 0) ReflectliteValue.isNil) Tryz.func66 (by kernel_rfl) (by kernel_rfl) (by kernel_rfl) (by kernel_rfl)
  have h27 := @run_callFunc_extern Tryz.prog 149 _ (ReflectliteType.abiMethod fun t => do pure (.int .u8 (← Rtype.kind t))) Tryz.func149 (by kernel_rfl) (by kernel_rfl) (by kernel_rfl) (by kernel_rfl)
  have h37 := @run_callFunc_extern Tryz.prog 162 _ (ReflectliteType.method ReflectliteType.elem) Tryz.func162 (by kernel_rfl) (by kernel_rfl) (by kernel_rfl) (by kernel_rfl)
  have h38 := @run_callFunc_extern Tryz.prog 163 _ (ReflectliteType.relation "Implements" ReflectliteType.implements_) Tryz.func163 (by kernel_rfl) (by kernel_rfl) (by kernel_rfl) (by kernel_rfl)
  have h10 := @run_callFunc_extern Tryz.prog 107 _ ReflectliteType.typeOf Tryz.func107 (by kernel_rfl) (by kernel_rfl) (by kernel_rfl) (by kernel_rfl)
  have h35 := @run_callFunc_extern Tryz.prog 160 _ (ReflectliteType.relation "AssignableTo" ReflectliteType.assignableTo) Tryz.func160 (by kernel_rfl) (by kernel_rfl) (by kernel_rfl) (by kernel_rfl)
  have h11 := @run_callFunc_extern Tryz.prog 108 _ (ReflectliteValue.method (ReflectliteValue.valueError "reflectlite.Value.Elem" 0) ReflectliteValue.elem) Tryz.func108 (by kernel_rfl) (by kernel_rfl) (by kernel_rfl) (by kernel_rfl)
  have h12 := @run_callFunc_extern Tryz.prog 109 _ ReflectliteValue.set Tryz.func109 (by kernel_rfl) (by kernel_rfl) (by kernel_rfl) (by kernel_rfl)
  have tO := typeOfE
  have tF := typeOfF
  have mA := methodAssignableTo
  have aE := asgEE
  have aF := asgFE
  have vE := valE
  have f6 := valueOfE
  have f7 := typeE
  have mK := methodKind
  have mE := methodElem
  have mI := methodImplements
  have mU := methodUnwrap
  have kP := kindPE
  have kE := kindE
  have eE := elemE
  have iE := implE
  have nA := noAsF
  have hU := hasUnwrapF
  have hlt := hg.lt
  have htl : t.block < w.heap.size := by
    rcases Nat.lt_or_ge t.block w.heap.size with h | h
    · exact h
    · simp [World.cell?, Array.getElem?_eq_none h] at ht0
  have n8 := isNilE ⟨w.heap.size, 0, none⟩ t ((w.alloc (.cells #[.pointer (some t)] 108)).alloc (.cells #[.pointer (some ⟨5, 108, none⟩), .pointer (some ⟨w.heap.size, 0, none⟩), .int .u64 150] 113)) (by simp)
  have hg2 : ((w.alloc (.cells #[.pointer (some t)] 108)).alloc (.cells #[.pointer (some ⟨5, 108, none⟩), .pointer (some ⟨w.heap.size, 0, none⟩), .int .u64 150] 113)).cell? ⟨0, 0, none⟩ = some (.iface 157 (.agg #[.pointer (some ⟨5, 63, none⟩)])) := by
    rw [World.cell?_alloc_lt _ _ ⟨0, 0, none⟩ (by simp), World.cell?_alloc_lt _ _ ⟨0, 0, none⟩ hlt]; exact hg
  have el := elemVE ⟨w.heap.size, 0, none⟩ t ((((w.alloc (.cells #[.pointer (some t)] 108)).alloc (.cells #[.pointer (some ⟨5, 108, none⟩), .pointer (some ⟨w.heap.size, 0, none⟩), .int .u64 150] 113)).alloc (.cells #[.pointer (some ⟨5, 108, none⟩), .pointer (some ⟨w.heap.size, 0, none⟩), .int .u64 150] 113)).alloc (.cells #[.int .i64 from_, .iface 30 (.int .i64 n)] 73)) (by rw [World.cell?_alloc_lt _ _ ⟨w.heap.size, 0, none⟩ (by simp; omega), World.cell?_alloc_lt _ _ ⟨w.heap.size, 0, none⟩ (by simp; omega)]; simp)
  have st := setE t ⟨w.heap.size + 1 + 1 + 1 + 1, 0, none⟩ n old (((((w.alloc (.cells #[.pointer (some t)] 108)).alloc (.cells #[.pointer (some ⟨5, 108, none⟩), .pointer (some ⟨w.heap.size, 0, none⟩), .int .u64 150] 113)).alloc (.cells #[.pointer (some ⟨5, 108, none⟩), .pointer (some ⟨w.heap.size, 0, none⟩), .int .u64 150] 113)).alloc (.cells #[.int .i64 from_, .iface 30 (.int .i64 n)] 73)).alloc (.cells #[.int .i64 n] 30))
    (by rw [World.cell?_alloc_at _ _ _ _ (by simp)]; rfl)
    (by rw [World.cell?_alloc_lt _ _ t (by simp; omega), World.cell?_alloc_lt _ _ t (by simp; omega), World.cell?_alloc_lt _ _ t (by simp; omega), World.cell?_alloc_lt _ _ t (by simp; omega), World.cell?_alloc_lt _ _ t htl]; exact ht0)
    (by rw [World.frozen?_alloc_old _ _ t (by simp; omega), World.frozen?_alloc_old _ _ t (by simp; omega), World.frozen?_alloc_old _ _ t (by simp; omega), World.frozen?_alloc_old _ _ t (by simp; omega), World.frozen?_alloc_old _ _ t (Nat.ne_of_lt htl)]; exact hf0)
  go_enter Tryz.func32, Tryz.ntmps32
  go_wp2
  refine wp_loop_rounds 2 ?_
  rw [rounds_succ]
  go_wp2
  rw [rounds_succ]
  go_wp2
  go_ret
  exact ⟨rfl, _, (((((Below.refl _ w).alloc (Nat.le_refl _) _).alloc (by simp) _).alloc (by simp; omega) _).alloc (by simp; omega) _).alloc (by simp; omega) _, rfl⟩
end Go.Proofs.YtlimcimioeepaaaGreatDoor
set_option linter.unusedVariables false
namespace Go.Proofs.YtlimcimioeepaaaGreatDoor
open Go.RowKit Go.Extern.Stop Go.Stop Go.Extern

set_option maxRecDepth 100000 in
set_option maxHeartbeats 4000000 in
theorem as_fault (from_ n : Int) (g : Nat) (o1 o2 : Value) (w : World) (hg : ErrT w) (ht : w.heap[g]? = some (.cells #[o1, o2] 73 (0, 0))) :
    Calls Tryz.prog 32 #[faultV from_ n, .iface 75 (.pointer (some ⟨g, 0, none⟩))] w fun ev w' => ev = .returned (.bool true) ∧ ∃ w1, Below w.heap.size w w1 ∧ w' = w1.setRow g #[.int .i64 from_, .iface 30 (.int .i64 n)] := by
  have h6 := @run_callFunc_extern Tryz.prog 64 _ (fun args => ReflectliteValue.unpack (args.getD 0 (.tuple #[]))) Tryz.func64 (by kernel_rfl) (by kernel_rfl) (by kernel_rfl) (by kernel_rfl)
  have h7 := @run_callFunc_extern Tryz.prog 65 _ (ReflectliteValue.methodAny (ReflectliteValue.valueError "reflectlite.Value.Type" 0) (fun t _ _ _ => ReflectliteType.toType t)) Tryz.func65 (by kernel_rfl) (by kernel_rfl) (by kernel_rfl) (by kernel_rfl)
  have h8 := @run_callFunc_extern Tryz.prog 66 _ (ReflectliteValue.method (ReflectliteValue.valueError "reflectlite.Value.IsNil" 0) ReflectliteValue.isNil) Tryz.func66 (by kernel_rfl) (by kernel_rfl) (by kernel_rfl) (by kernel_rfl)
  have h27 := @run_callFunc_extern Tryz.prog 149 _ (ReflectliteType.abiMethod fun t => do pure (.int .u8 (← Rtype.kind t))) Tryz.func149 (by kernel_rfl) (by kernel_rfl) (by kernel_rfl) (by kernel_rfl)
  have h37 := @run_callFunc_extern Tryz.prog 162 _ (ReflectliteType.method ReflectliteType.elem) Tryz.func162 (by kernel_rfl) (by kernel_rfl) (by kernel_rfl) (by kernel_rfl)
  have h38 := @run_callFunc_extern Tryz.prog 163 _ (ReflectliteType.relation "Implements" ReflectliteType.implements_) Tryz.func163 (by kernel_rfl) (by kernel_rfl) (by kernel_rfl) (by kernel_rfl)
  have h10 := @run_callFunc_extern Tryz.prog 107 _ ReflectliteType.typeOf Tryz.func107 (by kernel_rfl) (by kernel_rfl) (by kernel_rfl) (by kernel_rfl)
  have h35 := @run_callFunc_extern Tryz.prog 160 _ (ReflectliteType.relation "AssignableTo" ReflectliteType.assignableTo) Tryz.func160 (by kernel_rfl) (by kernel_rfl) (by kernel_rfl) (by kernel_rfl)
  have h11 := @run_callFunc_extern Tryz.prog 108 _ (ReflectliteValue.method (ReflectliteValue.valueError "reflectlite.Value.Elem" 0) ReflectliteValue.elem) Tryz.func108 (by kernel_rfl) (by kernel_rfl) (by kernel_rfl) (by kernel_rfl)
  have h12 := @run_callFunc_extern Tryz.prog 109 _ ReflectliteValue.set Tryz.func109 (by kernel_rfl) (by kernel_rfl) (by kernel_rfl) (by kernel_rfl)
  have tF := typeOfF
  have mA := methodAssignableTo
  have aF := asgFF
  have vF := valF
  have f6 := valueOfF
  have f7 := typeF
  have mK := methodKind
  have mE := methodElem
  have mI := methodImplements
  have kP := kindPF
  have kE := kindF
  have eE := elemF
  have iE := implF
  have hlt := hg.lt
  have htl : g < w.heap.size := (Array.getElem?_eq_some_iff.mp ht).1
  have n8 := isNilF ⟨w.heap.size, 0, none⟩ ⟨g, 0, none⟩ ((w.alloc (.cells #[.pointer (some ⟨g, 0, none⟩)] 75)).alloc (.cells #[.pointer (some ⟨5, 75, none⟩), .pointer (some ⟨w.heap.size, 0, none⟩), .int .u64 150] 113)) (by simp)
  have hg2 : ((w.alloc (.cells #[.pointer (some ⟨g, 0, none⟩)] 75)).alloc (.cells #[.pointer (some ⟨5, 75, none⟩), .pointer (some ⟨w.heap.size, 0, none⟩), .int .u64 150] 113)).cell? ⟨0, 0, none⟩ = some (.iface 157 (.agg #[.pointer (some ⟨5, 63, none⟩)])) := by
    rw [World.cell?_alloc_lt _ _ ⟨0, 0, none⟩ (by simp), World.cell?_alloc_lt _ _ ⟨0, 0, none⟩ hlt]; exact hg
  have el := elemVF ⟨w.heap.size, 0, none⟩ ⟨g, 0, none⟩ (((w.alloc (.cells #[.pointer (some ⟨g, 0, none⟩)] 75)).alloc (.cells #[.pointer (some ⟨5, 75, none⟩), .pointer (some ⟨w.heap.size, 0, none⟩), .int .u64 150] 113)).alloc (.cells #[.pointer (some ⟨5, 75, none⟩), .pointer (some ⟨w.heap.size, 0, none⟩), .int .u64 150] 113)) (by rw [World.cell?_alloc_lt _ _ ⟨w.heap.size, 0, none⟩ (by simp; omega)]; simp)
  have st := setF g (w.heap.size + 1 + 1 + 1) (.int .i64 from_) (.iface 30 (.int .i64 n)) o1 o2 ((((w.alloc (.cells #[.pointer (some ⟨g, 0, none⟩)] 75)).alloc (.cells #[.pointer (some ⟨5, 75, none⟩), .pointer (some ⟨w.heap.size, 0, none⟩), .int .u64 150] 113)).alloc (.cells #[.pointer (some ⟨5, 75, none⟩), .pointer (some ⟨w.heap.size, 0, none⟩), .int .u64 150] 113)).alloc (.cells #[.int .i64 from_, .iface 30 (.int .i64 n)] 73)) rfl rfl
    (by rw [World.cell?_alloc_at _ _ _ _ (by simp)]; rfl)
    (by rw [World.cell?_alloc_at _ _ _ _ (by simp)]; rfl)
    (by rw [Below.heap_alloc _ _ _ (by simp; omega), Below.heap_alloc _ _ _ (by simp; omega), Below.heap_alloc _ _ _ (by simp; omega), Below.heap_alloc _ _ _ htl]; exact ht)
  go_enter Tryz.func32, Tryz.ntmps32
  go_wp2
  refine wp_loop_rounds 1 ?_
  rw [rounds_succ]
  go_wp2
  go_ret
  exact ⟨rfl, _, ((((Below.refl _ w).alloc (Nat.le_refl _) _).alloc (by simp) _).alloc (by simp; omega) _).alloc (by simp; omega) _, rfl⟩

theorem methodComparable (v : Value) (w : World) : (Go.method 321 157 v "Comparable").run Tryz.prog w = .ok (161, v) w := by kernel_rfl
theorem isComparable (w : World) : (ReflectliteType.method (fun t => do Rtype.noPackHeld "Comparable" t; (fun a => Value.bool a.comparable) <$> typeInfo t) #[.agg #[.pointer (some ⟨5, 30, none⟩)]]).run Tryz.prog w = .ok (.bool true) w := by kernel_rfl
theorem noIsF (v : Value) (xT : TypeId) (w : World) : (Instr.typeAssert (.iface 73 v) xT 185 true).run Tryz.prog w = .ok (.tuple #[.nilIface, .bool false]) w := run_typeAssert_lacksB Tryz.underlying185 (by kernel_rfl) (by kernel_rfl) v xT w
theorem noIsE (v : Value) (xT : TypeId) (w : World) : (Instr.typeAssert (.iface 30 v) xT 185 true).run Tryz.prog w = .ok (.tuple #[.nilIface, .bool false]) w := run_typeAssert_lacksB Tryz.underlying185 (by kernel_rfl) (by kernel_rfl) v xT w
theorem noUnwrapE (v : Value) (xT : TypeId) (w : World) : (Instr.typeAssert (.iface 30 v) xT 165 true).run Tryz.prog w = .ok (.tuple #[.nilIface, .bool false]) w := run_typeAssert_lacksB Tryz.underlying165 (by kernel_rfl) (by kernel_rfl) v xT w
theorem noUnwrapsE (v : Value) (xT : TypeId) (w : World) : (Instr.typeAssert (.iface 30 v) xT 167 true).run Tryz.prog w = .ok (.tuple #[.nilIface, .bool false]) w := run_typeAssert_lacksB Tryz.underlying167 (by kernel_rfl) (by kernel_rfl) v xT w
theorem eqE (n m : Int) (w : World) : (binOp .eql 63 (.iface 30 (.int .i64 n)) (.iface 30 (.int .i64 m))).run Tryz.prog w = .ok (.bool (n == m)) w := by
  have hc : Tryz.t30.comparable = true := by kernel_rfl
  have h : ∀ d : Nat, (Op.equalIn (d + 1 + 1) 63 (.iface 30 (.int .i64 n)) (.iface 30 (.int .i64 m))).run Tryz.prog w = .ok (n == m) w := fun d => by
    simp [Op.equalIn, run_underlying Tryz.underlying63, run_underlying Tryz.underlying30, hc]
  simp only [binOp]
  simp [Op.equal, Op.maxDepth, h 9998]

set_option maxRecDepth 100000 in
set_option maxHeartbeats 4000000 in
theorem is_yes (from_ n m : Int) (w : World) (h : n = m) :
    Calls Tryz.prog 68 #[faultV from_ n, .iface 30 (.int .i64 m)] w fun ev w' => ev = .returned (.bool true) ∧ Below w.heap.size w w' := by
  have h10 := @run_callFunc_extern Tryz.prog 107 _ ReflectliteType.typeOf Tryz.func107 (by kernel_rfl) (by kernel_rfl) (by kernel_rfl) (by kernel_rfl)
  have h32 := @run_callFunc_extern Tryz.prog 161 _ (ReflectliteType.method fun t => do Rtype.noPackHeld "Comparable" t; pure (.bool (← typeInfo t).comparable)) Tryz.func161 (by kernel_rfl) (by kernel_rfl) (by kernel_rfl) (by kernel_rfl)
  have tE := typeOfE
  have cT := isComparable
  have mR := methodComparable
  have nF := noIsF
  have nE := noIsE
  have uF := hasUnwrapF
  have uE := noUnwrapE
  have vE := noUnwrapsE
  have mU := methodUnwrap
  have heq := eqE n m
  rw [beq_iff_eq.mpr h] at heq
  have hty := fun w => run_eql_iface_types (P := Tryz.prog) 73 30 (.agg #[.int .i64 from_, .iface 30 (.int .i64 n)]) (.int .i64 m) Tryz.underlying63 (by decide) w
  clear h
  go_enter Tryz.func68, Tryz.ntmps68
  go_wp2
  refine wp_loop_rounds 2 ?_
  rw [rounds_succ]
  go_wp2
  rw [rounds_succ]
  go_wp2
  go_ret
  exact ⟨rfl, (Below.refl _ w).alloc (Nat.le_refl _) _⟩

set_option maxRecDepth 100000 in
set_option maxHeartbeats 4000000 in
theorem is_no (from_ n m : Int) (w : World) (h : n ≠ m) :
    Calls Tryz.prog 68 #[faultV from_ n, .iface 30 (.int .i64 m)] w fun ev w' => ev = .returned (.bool false) ∧ Below w.heap.size w w' := by
  have h10 := @run_callFunc_extern Tryz.prog 107 _ ReflectliteType.typeOf Tryz.func107 (by kernel_rfl) (by kernel_rfl) (by kernel_rfl) (by kernel_rfl)
  have h32 := @run_callFunc_extern Tryz.prog 161 _ (ReflectliteType.method fun t => do Rtype.noPackHeld "Comparable" t; pure (.bool (← typeInfo t).comparable)) Tryz.func161 (by kernel_rfl) (by kernel_rfl) (by kernel_rfl) (by kernel_rfl)
  have tE := typeOfE
  have cT := isComparable
  have mR := methodComparable
  have nF := noIsF
  have nE := noIsE
  have uF := hasUnwrapF
  have uE := noUnwrapE
  have vE := noUnwrapsE
  have mU := methodUnwrap
  have heq := eqE n m
  rw [beq_eq_false_iff_ne.mpr h] at heq
  have hty := fun w => run_eql_iface_types (P := Tryz.prog) 73 30 (.agg #[.int .i64 from_, .iface 30 (.int .i64 n)]) (.int .i64 m) Tryz.underlying63 (by decide) w
  clear h
  go_enter Tryz.func68, Tryz.ntmps68
  go_wp2
  refine wp_loop_rounds 2 ?_
  rw [rounds_succ]
  go_wp2
  rw [rounds_succ]
  go_wp2
  go_ret
  exact ⟨rfl, (Below.refl _ w).alloc (Nat.le_refl _) _⟩

theorem is_any (from_ n m : Int) (w : World) : Calls Tryz.prog 68 #[faultV from_ n, .iface 30 (.int .i64 m)] w fun ev w' => ev = .returned (.bool (n == m)) ∧ Below w.heap.size w w' := by
  by_cases h : n = m
  · rw [beq_iff_eq.mpr h]; exact is_yes from_ n m w h
  · rw [beq_eq_false_iff_ne.mpr h]; exact is_no from_ n m w h

theorem told_nil (w : World) : Calls Tryz.prog 28 #[.nilIface] w fun e w' => e = .returned (.int .i64 0) ∧ Below w.heap.size w w' := by
  have C := Lib.hid as_nil
  go_enter Tryz.func28, Tryz.ntmps28
  go_wp2_with fail
  refine (C.out _ _).mono ?_
  rintro e w1 ⟨rfl, rfl⟩
  go_wp2
  go_ret
  exact ⟨rfl, (Below.refl _ w).alloc (Nat.le_refl _) _⟩
theorem told_fault (from_ n : Int) (w : World) (hg : ErrT w) : Calls Tryz.prog 28 #[faultV from_ n] w fun e w' => e = .returned (.int .i64 n) ∧ Below w.heap.size w w' := by
  have C := Lib.hid (as_errno from_ n)
  have HG := Lib.hid hg
  clear hg
  go_enter Tryz.func28, Tryz.ntmps28
  go_wp2_with fail
  refine (C.out ⟨w.heap.size, 0, none⟩ (.int .i64 0) _ (HG.out.via ((Below.refl _ w).alloc (Nat.le_refl _) _)) (by simp) (by simp)).mono ?_
  rintro e w1 ⟨rfl, w2, hb, rfl⟩
  have hb1 : Below w.heap.size w w2 := ((Below.refl _ w).alloc (Nat.le_refl _) _).trans (hb.mono (by simp))
  have hc : (w2.setCell ⟨w.heap.size, 0, none⟩ (.int .i64 n)).cell? ⟨w.heap.size, 0, none⟩ = some (.int .i64 n) := by
    have h0 : w2.cell? ⟨w.heap.size, 0, none⟩ = some (.int .i64 0) := by rw [hb.cell (by simp)]; simp
    exact World.cell?_setCell_same (h := h0) ..
  have HB := Lib.hid (hb1.setCell (p := ⟨w.heap.size, 0, none⟩) (Nat.le_refl _) (.int .i64 n))
  clear hb hb1
  obtain ⟨w3, hw3⟩ : ∃ w3, w3 = w2.setCell ⟨w.heap.size, 0, none⟩ (.int .i64 n) := ⟨_, rfl⟩
  rw [← hw3] at hc HB ⊢
  clear hw3
  go_wp2
  go_ret
  exact ⟨rfl, HB.out⟩
end Go.Proofs.YtlimcimioeepaaaGreatDoor
