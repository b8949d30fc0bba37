import Derived.Shelf.Small.Bits
import Derived.Shelf.Strconv.Itoa0
import Derived.Shelf.Sort.Plain
import Derived.Shelf.Slices.In.SortNone
import Derived.Ground.SlgnProg
import Derived.Shelf.SlicesE.Equal
import Derived.Ground.SlgfProg
import Derived.Shelf.SlicesE.IndexFunc
import Derived.Shelf.SlicesE.DeleteFunc
import Derived.Test.YtngdbbligebcbabGreatDoorProg
namespace Go.Proofs
open Go.Shelf Go.RowKit Go.Lib Go.Sort
def Tryz.lays189_ren:Go.Shelf.Ren:=⟨fun|189=>129|125=>150|257=>149|128=>170|129=>171|294=>161|295=>162|296=>163|297=>164|298=>165|299=>166|216=>167|300=>168|301=>169|328=>173|329=>174|330=>175|331=>176|332=>177|215=>178|343=>179|n=>n,fun|28=>22|3=>3|46=>180|0=>0|51=>188|53=>134|4=>4|183=>191|182=>190|131=>151|5=>5|9=>9|218=>197|222=>201|228=>203|229=>204|n=>n,fun|n=>n⟩
theorem Tryz.lays189:Go.Proofs.Lays.n189 Tryz.prog Tryz.lays189_ren:={
  mixed:=by kernel_rfl
  f125:=Tryz.func150.trans (congrArg some (by kernel_rfl))
  f128:=Tryz.func170.trans (congrArg some (by kernel_rfl))
  f129:=Tryz.func171.trans (congrArg some (by kernel_rfl))
  f189:=Tryz.func129.trans (congrArg some (by kernel_rfl))
  f215:=Tryz.func178.trans (congrArg some (by kernel_rfl))
  f216:=Tryz.func167.trans (congrArg some (by kernel_rfl))
  f257:=Tryz.func149.trans (congrArg some (by kernel_rfl))
  f294:=Tryz.func161.trans (congrArg some (by kernel_rfl))
  f295:=Tryz.func162.trans (congrArg some (by kernel_rfl))
  f296:=Tryz.func163.trans (congrArg some (by kernel_rfl))
  f297:=Tryz.func164.trans (congrArg some (by kernel_rfl))
  f298:=Tryz.func165.trans (congrArg some (by kernel_rfl))
  f299:=Tryz.func166.trans (congrArg some (by kernel_rfl))
  f300:=Tryz.func168.trans (congrArg some (by kernel_rfl))
  f301:=Tryz.func169.trans (congrArg some (by kernel_rfl))
  f328:=Tryz.func173.trans (congrArg some (by kernel_rfl))
  f329:=Tryz.func174.trans (congrArg some (by kernel_rfl))
  f330:=Tryz.func175.trans (congrArg some (by kernel_rfl))
  f331:=Tryz.func176.trans (congrArg some (by kernel_rfl))
  f332:=Tryz.func177.trans (congrArg some (by kernel_rfl))
  f343:=Tryz.func179.trans (congrArg some (by kernel_rfl))
  t0:=Tryz.underlying0
  a0:=Tryz.isAgg0
  z0:=Tryz.sizeOf0
  v0:=Tryz.zeroValue0
  t3:=Tryz.underlying3
  a3:=Tryz.isAgg3
  z3:=Tryz.sizeOf3
  v3:=Tryz.zeroValue3
  t4:=Tryz.underlying4
  a4:=Tryz.isAgg4
  z4:=Tryz.sizeOf4
  v4:=Tryz.zeroValue4
  t5:=Tryz.underlying5
  a5:=Tryz.isAgg5
  z5:=Tryz.sizeOf5
  v5:=Tryz.zeroValue5
  t9:=Tryz.underlying9
  a9:=Tryz.isAgg9
  z9:=Tryz.sizeOf9
  v9:=Tryz.zeroValue9
  t28:=Tryz.underlying22
  a28:=Tryz.isAgg22
  z28:=Tryz.sizeOf22
  v28:=Tryz.zeroValue22
  t46:=Tryz.underlying180
  a46:=Tryz.isAgg180
  z46:=Tryz.sizeOf180
  v46:=Tryz.zeroValue180
  t51:=Tryz.underlying188
  a51:=Tryz.isAgg188
  z51:=Tryz.sizeOf188
  v51:=Tryz.zeroValue188
  t53:=Tryz.underlying134
  a53:=Tryz.isAgg134
  z53:=Tryz.sizeOf134
  v53:=Tryz.zeroValue134
  t131:=Tryz.underlying151
  a131:=Tryz.isAgg151
  z131:=Tryz.sizeOf151
  v131:=Tryz.zeroValue151
  t182:=Tryz.underlying190
  a182:=Tryz.isAgg190
  z182:=Tryz.sizeOf190
  v182:=Tryz.zeroValue190
  t183:=Tryz.underlying191
  a183:=Tryz.isAgg191
  z183:=Tryz.sizeOf191
  v183:=Tryz.zeroValue191
  t218:=Tryz.underlying197
  a218:=Tryz.isAgg197
  z218:=Tryz.sizeOf197
  v218:=Tryz.zeroValue197
  t222:=Tryz.underlying201
  a222:=Tryz.isAgg201
  z222:=Tryz.sizeOf201
  v222:=Tryz.zeroValue201
  t228:=Tryz.underlying203
  a228:=Tryz.isAgg203
  z228:=Tryz.sizeOf203
  v228:=Tryz.zeroValue203
  t229:=Tryz.underlying204
  a229:=Tryz.isAgg204
  z229:=Tryz.sizeOf204
  v229:=Tryz.zeroValue204}
theorem Tryz.slices_Sort_int(blk off cap:Nat)(zs:List Int)(w:World)(hH:Holds (Value.int .i64) w blk off zs.toArray)(hblk:blk<w.heap.size)(hsz:zs.length<4611686018427387904):
    Calls Tryz.prog 129 #[.slice (some ⟨blk,off,none⟩) zs.length cap] w fun e w'=>
      e= .returned (.tuple #[])∧ ∃n os,w'=grow (putRow (Value.int .i64) (Sort.ahead w n) blk off (zs.mergeSort fun x y=>decide (x≤y)).toArray) os:=Any.slices_Sort_int Tryz.lays189 blk off cap zs w hH hblk hsz
theorem Tryz.slices_Sort_int_none(p:Option Addr)(cap:Nat)(w:World):
    Calls Tryz.prog 129 #[.slice p 0 cap] w fun e w'=>e= .returned (.tuple #[])∧w'=w:=Any.slices_Sort_int_none Tryz.lays189 p cap w
def Tryz.laysSlH10_f68_ren:Go.Shelf.Ren:=⟨fun|10=>68|6=>63|n=>n,fun|22=>22|23=>3|25=>70|3=>3|4=>4|0=>0|n=>n,fun|n=>n⟩
theorem Tryz.laysSlH10_f68:Go.Proofs.SlLaysH.n10 Tryz.prog Tryz.laysSlH10_f68_ren:={
  mixed:=by kernel_rfl
  f6:=⟨Tryz.f63.name,by decide,Tryz.func63.trans (congrArg some (by kernel_rfl))⟩
  f10:=⟨Tryz.f68.name,by decide,Tryz.func68.trans (congrArg some (by kernel_rfl))⟩
  t0:=Tryz.underlying0
  a0:=Tryz.isAgg0
  z0:=Tryz.sizeOf0
  v0:=Tryz.zeroValue0
  t3:=Tryz.underlying3
  a3:=Tryz.isAgg3
  z3:=Tryz.sizeOf3
  v3:=Tryz.zeroValue3
  t4:=Tryz.underlying4
  a4:=Tryz.isAgg4
  z4:=Tryz.sizeOf4
  v4:=Tryz.zeroValue4
  t22:=Tryz.underlying22
  a22:=Tryz.isAgg22
  z22:=Tryz.sizeOf22
  v22:=Tryz.zeroValue22
  a23:=Tryz.isAgg3
  z23:=Tryz.sizeOf3
  t25:=Tryz.underlying70
  a25:=Tryz.isAgg70
  z25:=Tryz.sizeOf70
  v25:=Tryz.zeroValue70}
theorem Tryz.slices_DeleteFunc{α:Type} [Inhabited α](enc:α→Value)(hO:OneCell enc)(p:α→Bool)(g:Nat)(lb:Array Value)(eg: ∀args w,(callFunc g args).run Tryz.prog w= .ok (.enter g args) w)(zr:α)(v23: ∀w,(zeroValue 3).run Tryz.prog w= .ok (enc zr) w)(blk off cap:Nat)(d:Array α)(w:World)(hp:PredAt Tryz.prog g lb enc p w)(hpo:PredOver Tryz.prog g lb enc p blk off d.size w)(hH:Holds enc w blk off d)(hsz:d.size≤9223372036854775807)(hcap:d.size≤cap):
    Calls Tryz.prog 68 #[.slice (some ⟨blk,off,none⟩) d.size cap, .func (.func g) #[] lb] w fun e w'=>e= .returned (.slice (some ⟨blk,off,none⟩) (d.toList.filter fun x=> !p x).length cap)∧ ∃q,w'=putRow enc (Sort.ahead w q) blk off ((d.toList.filter fun x=> !p x)++List.replicate (d.size - (d.toList.filter fun x=> !p x).length) zr).toArray:=AnyE.slices_DeleteFunc Tryz.laysSlH10_f68 enc hO p g lb eg zr v23 blk off cap d w hp hpo hH hsz hcap
end Go.Proofs
