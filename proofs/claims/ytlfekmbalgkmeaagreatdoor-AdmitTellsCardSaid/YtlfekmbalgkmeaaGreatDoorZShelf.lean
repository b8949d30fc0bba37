import Derived.Shelf.Small.Bits
import Derived.Shelf.Strconv.Itoa0
import Derived.Ground.SlgnProg
import Derived.Shelf.SlicesE.Equal
import Derived.Ground.SlgfProg
import Derived.Shelf.SlicesE.IndexFunc
import Derived.Shelf.SlicesE.DeleteFunc
import Derived.Ground.SlsfProg
import Derived.Shelf.SlSortCmp.Insertion
import Derived.Shelf.SlSortCmp.SiftDown1
import Derived.Shelf.SlSortCmp.HeapSort1
import Derived.Shelf.SlSortCmp.Insertion1
import Derived.Shelf.SlSortCmp.Median1
import Derived.Shelf.SlSortCmp.Pivot1
import Derived.Shelf.SlSortCmp.ReverseRange1
import Derived.Shelf.SlSortCmp.PartialInsertion1
import Derived.Shelf.SlSortCmp.PartitionEqual1
import Derived.Shelf.SlSortCmp.Partition1
import Derived.Shelf.SlSortCmp.Pdq1
import Derived.Shelf.SlSortCmp.Whole1
import Derived.Shelf.SlSortCmp.NoneTotal
import Derived.Test.YtlfekmbalgkmeaaGreatDoorProg
set_option linter.unusedSimpArgs false
set_option linter.unnecessarySimpa false
namespace Go.Proofs
open Go.Shelf Go.RowKit Go.Lib Go.Sort
def Tryz.laysSlF6_f171_ren:Go.Shelf.Ren:=⟨fun|6=>171|15=>178|14=>177|28=>191|29=>192|20=>183|21=>184|22=>185|23=>186|24=>187|25=>188|26=>189|27=>190|46=>194|47=>195|48=>196|49=>197|50=>198|57=>200|n=>n,fun|22=>40|24=>3|25=>189|3=>3|39=>162|0=>0|53=>183|55=>125|4=>4|46=>201|45=>200|50=>108|5=>5|9=>9|66=>206|70=>210|76=>212|77=>213|n=>n,fun|n=>n⟩
theorem Tryz.laysSlF6_f171:Go.Proofs.SlLaysF.n6 Tryz.prog Tryz.laysSlF6_f171_ren:={
  mixed:=by kernel_rfl
  f6:=⟨Tryz.f171.name,by decide,Tryz.func171.trans (congrArg some (by kernel_rfl))⟩
  f14:=⟨Tryz.f177.name,by decide,Tryz.func177.trans (congrArg some (by kernel_rfl))⟩
  f15:=Tryz.func178.trans (congrArg some (by kernel_rfl))
  f20:=⟨Tryz.f183.name,by decide,Tryz.func183.trans (congrArg some (by kernel_rfl))⟩
  f21:=⟨Tryz.f184.name,by decide,Tryz.func184.trans (congrArg some (by kernel_rfl))⟩
  f22:=⟨Tryz.f185.name,by decide,Tryz.func185.trans (congrArg some (by kernel_rfl))⟩
  f23:=⟨Tryz.f186.name,by decide,Tryz.func186.trans (congrArg some (by kernel_rfl))⟩
  f24:=⟨Tryz.f187.name,by decide,Tryz.func187.trans (congrArg some (by kernel_rfl))⟩
  f25:=⟨Tryz.f188.name,by decide,Tryz.func188.trans (congrArg some (by kernel_rfl))⟩
  f26:=⟨Tryz.f189.name,by decide,Tryz.func189.trans (congrArg some (by kernel_rfl))⟩
  f27:=⟨Tryz.f190.name,by decide,Tryz.func190.trans (congrArg some (by kernel_rfl))⟩
  f28:=Tryz.func191.trans (congrArg some (by kernel_rfl))
  f29:=Tryz.func192.trans (congrArg some (by kernel_rfl))
  f46:=⟨Tryz.f194.name,by decide,Tryz.func194.trans (congrArg some (by kernel_rfl))⟩
  f47:=Tryz.func195.trans (congrArg some (by kernel_rfl))
  f48:=Tryz.func196.trans (congrArg some (by kernel_rfl))
  f49:=⟨Tryz.f197.name,by decide,Tryz.func197.trans (congrArg some (by kernel_rfl))⟩
  f50:=⟨Tryz.f198.name,by decide,Tryz.func198.trans (congrArg some (by kernel_rfl))⟩
  f57:=⟨Tryz.f200.name,by decide,Tryz.func200.trans (congrArg some (by kernel_rfl))⟩
  t0:=Tryz.underlying0
  a0:=Tryz.isAgg0
  z0:=Tryz.sizeOf0
  v0:=Tryz.zeroValue0
  t3:=Tryz.underlying3
  a3:=Tryz.isAgg3
  z3:=Tryz.sizeOf3
  v3:=Tryz.zeroValue3
  t4:=Tryz.underlying4
  a4:=Tryz.isAgg4
  z4:=Tryz.sizeOf4
  v4:=Tryz.zeroValue4
  t5:=Tryz.underlying5
  a5:=Tryz.isAgg5
  z5:=Tryz.sizeOf5
  v5:=Tryz.zeroValue5
  t9:=Tryz.underlying9
  a9:=Tryz.isAgg9
  z9:=Tryz.sizeOf9
  v9:=Tryz.zeroValue9
  t22:=Tryz.underlying40
  a22:=Tryz.isAgg40
  z22:=Tryz.sizeOf40
  v22:=Tryz.zeroValue40
  a24:=Tryz.isAgg3
  z24:=Tryz.sizeOf3
  t25:=Tryz.underlying189
  a25:=Tryz.isAgg189
  z25:=Tryz.sizeOf189
  v25:=Tryz.zeroValue189
  t39:=Tryz.underlying162
  a39:=Tryz.isAgg162
  z39:=Tryz.sizeOf162
  v39:=Tryz.zeroValue162
  t45:=Tryz.underlying200
  a45:=Tryz.isAgg200
  z45:=Tryz.sizeOf200
  v45:=Tryz.zeroValue200
  t46:=Tryz.underlying201
  a46:=Tryz.isAgg201
  z46:=Tryz.sizeOf201
  v46:=Tryz.zeroValue201
  t50:=Tryz.underlying108
  a50:=Tryz.isAgg108
  z50:=Tryz.sizeOf108
  v50:=Tryz.zeroValue108
  t53:=Tryz.underlying183
  a53:=Tryz.isAgg183
  z53:=Tryz.sizeOf183
  v53:=Tryz.zeroValue183
  t55:=Tryz.underlying125
  a55:=Tryz.isAgg125
  z55:=Tryz.sizeOf125
  v55:=Tryz.zeroValue125
  t66:=Tryz.underlying206
  a66:=Tryz.isAgg206
  z66:=Tryz.sizeOf206
  v66:=Tryz.zeroValue206
  t70:=Tryz.underlying210
  a70:=Tryz.isAgg210
  z70:=Tryz.sizeOf210
  v70:=Tryz.zeroValue210
  t76:=Tryz.underlying212
  a76:=Tryz.isAgg212
  z76:=Tryz.sizeOf212
  v76:=Tryz.zeroValue212
  t77:=Tryz.underlying213
  a77:=Tryz.isAgg213
  z77:=Tryz.sizeOf213
  v77:=Tryz.zeroValue213}
theorem Tryz.slices_SortFunc_total{α:Type} [Inhabited α](enc:α→Value)(h1:OneCell enc)(cf:α→α→Int)(hO:SWO (ltOf cf))(g:Nat)(cb:Array Value)(blk off cap:Nat)(d:Array α)(w:World)(eg: ∀args w,(callFunc g args).run Tryz.prog w= .ok (.enter g args) w)(hcmp:CmpLays1 Tryz.prog g cb enc cf blk off d.size w)(hH:Holds enc w blk off d)(hblk:blk<w.heap.size)(hsz:d.size<4611686018427387904)(hT: ∀x y,(ltOf cf) x y=false→(ltOf cf) y x=false→x=y):
    Calls Tryz.prog 171 #[.slice (some ⟨blk,off,none⟩) d.size cap, .func (.func g) #[] cb] w fun e w'=>
      e= .returned (.tuple #[])∧ ∃n os,w'=sortWorld enc w blk off n (d.toList.mergeSort fun x y=> !(ltOf cf) y x).toArray os:=Any.slices_SortFunc_total Tryz.laysSlF6_f171 enc h1 cf hO g cb blk off cap d w eg hcmp hH hblk hsz hT
def Tryz.laysSlF06_f171_ren:Go.Shelf.Ren:=⟨fun|6=>171|15=>178|14=>177|28=>191|29=>192|20=>183|21=>184|22=>185|23=>186|24=>187|25=>188|26=>189|27=>190|46=>194|47=>195|48=>196|49=>197|50=>198|57=>200|n=>n,fun|22=>40|24=>3|25=>189|3=>3|39=>162|0=>0|53=>183|55=>125|4=>4|46=>201|45=>200|50=>108|5=>5|9=>9|66=>206|70=>210|76=>212|77=>213|n=>n,fun|n=>n⟩
theorem Tryz.laysSlF06_f171:Go.Proofs.SlLaysF0.n6 Tryz.prog Tryz.laysSlF06_f171_ren:={
  mixed:=by kernel_rfl
  f6:=⟨Tryz.f171.name,by decide,Tryz.func171.trans (congrArg some (by kernel_rfl))⟩
  f14:=⟨Tryz.f177.name,by decide,Tryz.func177.trans (congrArg some (by kernel_rfl))⟩
  f15:=Tryz.func178.trans (congrArg some (by kernel_rfl))
  f20:=⟨Tryz.f183.name,by decide,Tryz.func183.trans (congrArg some (by kernel_rfl))⟩
  f21:=⟨Tryz.f184.name,by decide,Tryz.func184.trans (congrArg some (by kernel_rfl))⟩
  f22:=⟨Tryz.f185.name,by decide,Tryz.func185.trans (congrArg some (by kernel_rfl))⟩
  f23:=⟨Tryz.f186.name,by decide,Tryz.func186.trans (congrArg some (by kernel_rfl))⟩
  f24:=⟨Tryz.f187.name,by decide,Tryz.func187.trans (congrArg some (by kernel_rfl))⟩
  f25:=⟨Tryz.f188.name,by decide,Tryz.func188.trans (congrArg some (by kernel_rfl))⟩
  f26:=⟨Tryz.f189.name,by decide,Tryz.func189.trans (congrArg some (by kernel_rfl))⟩
  f27:=⟨Tryz.f190.name,by decide,Tryz.func190.trans (congrArg some (by kernel_rfl))⟩
  f28:=Tryz.func191.trans (congrArg some (by kernel_rfl))
  f29:=Tryz.func192.trans (congrArg some (by kernel_rfl))
  f46:=⟨Tryz.f194.name,by decide,Tryz.func194.trans (congrArg some (by kernel_rfl))⟩
  f47:=Tryz.func195.trans (congrArg some (by kernel_rfl))
  f48:=Tryz.func196.trans (congrArg some (by kernel_rfl))
  f49:=⟨Tryz.f197.name,by decide,Tryz.func197.trans (congrArg some (by kernel_rfl))⟩
  f50:=⟨Tryz.f198.name,by decide,Tryz.func198.trans (congrArg some (by kernel_rfl))⟩
  f57:=⟨Tryz.f200.name,by decide,Tryz.func200.trans (congrArg some (by kernel_rfl))⟩
  t0:=Tryz.underlying0
  a0:=Tryz.isAgg0
  z0:=Tryz.sizeOf0
  v0:=Tryz.zeroValue0
  t3:=Tryz.underlying3
  a3:=Tryz.isAgg3
  z3:=Tryz.sizeOf3
  v3:=Tryz.zeroValue3
  t4:=Tryz.underlying4
  a4:=Tryz.isAgg4
  z4:=Tryz.sizeOf4
  v4:=Tryz.zeroValue4
  t5:=Tryz.underlying5
  a5:=Tryz.isAgg5
  z5:=Tryz.sizeOf5
  v5:=Tryz.zeroValue5
  t9:=Tryz.underlying9
  a9:=Tryz.isAgg9
  z9:=Tryz.sizeOf9
  v9:=Tryz.zeroValue9
  t22:=Tryz.underlying40
  a22:=Tryz.isAgg40
  z22:=Tryz.sizeOf40
  v22:=Tryz.zeroValue40
  t25:=Tryz.underlying189
  a25:=Tryz.isAgg189
  z25:=Tryz.sizeOf189
  v25:=Tryz.zeroValue189
  t39:=Tryz.underlying162
  a39:=Tryz.isAgg162
  z39:=Tryz.sizeOf162
  v39:=Tryz.zeroValue162
  t45:=Tryz.underlying200
  a45:=Tryz.isAgg200
  z45:=Tryz.sizeOf200
  v45:=Tryz.zeroValue200
  t46:=Tryz.underlying201
  a46:=Tryz.isAgg201
  z46:=Tryz.sizeOf201
  v46:=Tryz.zeroValue201
  t50:=Tryz.underlying108
  a50:=Tryz.isAgg108
  z50:=Tryz.sizeOf108
  v50:=Tryz.zeroValue108
  t53:=Tryz.underlying183
  a53:=Tryz.isAgg183
  z53:=Tryz.sizeOf183
  v53:=Tryz.zeroValue183
  t55:=Tryz.underlying125
  a55:=Tryz.isAgg125
  z55:=Tryz.sizeOf125
  v55:=Tryz.zeroValue125
  t66:=Tryz.underlying206
  a66:=Tryz.isAgg206
  z66:=Tryz.sizeOf206
  v66:=Tryz.zeroValue206
  t70:=Tryz.underlying210
  a70:=Tryz.isAgg210
  z70:=Tryz.sizeOf210
  v70:=Tryz.zeroValue210
  t76:=Tryz.underlying212
  a76:=Tryz.isAgg212
  z76:=Tryz.sizeOf212
  v76:=Tryz.zeroValue212
  t77:=Tryz.underlying213
  a77:=Tryz.isAgg213
  z77:=Tryz.sizeOf213
  v77:=Tryz.zeroValue213}
theorem Tryz.slices_SortFunc_none{α:Type} [Inhabited α](p:Option Addr)(cap:Nat)(fv:Value)(w:World):
    Calls Tryz.prog 171 #[.slice p 0 cap,fv] w fun e w'=>e= .returned (.tuple #[])∧w'=w:=AnyF.slices_SortFunc_none Tryz.laysSlF06_f171 p cap fv w
def Tryz.laysSlF20_f183_ren:Go.Shelf.Ren:=⟨fun|20=>183|n=>n,fun|24=>3|22=>40|3=>3|25=>189|4=>4|0=>0|n=>n,fun|n=>n⟩
theorem Tryz.laysSlF20_f183:Go.Proofs.SlLaysF.n20 Tryz.prog Tryz.laysSlF20_f183_ren:={
  mixed:=by kernel_rfl
  f20:=⟨Tryz.f183.name,by decide,Tryz.func183.trans (congrArg some (by kernel_rfl))⟩
  t0:=Tryz.underlying0
  a0:=Tryz.isAgg0
  z0:=Tryz.sizeOf0
  v0:=Tryz.zeroValue0
  t3:=Tryz.underlying3
  a3:=Tryz.isAgg3
  z3:=Tryz.sizeOf3
  v3:=Tryz.zeroValue3
  t4:=Tryz.underlying4
  a4:=Tryz.isAgg4
  z4:=Tryz.sizeOf4
  v4:=Tryz.zeroValue4
  t22:=Tryz.underlying40
  a22:=Tryz.isAgg40
  z22:=Tryz.sizeOf40
  v22:=Tryz.zeroValue40
  a24:=Tryz.isAgg3
  z24:=Tryz.sizeOf3
  t25:=Tryz.underlying189
  a25:=Tryz.isAgg189
  z25:=Tryz.sizeOf189
  v25:=Tryz.zeroValue189}
theorem Tryz.insertionSortCmpFunc_s{α:Type} [Inhabited α](enc:α→Value)(cf:α→α→Int)(g:Nat)(cb:Array Value)(blk off cap a b:Nat)(d0 d:Array α)(w0 w:World)(eg: ∀args w,(callFunc g args).run Tryz.prog w= .ok (.enter g args) w)(hcmp:CmpLays1 Tryz.prog g cb enc cf blk off d0.size w0)(R:Row1 enc w0 blk off d0)(hs:d0.size=d.size)(S:SW enc w0 blk off d w)(hab:a≤b)(hb:b≤d.size)(hsz:d.size<4611686018427387904):
    Calls Tryz.prog 183 #[.slice (some ⟨blk,off,none⟩) d.size cap, .int .i64 a, .int .i64 b, .func (.func g) #[] cb] w fun e w'=>e= .returned (.tuple #[])∧SW enc w0 blk off (Sort.insertionSort (ltOf cf) d a b) w':=Any.insertionSortCmpFunc_s Tryz.laysSlF20_f183 enc cf g cb blk off cap a b d0 d w0 w eg hcmp R hs S hab hb hsz
end Go.Proofs
