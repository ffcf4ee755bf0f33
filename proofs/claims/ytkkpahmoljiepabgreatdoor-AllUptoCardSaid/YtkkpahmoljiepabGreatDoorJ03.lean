import Derived.Shelf.Spec.SlicesGrow
import Derived.Test.YtkkpahmoljiepabGreatDoorProg
set_option maxRecDepth 1000000
set_option maxHeartbeats 12800000
set_option linter.all false
namespace Go.Proofs
open Go.Shelf
def Tryz.adL:Go.Shelf.Ren:=⟨fun|4=>233|a=>a,fun|22=>77|25=>83|3=>3|4=>4|9=>9|20=>20|0=>0|a=>a,fun|a=>a⟩
def Tryz.al1:Go.Proofs.Lays8.n4 Tryz.prog Tryz.adL:={
 mixed:=by kernel_rfl
 f4:=⟨Tryz.f233.1,by decide,Tryz.func233.trans<|congrArg some<|by kernel_rfl⟩
 t0:=Tryz.underlying0
 a0:=Tryz.isAgg0
 z0:=Tryz.sizeOf0
 v0:=Tryz.zeroValue0
 t3:=Tryz.underlying3
 a3:=Tryz.isAgg3
 z3:=Tryz.sizeOf3
 v3:=Tryz.zeroValue3
 t4:=Tryz.underlying4
 a4:=Tryz.isAgg4
 z4:=Tryz.sizeOf4
 v4:=Tryz.zeroValue4
 t9:=Tryz.underlying9
 a9:=Tryz.isAgg9
 z9:=Tryz.sizeOf9
 v9:=Tryz.zeroValue9
 t20:=Tryz.underlying20
 a20:=Tryz.isAgg20
 z20:=Tryz.sizeOf20
 v20:=Tryz.zeroValue20
 t22:=Tryz.underlying77
 a22:=Tryz.isAgg77
 z22:=Tryz.sizeOf77
 v22:=Tryz.zeroValue77}
end Go.Proofs
