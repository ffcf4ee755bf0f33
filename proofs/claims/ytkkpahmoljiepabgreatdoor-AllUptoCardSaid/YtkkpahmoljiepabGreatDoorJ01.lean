import Derived.Shelf.SlicesQ.Contains
import Derived.Shelf.SlicesQ.IndexFunc
import Derived.Shelf.SlicesE.Clone
import Derived.Shelf.SlSortCmp.InsertionK
import Derived.Test.YtkkpahmoljiepabGreatDoorProg
set_option maxRecDepth 1000000
set_option maxHeartbeats 12800000
set_option linter.all false
namespace Go.Proofs
open Go.Shelf
def Tryz.ayg:Go.Shelf.Ren:=⟨fun|8=>145|6=>200|a=>a,fun|22=>77|23=>83|25=>243|4=>4|3=>3|0=>0|a=>a,fun|a=>a⟩
def Tryz.akX:Go.Proofs.SlLaysH0.n8 Tryz.prog Tryz.ayg:={
 mixed:=by kernel_rfl
 f6:=⟨Tryz.f200.1,by decide,Tryz.func200.trans<|congrArg some<|by kernel_rfl⟩
 f8:=⟨Tryz.f145.1,by decide,Tryz.func145.trans<|congrArg some<|by kernel_rfl⟩
 t0:=Tryz.underlying0
 a0:=Tryz.isAgg0
 z0:=Tryz.sizeOf0
 v0:=Tryz.zeroValue0
 t3:=Tryz.underlying3
 a3:=Tryz.isAgg3
 z3:=Tryz.sizeOf3
 v3:=Tryz.zeroValue3
 t4:=Tryz.underlying4
 a4:=Tryz.isAgg4
 z4:=Tryz.sizeOf4
 v4:=Tryz.zeroValue4
 t22:=Tryz.underlying77
 a22:=Tryz.isAgg77
 z22:=Tryz.sizeOf77
 v22:=Tryz.zeroValue77
 t25:=Tryz.underlying243
 a25:=Tryz.isAgg243
 z25:=Tryz.sizeOf243
 v25:=Tryz.zeroValue243}
def Tryz.ayh:Go.Shelf.Ren:=⟨fun|7=>152|6=>204|a=>a,fun|22=>77|24=>83|4=>4|0=>0|3=>3|a=>a,fun|a=>a⟩
def Tryz.lContains:Go.Proofs.SlLaysQ.n7 Tryz.prog Tryz.ayh:={
 mixed:=by kernel_rfl
 f6:=⟨Tryz.f204.1,by decide,Tryz.func204.trans<|congrArg some<|by kernel_rfl⟩
 f7:=⟨Tryz.f152.1,by decide,Tryz.func152.trans<|congrArg some<|by kernel_rfl⟩
 t0:=Tryz.underlying0
 a0:=Tryz.isAgg0
 z0:=Tryz.sizeOf0
 v0:=Tryz.zeroValue0
 t3:=Tryz.underlying3
 a3:=Tryz.isAgg3
 z3:=Tryz.sizeOf3
 v3:=Tryz.zeroValue3
 t4:=Tryz.underlying4
 a4:=Tryz.isAgg4
 z4:=Tryz.sizeOf4
 v4:=Tryz.zeroValue4
 t22:=Tryz.underlying77
 a22:=Tryz.isAgg77
 z22:=Tryz.sizeOf77
 v22:=Tryz.zeroValue77}
def Tryz.ayi:Go.Shelf.Ren:=⟨fun|41=>227|a=>a,fun|22=>77|23=>83|4=>4|a=>a,fun|a=>a⟩
def Tryz.akY:Go.Proofs.SlLaysE0.n41 Tryz.prog Tryz.ayi:={
 mixed:=by kernel_rfl
 f41:=⟨Tryz.f227.1,by decide,Tryz.func227.trans<|congrArg some<|by kernel_rfl⟩
 t4:=Tryz.underlying4
 a4:=Tryz.isAgg4
 z4:=Tryz.sizeOf4
 v4:=Tryz.zeroValue4
 t22:=Tryz.underlying77
 a22:=Tryz.isAgg77
 z22:=Tryz.sizeOf77
 v22:=Tryz.zeroValue77}
def Tryz.ayj:Go.Shelf.Ren:=⟨fun|20=>201|a=>a,fun|24=>83|22=>77|3=>3|25=>173|4=>4|0=>0|a=>a,fun|a=>a⟩
def Tryz.ayk:Go.Proofs.SlLaysF0.n20 Tryz.prog Tryz.ayj:={
 mixed:=by kernel_rfl
 f20:=⟨Tryz.f201.1,by decide,Tryz.func201.trans<|congrArg some<|by kernel_rfl⟩
 t0:=Tryz.underlying0
 a0:=Tryz.isAgg0
 z0:=Tryz.sizeOf0
 v0:=Tryz.zeroValue0
 t3:=Tryz.underlying3
 a3:=Tryz.isAgg3
 z3:=Tryz.sizeOf3
 v3:=Tryz.zeroValue3
 t4:=Tryz.underlying4
 a4:=Tryz.isAgg4
 z4:=Tryz.sizeOf4
 v4:=Tryz.zeroValue4
 t22:=Tryz.underlying77
 a22:=Tryz.isAgg77
 z22:=Tryz.sizeOf77
 v22:=Tryz.zeroValue77
 t25:=Tryz.underlying173
 a25:=Tryz.isAgg173
 z25:=Tryz.sizeOf173
 v25:=Tryz.zeroValue173}
end Go.Proofs
