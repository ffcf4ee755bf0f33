import Derived.Test.YtkkpahmoljiepaaGreatDoorRows
import Derived.JoinedOf
import Derived.Test.YtkkpahmoljiepaaGreatDoorJ00
set_option maxRecDepth 1000000
set_option maxHeartbeats 12800000
set_option linter.all false
open Bool renaming true->aE
open Go.Proofs.Tryz renaming prog->aK
namespace Go.Proofs.YtkkpahmoljiepaaGreatDoor
def fz:laidOutB aK=aE:=b8
def gg:mapsRowed aK=aE:=b8
def akx:(aK.stops==[])=aE:=b8
def ajI:(aK.stopKnobs==[])=aE:=b8
def ajJ:aK.stopsHeard=aE:=b8
def akE:aK.mayEnter=aE:=b8
def bA:Rows.machinesUptoRow.wf (OpenSpec.ofChange (Rows.OpenSpec.upto Rows.machinesSpec).bare)=aE:=b8
def cD:Tryz.f12.4.all (aK.readableRec ·)=aE:=b8
def fB:namedTie aK Rows.machinesUptoRow.37 (Rows.OpenSpec.upto Rows.machinesSpec).bare.2=aE:=b8
def gE:(Rows.machinesUptoRow.31==[])=aE:=dS
def oH:(Rows.machinesUptoRow.32==[])=aE:=dS
def wS:(Rows.machinesUptoRow.34==aK.inPlace 12)=aE:=b8
def BI:(Rows.machinesUptoRow.35==aK.unfollowed 12)=aE:=b8
def BJ:(Rows.machinesUptoRow.36==aK.recurses 12)=aE:=b8
def Na:(Rows.machinesUptoRow.37==aK.varsNamed 12)=aE:=b8
def ajN:(Rows.machinesUptoRow.38==(Tryz.f12.4.1++(Rows.OpenSpec.upto Rows.machinesSpec).bare.plain.varTypes aK).any (aK.mapsRec ·))=aE:=b8
def Nq:(Rows.machinesUptoRow.39==(Tryz.f12.4.1++(Rows.OpenSpec.upto Rows.machinesSpec).bare.plain.varTypes aK).any (aK.ifacesRec ·))=aE:=b8
def ajO:(Rows.machinesUptoRow.41==aK.mapsAmong Tryz.f12.5.1)=aE:=b8
def ajP:(Rows.machinesUptoRow.44==(Tryz.f12.4.1++(Rows.OpenSpec.upto Rows.machinesSpec).bare.plain.varTypes aK).any (aK.loopsFrom ·))=aE:=b8
def V6:(Rows.machinesUptoRow.45==(Tryz.f12.4.1++(Rows.OpenSpec.upto Rows.machinesSpec).bare.plain.varTypes aK++Tryz.f12.5.1).any (aK.wideKeysFrom ·))=aE:=b8
def CK:(Rows.OpenSpec.upto Rows.machinesSpec).bare.2.all (aK.varReadable ·)=aE:=dS
def ajQ:Tryz.f12.5.all (λa=>aK.readableRec a&&decide (a<aK.types.size))=aE:=b8
def akw:(Rows.machinesUptoRow.42==Tryz.f12.5.1.any (aK.ifacesRec ·))=aE:=b8
def GU:(Rows.machinesUptoRow.46==Tryz.f12.5.1.any (aK.loopsFrom ·))=aE:=b8
def ajR:(Rows.machinesUptoRow.51==aK.plainKeys)=aE:=b8
def ajS:Rows.machinesUptoRow.33.isNone=aE:=dS
def ajT:(Rows.machinesUptoRow.47==aK.liftsFinal)=aE:=b8
def ajU:(aK.make==some Rows.machinesUptoRow.49)=aE:=b8
def OW:(Rows.machinesUptoRow.48==Rows.machinesUptoRow.pinnedBy)=aE:=dS
def JO:(Rows.machinesUptoRow.40==(Tryz.f12.4.1++(Rows.OpenSpec.upto Rows.machinesSpec).bare.plain.varTypes aK++Tryz.f12.5.1).any (aK.veiledRec ·))=aE:=b8
def ajV:Rows.machinesUptoRow.veiledFits aK Tryz.f12.4.1 (Tryz.f12.4.1++(Rows.OpenSpec.upto Rows.machinesSpec).bare.plain.varTypes aK++Tryz.f12.5.1)=aE:=b8
end Go.Proofs.YtkkpahmoljiepaaGreatDoor
