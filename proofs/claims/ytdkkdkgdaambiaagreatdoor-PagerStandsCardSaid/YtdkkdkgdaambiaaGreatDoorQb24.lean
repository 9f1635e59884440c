import Derived.Test.YtdkkdkgdaambiaaGreatDoorQb10
set_option maxRecDepth 100000
set_option maxHeartbeats 4000000
namespace Go.Proofs.YtdkkdkgdaambiaaGreatDoor
open Go Go.RowKit Go.Maps
def kA1:List Int:=[0,1,0,0,0,0,0,0,0,0,0,0,0,0,0,0,0,0,0,0,0,0,0,0,0,0,0,0,0,0,0,0]
def kB1:List Int:=[0,2,0,0,0,0,0,0,0,0,0,0,0,0,0,0,0,0,0,0,0,0,0,0,0,0,0,0,0,0,0,0]
def sAK:List Int:=[175,203,191,210,53,132,151,31,124,11,16,168,186,181,188,222,131,26,236,25,170,250,97,72,205,243,226,35,180,57,211,120]
def nAK:List Int:=[62,143,177,88,106,117,241,195,17,83,235,246,195,56,78,12,120,91,124,1,8,184,179,96,219,105,174,168,142,155,209,229]
def pAK:List Int:=[82,16,160,24,116,108,187,208,40,31,163,102,211,59,53,24,181,178,183,196,32,140,80,118,202,247,199,37,179,236,183,194]
def sBK:List Int:=[235,173,65,94,169,22,253,197,88,202,31,12,16,233,154,57,239,125,67,93,68,236,248,115,20,213,130,255,4,117,63,82]
def eAK:List Int:=[34,154,169,228,246,44,194,76,146,10,34,142,221,115,153,203,106,82,54,255,12,91,238,168,137,153,251,138,185,122,128,36]
def mAK:List Int:=[127,18,191,36,209,129,242,250,11,7,158,97,254,29,227,137,172,51,45,33,125,60,19,194,207,71,238,252,74,37,162,88]
def mBK:List Int:=[247,71,0,10,220,186,233,209,144,17,169,150,186,43,118,53,66,87,67,158,93,137,149,247,226,60,141,96,43,122,36,232]
theorem reck_sA:deriveOf kA1 labSuper 0=sAK:=by kernel_rfl
theorem reck_nA:deriveOf kA1 labSuper 1=nAK:=by kernel_rfl
theorem reck_sB:deriveOf kB1 labSuper 0=sBK:=by kernel_rfl
theorem reck_eA:deriveOf sAK labEnc 0=eAK:=by kernel_rfl
theorem reck_mA:deriveOf sAK labMac 0=mAK:=by kernel_rfl
theorem reck_mB:deriveOf sBK labMac 0=mBK:=by kernel_rfl
end Go.Proofs.YtdkkdkgdaambiaaGreatDoor
