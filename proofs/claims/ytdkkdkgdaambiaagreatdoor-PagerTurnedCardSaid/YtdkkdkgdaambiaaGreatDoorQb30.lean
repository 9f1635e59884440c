import Derived.Test.YtdkkdkgdaambiaaGreatDoorQb29
set_option maxRecDepth 100000
set_option maxHeartbeats 4000000
namespace Go.Proofs.YtdkkdkgdaambiaaGreatDoor
open Go Go.RowKit Go.Maps
def tagA7:List Int:=[242,72,122,192,247,137,90,2,242,9,118,221,71,81,36,100]
def tagB7:List Int:=[4,44,155,124,62,227,249,204,230,204,220,92,165,176,60,122]
def msgA7:List Int:=[0,0,0,0,0,0,0,15,115,117,112,101,114,0,0,0,0,0,0,0,7,0,6,138,235,213,154,34,235,235,222,23,73,135,121,49,195,63,21,53,71,56,103,70,121,230,39,209,143,31,146,43,212,145,251,237,216,61,170,80,90,198,155,92,33,6,244,111,93,235,215,148,90,8,47,222,142,55,221,150,170,208,250,209,208,147,169,168,167,199,199,95,175,62,107,64,143,12,236,146,223,168,179,191,237,38,142,39,4,56,51,231,9,181,97,226,64,118,164,89,131,54,241,62,164,18,234,147,114,5,104,20,149,49,41,179,147,221,13,124,12,69,139,54,210,53,56,35,247,222,255,15,100,253,48,47,61,60,90,136,14,27,29,72,58,75,111,0,10,247,208,226,38,51,25,103,235,194,225,63,135,47,30,4,170,7,247,254,185,204,51,197,175,53,173,7,102,156,108,128,167,9,200,153,169,167,18,12,107,229,170,88,90,52,189,72,29,173,177,173,40,38,10,71,138,165,204,18,152,185,133,0,81,98,120,24,145,205,38,36,236,142,64,107,215,156,160,63,214,208,17,125,135,92,40,73,203,39,75,196,136,154,242,181,205,70,57,76,245,63,55,156,182,161,100,231,222,161,144,79,124,22,17,85,155,145,86,67,79,170,152,234,156,68,237,195,6,235]
def innA7:List Int:=[139,51,101,183,157,140,190,235,213,89,208,78,25,247,25,1,233,144,179,103,42,204,247,146,229,92,92,189,96,179,125,121]
theorem msgA7_is:msgOf nonK7 (aadN ((6:Nat):Int) 7) encK7=msgA7:=by kernel_rfl
theorem innA7_is:shaOf (padIn mAK++msgA7)=innA7:=by kernel_rfl
theorem outA7_is:(shaOf (padOut mAK++innA7)).take 16=[242,72,122,192,247,137,90,2,242,9,118,221,71,81,36,100]:=by kernel_rfl
theorem macA7_is:(macOf mAK (msgOf nonK7 (aadN ((6:Nat):Int) 7) encK7)).take 16=[242,72,122,192,247,137,90,2,242,9,118,221,71,81,36,100]:=by
 unfold macOf
 rw [msgA7_is,innA7_is,outA7_is]
theorem reck_tagA7:tagOf sAK nonK7 (aadN ((6:Nat):Int) 7) encK7=tagA7:=by
 unfold tagOf macKey
 rw [reck_mA]
 exact macA7_is
def msgB7:List Int:=[0,0,0,0,0,0,0,15,115,117,112,101,114,0,0,0,0,0,0,0,7,0,6,138,235,213,154,34,235,235,222,23,73,135,121,49,195,63,21,53,71,56,103,70,121,230,39,209,143,31,146,43,212,145,251,237,216,61,170,80,90,198,155,92,33,6,244,111,93,235,215,148,90,8,47,222,142,55,221,150,170,208,250,209,208,147,169,168,167,199,199,95,175,62,107,64,143,12,236,146,223,168,179,191,237,38,142,39,4,56,51,231,9,181,97,226,64,118,164,89,131,54,241,62,164,18,234,147,114,5,104,20,149,49,41,179,147,221,13,124,12,69,139,54,210,53,56,35,247,222,255,15,100,253,48,47,61,60,90,136,14,27,29,72,58,75,111,0,10,247,208,226,38,51,25,103,235,194,225,63,135,47,30,4,170,7,247,254,185,204,51,197,175,53,173,7,102,156,108,128,167,9,200,153,169,167,18,12,107,229,170,88,90,52,189,72,29,173,177,173,40,38,10,71,138,165,204,18,152,185,133,0,81,98,120,24,145,205,38,36,236,142,64,107,215,156,160,63,214,208,17,125,135,92,40,73,203,39,75,196,136,154,242,181,205,70,57,76,245,63,55,156,182,161,100,231,222,161,144,79,124,22,17,85,155,145,86,67,79,170,152,234,156,68,237,195,6,235]
def innB7:List Int:=[119,46,31,101,101,69,198,46,196,91,126,178,228,50,41,130,239,188,174,183,160,183,105,85,28,186,83,59,88,88,125,201]
theorem msgB7_is:msgOf nonK7 (aadN ((6:Nat):Int) 7) encK7=msgB7:=by kernel_rfl
theorem innB7_is:shaOf (padIn mBK++msgB7)=innB7:=by kernel_rfl
theorem outB7_is:(shaOf (padOut mBK++innB7)).take 16=[4,44,155,124,62,227,249,204,230,204,220,92,165,176,60,122]:=by kernel_rfl
theorem macB7_is:(macOf mBK (msgOf nonK7 (aadN ((6:Nat):Int) 7) encK7)).take 16=[4,44,155,124,62,227,249,204,230,204,220,92,165,176,60,122]:=by
 unfold macOf
 rw [msgB7_is,innB7_is,outB7_is]
theorem reck_tagB7:tagOf sBK nonK7 (aadN ((6:Nat):Int) 7) encK7=tagB7:=by
 unfold tagOf macKey
 rw [reck_mB]
 exact macB7_is
/-- The superblock that known makes with this limit doesn't open by the other key. -/
theorem reck_no7:opensN (deriveOf kB1 labSuper 0) 6 (blockN (deriveOf kA1 labSuper 0) (deriveOf kA1 labSuper 1) 6 7 (bodyN 7 [109] gK) gK)=false:=by
 rw [reck_sA,reck_nA,reck_sB,bodyK_is]
 unfold opensN
 rw [dU sAK nAK 6 (by omega),dW,eZ,reck_non7]
 unfold fits sealOf
 rw [reck_enc7,reck_tagA7,List.length_append,show encK7.length=263 from by kernel_rfl,show tagA7.length=16 from by kernel_rfl,Nat.add_sub_cancel,List.take_append_of_le_length (by rw [show encK7.length=263 from by kernel_rfl];exact Nat.le_refl _),List.take_of_length_le (by rw [show encK7.length=263 from by kernel_rfl];exact Nat.le_refl _),dh (show encK7.length=263 from by kernel_rfl),reck_tagB7]
 exact decide_eq_false (by unfold tagA7 tagB7;decide)
end Go.Proofs.YtdkkdkgdaambiaaGreatDoor
