import Derived.Test.YtdkkdkgdaambiaaGreatDoorQb26
set_option maxRecDepth 100000
set_option maxHeartbeats 4000000
namespace Go.Proofs.YtdkkdkgdaambiaaGreatDoor
open Go Go.RowKit Go.Maps
def tagA6:List Int:=[1,39,86,28,33,111,249,98,234,149,106,204,79,150,189,187]
def tagB6:List Int:=[95,72,237,155,53,179,38,98,169,195,24,102,7,33,1,23]
def msgA6:List Int:=[0,0,0,0,0,0,0,15,115,117,112,101,114,0,0,0,0,0,0,0,6,0,6,159,178,80,217,161,129,186,35,235,225,55,103,142,224,92,54,8,60,190,104,90,252,109,29,192,246,206,208,123,34,246,36,223,168,44,195,9,158,194,55,88,98,63,86,184,48,19,129,251,48,53,172,80,192,161,86,85,90,216,90,154,69,125,178,68,216,123,147,236,55,96,229,197,44,169,216,78,12,163,92,252,205,26,53,156,6,206,107,196,71,121,152,32,82,205,14,135,140,107,95,29,15,81,83,190,207,45,122,134,246,139,41,65,141,95,160,52,114,198,195,62,83,88,134,215,184,60,241,20,135,5,149,104,237,22,90,146,98,148,173,82,139,44,36,99,106,7,22,79,3,37,39,123,139,122,152,206,105,108,199,99,208,254,115,18,140,144,224,239,172,42,75,158,196,22,161,52,252,231,24,78,72,150,188,24,205,181,171,229,170,44,155,48,82,58,104,170,108,128,215,225,147,118,200,94,183,104,197,138,25,19,116,77,99,186,58,183,201,241,134,68,132,89,205,20,37,182,134,124,197,60,158,77,250,60,162,207,200,57,103,21,166,163,122,190,54,216,75,81,136,30,133,97,56,82,120,165,225,116,120,153,168,135,58,8,178,205,66,168,6,38,55,102,169,233]
def innA6:List Int:=[124,74,182,194,106,191,192,144,138,171,221,167,83,70,119,33,158,163,116,238,69,2,69,51,87,200,56,148,122,59,27,2]
theorem msgA6_is:msgOf nonK6 (aadN ((6:Nat):Int) 6) encK6=msgA6:=by kernel_rfl
theorem innA6_is:shaOf (padIn mAK++msgA6)=innA6:=by kernel_rfl
theorem outA6_is:(shaOf (padOut mAK++innA6)).take 16=[1,39,86,28,33,111,249,98,234,149,106,204,79,150,189,187]:=by kernel_rfl
theorem macA6_is:(macOf mAK (msgOf nonK6 (aadN ((6:Nat):Int) 6) encK6)).take 16=[1,39,86,28,33,111,249,98,234,149,106,204,79,150,189,187]:=by
 unfold macOf
 rw [msgA6_is,innA6_is,outA6_is]
theorem reck_tagA6:tagOf sAK nonK6 (aadN ((6:Nat):Int) 6) encK6=tagA6:=by
 unfold tagOf macKey
 rw [reck_mA]
 exact macA6_is
def msgB6:List Int:=[0,0,0,0,0,0,0,15,115,117,112,101,114,0,0,0,0,0,0,0,6,0,6,159,178,80,217,161,129,186,35,235,225,55,103,142,224,92,54,8,60,190,104,90,252,109,29,192,246,206,208,123,34,246,36,223,168,44,195,9,158,194,55,88,98,63,86,184,48,19,129,251,48,53,172,80,192,161,86,85,90,216,90,154,69,125,178,68,216,123,147,236,55,96,229,197,44,169,216,78,12,163,92,252,205,26,53,156,6,206,107,196,71,121,152,32,82,205,14,135,140,107,95,29,15,81,83,190,207,45,122,134,246,139,41,65,141,95,160,52,114,198,195,62,83,88,134,215,184,60,241,20,135,5,149,104,237,22,90,146,98,148,173,82,139,44,36,99,106,7,22,79,3,37,39,123,139,122,152,206,105,108,199,99,208,254,115,18,140,144,224,239,172,42,75,158,196,22,161,52,252,231,24,78,72,150,188,24,205,181,171,229,170,44,155,48,82,58,104,170,108,128,215,225,147,118,200,94,183,104,197,138,25,19,116,77,99,186,58,183,201,241,134,68,132,89,205,20,37,182,134,124,197,60,158,77,250,60,162,207,200,57,103,21,166,163,122,190,54,216,75,81,136,30,133,97,56,82,120,165,225,116,120,153,168,135,58,8,178,205,66,168,6,38,55,102,169,233]
def innB6:List Int:=[160,16,226,93,179,84,237,167,79,143,128,170,167,205,180,143,213,143,2,123,44,210,168,219,254,84,152,246,179,137,190,245]
theorem msgB6_is:msgOf nonK6 (aadN ((6:Nat):Int) 6) encK6=msgB6:=by kernel_rfl
theorem innB6_is:shaOf (padIn mBK++msgB6)=innB6:=by kernel_rfl
theorem outB6_is:(shaOf (padOut mBK++innB6)).take 16=[95,72,237,155,53,179,38,98,169,195,24,102,7,33,1,23]:=by kernel_rfl
theorem macB6_is:(macOf mBK (msgOf nonK6 (aadN ((6:Nat):Int) 6) encK6)).take 16=[95,72,237,155,53,179,38,98,169,195,24,102,7,33,1,23]:=by
 unfold macOf
 rw [msgB6_is,innB6_is,outB6_is]
theorem reck_tagB6:tagOf sBK nonK6 (aadN ((6:Nat):Int) 6) encK6=tagB6:=by
 unfold tagOf macKey
 rw [reck_mB]
 exact macB6_is
/-- The superblock that known makes with this limit doesn't open by the other key. -/
theorem reck_no6:opensN (deriveOf kB1 labSuper 0) 6 (blockN (deriveOf kA1 labSuper 0) (deriveOf kA1 labSuper 1) 6 6 (bodyN 7 [109] gK) gK)=false:=by
 rw [reck_sA,reck_nA,reck_sB,bodyK_is]
 unfold opensN
 rw [dU sAK nAK 6 (by omega),dW,eZ,reck_non6]
 unfold fits sealOf
 rw [reck_enc6,reck_tagA6,List.length_append,show encK6.length=263 from by kernel_rfl,show tagA6.length=16 from by kernel_rfl,Nat.add_sub_cancel,List.take_append_of_le_length (by rw [show encK6.length=263 from by kernel_rfl];exact Nat.le_refl _),List.take_of_length_le (by rw [show encK6.length=263 from by kernel_rfl];exact Nat.le_refl _),dh (show encK6.length=263 from by kernel_rfl),reck_tagB6]
 exact decide_eq_false (by unfold tagA6 tagB6;decide)
end Go.Proofs.YtdkkdkgdaambiaaGreatDoor
