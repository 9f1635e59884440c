import Derived.Test.YtdkkdkgdaambiaaGreatDoorQb25
import Derived.Test.YtdkkdkgdaambiaaGreatDoorQb10
set_option maxRecDepth 100000
set_option maxHeartbeats 4000000
namespace Go.Proofs.YtdkkdkgdaambiaaGreatDoor
open Go Go.RowKit Go.Maps
def nonK7:List Int:=[138,235,213,154,34,235,235,222,23,73,135,121]
def msgN7:List Int:=[115,117,112,101,114,0,0,0,0,0,0,0,7,0,6,0,0,0,7,1,0,0,0,0,0,0,0,0,0,0,0,0,0,0,0,0,0,0,0,0,0,0,0,0,0,0,0,0,0,0,0,0,0,0,0,0,0,0,0,0,0,0,0,0,0,0,0,0,0,0,1,109,0,0,0,0,0,0,0,0,0,0,0,0,0,0,0,0,0,0,0,0,0,0,0,0,0,0,0,0,0,0,0,0,0,0,0,0,0,0,0,0,0,0,0,0,0,0,0,0,0,0,0,0,0,0,0,0,0,0,0,0,0,0,0,0,0,0,0,0,0,0,0,0,0,0,0,0,0,0,0,0,0,0,0,0,0,0,0,0,0,0,0,0,0,0,0,0,0,0,0,0,0,0,0,0,0,0,0,0,0,0,0,0,0,0,0,0,0,0,0,0,0,0,0,0,0,0,0,0,0,0,0,0,0,0,0,0,0,0,0,0,0,0,0,0,0,0,0,0,0,0,0,0,0,0,0,0,0,0,0,0,0,0,0,0,0,0,0,0,0,0,0,0,0,0,0,0,0,0,0,0,0,0,0,0,0,0,0,0,0,0,0,0,0,0,0,0,0,0,0,0,0,0,0,0,0,0,0,0,0,0,0,0,0,3]
def innN7:List Int:=[87,231,40,71,180,177,89,94,154,95,214,79,198,5,150,109,171,60,60,0,16,120,13,97,58,209,78,130,211,20,225,60]
theorem msgN7_is:(aadN ((6:Nat):Int) 7)++bodyK++gensB gK 6=msgN7:=by kernel_rfl
theorem innN7_is:shaOf (padIn nAK++msgN7)=innN7:=by kernel_rfl
theorem outN7_is:(shaOf (padOut nAK++innN7)).take 12=[138,235,213,154,34,235,235,222,23,73,135,121]:=by kernel_rfl
theorem macN7_is:(macOf nAK ((aadN ((6:Nat):Int) 7)++bodyK++gensB gK 6)).take 12=[138,235,213,154,34,235,235,222,23,73,135,121]:=by
 unfold macOf
 rw [msgN7_is,innN7_is,outN7_is]
theorem reck_non7:nonN nAK 6 7 bodyK gK=nonK7:=macN7_is
end Go.Proofs.YtdkkdkgdaambiaaGreatDoor
