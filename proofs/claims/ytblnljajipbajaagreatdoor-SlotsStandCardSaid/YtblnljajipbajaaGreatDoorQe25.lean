import Derived.Test.YtblnljajipbajaaGreatDoorQe14
import Derived.Test.YtblnljajipbajaaGreatDoorQe35
set_option maxRecDepth 100000
set_option maxHeartbeats 4000000
namespace Go.Proofs.YtblnljajipbajaaGreatDoor
open Go Go.RowKit
theorem seg_head {w:World} {g:Nat} {l:List Int} {r:List Value} {t:TypeId} (h:Row w g (u8s l++r) t):Seg w g 0 l:=by
 intro j hj
 rw [Nat.zero_add,h.cell j,List.getElem?_append_left (by rw [aa];exact hj),bB l j hj]
def kTwo:List Int:=[0,0,0,0,0,6]++List.replicate 26 0
end Go.Proofs.YtblnljajipbajaaGreatDoor
