import Derived.Test.YtdkkdkgdaambiaaGreatDoorQb23
import Derived.Test.YtdkkdkgdaambiaaGreatDoorQb27
import Derived.Test.YtdkkdkgdaambiaaGreatDoorQb30
set_option maxRecDepth 100000
set_option maxHeartbeats 4000000
namespace Go.Proofs.YtdkkdkgdaambiaaGreatDoor
open Go Go.RowKit Go.Maps
theorem kF:Dom gK:=fun i g h=>by
 unfold gK at h
 split at h
 ·omega
 ·cases h
theorem gK_kept (limit:Nat) (h:3<limit) (h2:limit<100):Kept gK 6 limit:=by
 refine ⟨by omega,fun i hi=>?_,fun i g hg=>?_⟩
 ·unfold gK
  rw [if_neg (by omega)]
 ·unfold gK at hg
  split at hg
  ·have:3=g:=Option.some.inj hg
   omega
  ·cases hg
theorem lG:Bytes [109]∧[(109:Int)].length≤200:=by
 refine ⟨?_,by simp⟩
 unfold Bytes
 decide
/-- Behind the Commit. -/
theorem kn_commit {kS kN A:List Int} {a:Nat} (hl:A.length=2048) (hb:Bytes A) (ha:a<2) (h2:SupIs kS kN 6 A a 2 0 [] (fun _=>none)) (h4:SupIs kS kN 6 A (1 - a) 4 0 [] (fun _=>none)) :
  atA kS kN 6 A=a∧knA kS kN 6 A=((4:Nat):Int)∧SupIs kS kN 6 (keepA kS kN 6 A a 6 7 [109] gK) a 6 7 [109] gK∧limitAt (place (keepA kS kN 6 A a 6 7 [109] gK) (1 - a))<((6:Nat):Int):=by
 have hx:=iT (by omega) (show 1 - a<2 by omega) h4 (by rw [show 1 - (1 - a)=a by omega,h2.lim];omega)
 refine ⟨by rw [hx.1];omega,hx.2.1,iX hl hb kF ha (gK_kept 6 (by omega) (by omega)) lG (by omega),?_⟩
 rw [gU hl hb kF ha,h4.lim]
 omega
/-- Behind the Open. -/
theorem kn_open {kS kN A:List Int} {a:Nat} (hl:A.length=2048) (hb:Bytes A) (ha:a<2) (h6:SupIs kS kN 6 A a 6 7 [109] gK) :
  SupIs kS kN 6 (keepA kS kN 6 A (1 - a) (6+1) 7 [109] gK) (1 - a) 7 7 [109] gK∧SupIs kS kN 6 (keepA kS kN 6 A (1 - a) (6+1) 7 [109] gK) a 6 7 [109] gK:=by
 refine ⟨iX hl hb kF (by omega) (gK_kept 7 (by omega) (by omega)) lG (by omega),?_⟩
 have h9:=k9 (kS:=kS) (kN:=kN) (pg:=6) (A:=A) (at_:=1 - a) (limit:=6+1) (root:=7) (mt:=[109]) (f:=gK) hl hb kF (by omega) (limit':=6) (root':=7) (mt':=[109]) (f':=gK) (by rw [show 1 - (1 - a)=a by omega];exact h6) (fun i g h=>h)
 rw [show 1 - (1 - a)=a by omega] at h9
 exact h9
/-- By the other key there is no superblock. -/
theorem kn_other {A:List Int} {a:Nat} (ha:a<2) (kN':List Int) (h6:SupIs (deriveOf kA1 labSuper 0) (deriveOf kA1 labSuper 1) 6 A a 6 7 [109] gK) (h7:SupIs (deriveOf kA1 labSuper 0) (deriveOf kA1 labSuper 1) 6 A (1 - a) 7 7 [109] gK) :
  newA (deriveOf kB1 labSuper 0) kN' 6 A = -1:=by
 have v6:validN (deriveOf kB1 labSuper 0) kN' 6 (place A a) (A.drop 299)=false:=by
  unfold validN
  rw [h6.blk,show (((6:Nat):Int))=6 from rfl,reck_no6]
  rfl
 have v7:validN (deriveOf kB1 labSuper 0) kN' 6 (place A (1 - a)) (A.drop 299)=false:=by
  unfold validN
  rw [h7.blk,show (((7:Nat):Int))=7 from rfl,reck_no7]
  rfl
 have h9:a=0∨a=1:=by omega
 unfold newA newN
 rcases h9 with rfl|rfl
 ·rw [v6,show place A 1=place A (1 - 0) from rfl,v7]
  rfl
 ·rw [v6,show place A 0=place A (1 - 1) from rfl,v7]
  rfl
theorem zero_now (n:Nat):(Dk.new n).now=fun _=>zeroK:=rfl
theorem zero_area (n:Nat):secs (Dk.new n).now 0 32=List.replicate 2048 0:=by rw [zero_now];kernel_rfl
theorem zero_lim0:limitAt (place (List.replicate 2048 0) 0)=0:=by kernel_rfl
theorem zero_lim1:limitAt (place (List.replicate 2048 0) 1)=0:=by kernel_rfl
theorem On.new (n:Nat):On (Dk.new n) 0:=⟨rfl,rfl,Int.le_refl _,Int.le_refl _⟩
/-- A crash that leaves nothing, of a disk that nothing is pending on. -/
theorem crash_still {d:Dk} {k:Nat} (hon:On d k) (hp:∀i,d.pend i=none) (cs:List Int):On (d.crash cs) k∧(d.crash cs).n=d.n∧(d.crash cs).now=d.now∧∀i,(d.crash cs).pend i=none:=by
 refine ⟨⟨rfl,rfl,hon.s0,hon.s1⟩,rfl,?_,fun _=>rfl⟩
 funext i
 show d.keptAt cs (d.rank d.n) i=d.now i
 unfold Dk.keptAt Dk.now
 rw [hp i]
 rfl
theorem jP {f:Nat→List Int} {at_ n:Nat} {b:List Int} (h:32≤at_):secs (putSecs f at_ b n) 0 32=secs f 0 32:=fq (fun i hi=>jj f at_ b n _ (Or.inl (by omega)))
theorem kM {f f':Nat→List Int} {at_ n:Nat} (h:∀j,32≤j→f' j=f j) (ha:32≤at_):secs f' at_ n=secs f at_ n:=fq (fun i _=>h _ (by omega))
end Go.Proofs.YtdkkdkgdaambiaaGreatDoor
