import Derived.Test.YtlpnafdkhoimhaaGreatDoorQr02
import Derived.Test.YtlpnafdkhoimhaaGreatDoorQr03
import Derived.Test.YtlpnafdkhoimhaaGreatDoorQr01
set_option maxRecDepth 100000
set_option maxHeartbeats 4000000
namespace Go.Proofs.YtlpnafdkhoimhaaGreatDoor
open Go Go.RowKit
theorem putRef_any (v:Value) (zs:List Int) (x:Int) (base:Nat) (w:World) (hown:OwnB 5 w base v zs) (hbase:base≤w.heap.size) (hlen:zs.length+8≤1099511627776) :
  Calls Tryz.prog 56 #[v,.int .u64 x,.int .i64 8] w fun e w'=>∃v',e=.returned v'∧OwnB 5 w' base v' (zs++be8 x)∧w.grownBy w' v.ownBlock:=by
 have HO:Hid _:=hown
 clear hown
 go_enter Tryz.func56,Tryz.ntmps56
 go_wp2_with fail
 go_loopw [0,8] (fun vs vi wr=>∃i:Nat,i≤8∧vi=.int .i64 ((i:Int) - 1)∧OwnB 5 wr base vs (zs++putN x (8 - i))∧w.grownBy wr v.ownBlock∧Later w v vs) (fun _ vi _=>((intOf vi)+1).toNat)
 case atStart=>exact ⟨8,by omega,rfl,by rw [show 8 - 8=0 from rfl,putN,List.append_nil];exact HO.out,World.grownBy.refl _ _,Later.refl _ _⟩
 case round =>
  obtain ⟨i,hi,rfl,hown,hg,hl⟩:=hrel
  match i with
  | j+1 =>
   rw [show (((j+1:Nat):Int) - 1)=(j:Int) by omega]
   have hbz:base≤(wr.alloc (.cells (u8s [x / 2 ^ (8 * j) % 256]).toArray 5)).heap.size:=by have:=hg.size;simp;omega
   have hz:∀vs' w',OwnB 5 w' base vs' (zs++putN x (8 - (j+1))++[x / 2 ^ (8 * j) % 256])→OwnB 5 w' base vs' (zs++putN x (8 - j)):=by
    intro vs' w' h
    rw [show 8 - j=(8 - (j+1))+1 by omega,putN,show 7 - (8 - (j+1))=j by omega,←List.append_assoc]
    exact h
   have hll:(zs++putN x (8 - (j+1))).length+[x / 2 ^ (8 * j) % 256].length≤1099511627776:=by simp [putN_length];omega
   have HBZ:Hid _:=hbz
   have HZ:Hid _:=hz
   have HLL:Hid _:=hll
   have HG:Hid (w.grownBy wr v.ownBlock):=hg
   have HLt:Hid _:=hl
   have HOW:Hid _:=hown
   clear hg hl hown hbz hz hll
   go_wp2_with (first
    | ((with_reducible refine ae (some 26) (.call {callee:=.builtin .append,args:=#[.tmp 18,.tmp 25],argTypes:=#[56,56]}) ?_);refine wpl_appG rfl aF bF [x / 2 ^ (8 * j) % 256] (OwnB.alloc HOW.out _) HBZ.out rfl rfl rfl (Seg.newO wr [x / 2 ^ (8 * j) % 256] 5 (0,0)) HLL.out ?_;intro v2 w2 ho hg2 hv2;have HOW2:Hid _:=HZ.out _ _ ho;have HG2:Hid (w.grownBy w2 v.ownBlock):=eq HG.out HLt.out ((World.grownBy_alloc _ _ _).trans hg2);have HL2:Hid _:=Later.step HLt.out (Nat.le_trans HG.out.size (by simp)) hv2;clear ho hg2 hv2))
   go_roundw
   case rel=>exact ⟨j,by omega,by go_num,HOW2.out,HG2.out,HL2.out⟩
   case measure=>simp [intOf]
  | 0 =>
   have HG:Hid (w.grownBy wr v.ownBlock):=hg
   rw [show 8 - 0=8 from rfl,putN_8] at hown
   have HOW:Hid _:=hown
   clear hg hl hown
   rw [show (((0:Nat):Int) - 1) = -1 from rfl]
   go_wp2_with fail
   go_ret
   exact ⟨_,rfl,HOW.out,HG.out⟩
end Go.Proofs.YtlpnafdkhoimhaaGreatDoor
