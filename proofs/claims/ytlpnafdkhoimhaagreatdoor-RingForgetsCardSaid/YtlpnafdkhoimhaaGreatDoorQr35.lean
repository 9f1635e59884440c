import Derived.Test.YtlpnafdkhoimhaaGreatDoorQr00
import Derived.Test.YtlpnafdkhoimhaaGreatDoorQr01
import Derived.Laws.BitsAllLaws
set_option maxRecDepth 100000
set_option maxHeartbeats 4000000
namespace Go.Proofs.YtlpnafdkhoimhaaGreatDoor
open Go Go.RowKit
theorem or32_comm (a b:Int):bits .or .u32 a b=bits .or .u32 b a:=by simp only [bits,BitVec.or_comm]
theorem jV (i:Nat) (x y:Int) (hx0:0≤x) (hx1:x<4294967296) (hy0:0≤y) (hm:x.toNat % 2 ^ i=0) (hy:y.toNat<2 ^ i) (hi:i≤32):bits .or .u32 x y=x+y:=by
 have h32:2 ^ i≤2 ^ 32:=Nat.pow_le_pow_right (by omega) hi
 rw [u32_or x y hx0 hx1 hy0 (by omega),nat_join i _ _ hm hy]
 omega
def bigN (cs:List Int):Nat→Int
 | 0=>0
 | k+1=>bigN cs k * 256+cs.getD k 0
theorem bigN_4 (a b c d:Int) (ha:0≤a∧a<256) (hb:0≤b∧b<256) (hc:0≤c∧c<256) (hd:0≤d∧d<256):big4 a b c d=bigN [a,b,c,d] 4:=by
 unfold big4
 rw [jV 24 (a * 16777216) (b * 65536) (by omega) (by omega) (by omega) (by omega) (by omega) (by omega),
  jV 16 _ (c * 256) (by omega) (by omega) (by omega) (by omega) (by omega) (by omega),jV 8 _ d (by omega) (by omega) (by omega) (by omega) (by omega) (by omega)]
 simp [bigN]
 omega
theorem orw_byte (a c:Int) (h0:0≤a) (h1:a<16777216) (hc:0≤c∧c<256):bits .or .u32 (a * 256) c=a * 256+c:=by
 rw [jV 8 _ c (by omega) (by omega) (by omega) (by omega) (by omega) (by omega)]
theorem and31_nat:∀n:Nat,n<32→1≤n→bits .and .i64 (-(n:Int)) 31=32 - (n:Int):=by decide +kernel
theorem and31 (m:Int) (h1:1≤m) (h2:m<32):bits .and .i64 (-m) 31=32 - m:=by
 have:=and31_nat m.toNat (by omega) (by omega)
 rw [show (m.toNat:Int)=m by omega] at this
 exact this
theorem rotl_val (x m:Int):bits .or .u32 (x * 2 ^ (32 - m).toNat % 4294967296) (x / 2 ^ m.toNat)=rotr x m:=or32_comm _ _
theorem jA (x m:Int) (w:World) (h1:1≤m) (h2:m<32) :
  Calls Tryz.prog 195 #[.int .u32 x,.int .i64 (-m)] w fun e w'=>e=.returned (.int .u32 (rotr x m))∧w'=w:=by
 have hn:=and31 m h1 h2
 have hs:32 - (32 - m)=m:=by omega
 go_enter Tryz.func195,Tryz.ntmps195
 go_wp2
 rw [rotl_val]
 go_ret
 exact ⟨rfl,rfl⟩
theorem gJ (x a b c:Int) (w:World) (ha1:1≤a) (ha2:a<32) (hb1:1≤b) (hb2:b<32) (hc1:1≤c) (hc2:c<32) :
  Calls Tryz.prog 196 #[.int .u32 x,.int .i64 a,.int .i64 b,.int .i64 c] w fun e w'=>e=.returned (.int .u32 (bits .xor .u32 (bits .xor .u32 (rotr x a) (rotr x b)) (rotr x c)))∧w'=w:=by
 go_enter Tryz.func196,Tryz.ntmps196
 go_wp2_with (go_at_call 195;refine (jA _ _ _ (by omega) (by omega)).mono ?_;rintro e w' ⟨rfl,rfl⟩)
 go_ret
 exact ⟨rfl,rfl⟩
theorem bigRef_any (b off cap:Nat) (cs:List Int) (w:World) (hl:cs.length=4) (hc:Seg w b off cs) (hb:Bytes cs) :
  Calls Tryz.prog 194 #[.slice (some ⟨b,off,none⟩) 4 cap] w fun e w'=>e=.returned (.int .u32 (bigN cs 4))∧w'=w:=by
 have HC:Hid (Seg w b off cs):=hc
 have HB:Hid _:=hb
 have HL:Hid _:=hl
 clear hc hb hl
 go_enter Tryz.func194,Tryz.ntmps194
 go_wp2
 go_loopw [3,4] (fun vx vi wr=>∃k:Nat,k≤4∧vi=.int .i64 k∧vx=.int .u32 (bigN cs k)∧wr=w∧0≤bigN cs k∧bigN cs k<256 ^ k) (fun _ vi _=>4 - (intOf vi).toNat)
 case atStart=>exact ⟨0,by omega,rfl,rfl,rfl,by simp [bigN],by simp [bigN]⟩
 case round =>
  obtain ⟨k,hk,rfl,rfl,rfl,hn0,hn1⟩:=hrel
  by_cases hlt:k<4
  ·have hki:(k:Int)<4:=by omega
   have hcell:=HC.out k (by rw [HL.out];exact hlt)
   obtain ⟨hb0,hb1⟩:=Bytes.get (l:=cs) HB.out k
   have hn2:bigN cs k<16777216:=by
    have h4:k=0∨k=1∨k=2∨k=3:=by omega
    have hp:(256:Int) ^ k≤16777216:=by rcases h4 with rfl|rfl|rfl|rfl<;>decide
    omega
   have hval:bits .or .u32 (bigN cs k * 256) (cs.getD k 0)=bigN cs (k+1):=orw_byte _ _ hn0 hn2 ⟨hb0,hb1⟩
   have hup:bigN cs (k+1)<256 ^ (k+1):=by
    rw [bigN,Int.pow_succ]
    omega
   have hlo:0≤bigN cs (k+1):=by
    rw [bigN]
    omega
   have HV:Hid _:=hval
   have HU:Hid _:=And.intro hlo hup
   clear hval hlo hup
   obtain ⟨z,hz⟩:∃z,z=cs.getD k 0:=⟨_,rfl⟩
   rw [←hz] at hcell hb0 hb1
   have HZ:Hid _:=hz
   clear hz
   go_wp2
   rw [HZ.out,HV.out]
   go_roundw
   case rel=>exact ⟨k+1,by omega,by go_num,rfl,by trivial,HU.out.1,HU.out.2⟩
   case measure=>simp [intOf];omega
  ·have hk4:k=4:=by omega
   subst hk4
   go_wp2
   go_ret
   exact ⟨rfl,rfl⟩
theorem lx (w:World) :
  Calls Tryz.prog 193 #[] w fun e w'=>e=.returned (.agg (u32s kTab).toArray)∧Below w.heap.size w w':=by
 have hm:=Mem.start w
 go_enter Tryz.func193,Tryz.ntmps193
 go_wp2_with (first
  | ((with_reducible refine ae (some 0) (.alloc 259) ?_);refine ag _ e7 hm ?_;clear hm;intro w1 g1 hm)
  | ((with_reducible refine ae none (.store 259 (.tmp 0) (.tmp 1)) ?_);refine ah 0 (u32s kTab) hm rfl rfl rfl 64 gX (by simp [ao]) (rfl) (aX _) ?_;clear hm;intro w2 hm))
 exact aH 0 hm rfl Tryz.results193 rfl _ un_w64 rfl 64 gX rfl rfl ⟨rfl,hm.below⟩
end Go.Proofs.YtlpnafdkhoimhaaGreatDoor
