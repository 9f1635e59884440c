import Derived.Test.YtblnljajipbajaaGreatDoorQe22
set_option maxRecDepth 100000
set_option maxHeartbeats 4000000
namespace Go.Proofs.YtblnljajipbajaaGreatDoor
open Go Go.RowKit Go.Maps
theorem erased_long (ag:Bool) (a:Int) (kek kel x1 x2 nx ch:List Int) (p:Option Addr) (n cap:Nat) (ha:0≤a∧a<256) (hkek:kek.length=32∧Bytes kek) (hkel:kel.length=32∧Bytes kel) (hx1:x1.length=32∧Bytes x1) (hx2:x2.length=32∧Bytes x2) (hnx:nx.length=32∧Bytes nx) (hchb:Bytes ch) (w:World) (ht:Tab w) (hq:QTab w) (_h2:2≤w.heap.size) (hbad:20<n) (hl:SlOld w (.slice p n cap) ch) :
  Calls Tryz.prog 5 #[.int .u8 a,.agg (u8s kek).toArray,.agg (u8s kel).toArray,.agg (u8s x1).toArray,.agg (u8s x2).toArray,.agg (u8s nx).toArray,.bool ag,.slice p n cap] w fun e w'=>e=.returned (.bool true)∧Below w.heap.size w w':=by
 have Hkek:Hid (kek.length=32∧Bytes kek):=hkek
 have Hkel:Hid (kel.length=32∧Bytes kel):=hkel
 have Hx1:Hid (x1.length=32∧Bytes x1):=hx1
 have Hx2:Hid (x2.length=32∧Bytes x2):=hx2
 have Hnx:Hid (nx.length=32∧Bytes nx):=hnx
 have HT:Hid (Tab w):=ht
 have HQT:Hid (QTab w):=hq
 have HL:Hid (SlOld w (.slice p n cap) ch):=hl
 have HCHB:Hid (Bytes ch):=hchb
 have Hzero32:Hid (zero32.length=32∧Bytes zero32):=⟨by simp [zero32],Bytes.zeros 32⟩
 have hm:=Mem.start w
 obtain ⟨k,hk⟩:∃k:Nat,(k:Int)=a.tmod 24:=⟨(a.tmod 24).toNat,by rw [Int.tmod_eq_emod_of_nonneg ha.1];omega⟩
 have hk24:k<24:=by rw [Int.tmod_eq_emod_of_nonneg ha.1] at hk;omega
 have HKM:a.tmod 24=(k:Int):=hk.symm
 have HKW:IntKind.i64.wrap (k:Int)=(k:Int):=by rw [IntKind.wrap_i64];omega
 clear ht hq hl hchb hk ha hkek hkel hx1 hx2 hnx
 have hn1:(20:Int)<(n:Int):=by omega
 go_enter Tryz.func5,Tryz.ntmps5
 go_wp2_with (first
  | ((with_reducible refine ab (some 9) (.box 39 (.tmp 1)) ?_);refine au (u8s kek) rfl hm ?_;clear hm;intro w0 g9 hm)
  | ((with_reducible refine ab (some 10) (.box 39 (.tmp 2)) ?_);refine au (u8s kel) rfl hm ?_;clear hm;intro w1 g10 hm)
  | ((with_reducible refine ab (some 11) (.box 39 (.tmp 3)) ?_);refine au (u8s x1) rfl hm ?_;clear hm;intro w2 g11 hm)
  | ((with_reducible refine ab (some 12) (.box 39 (.tmp 4)) ?_);refine au (u8s x2) rfl hm ?_;clear hm;intro w3 g12 hm)
  | ((with_reducible refine ab (some 13) (.box 39 (.tmp 5)) ?_);refine au (u8s nx) rfl hm ?_;clear hm;intro w4 g13 hm)
  | (go_at_call 9;refine (ef _ (HT.out.mem hm (by simp)) (HQT.out.mem hm (by simp))).mono ?_;rintro e w5 ⟨rfl,hb1⟩;replace hm:=hm.call hb1;clear hb1))
 go_ret
 exact ⟨rfl,hm.below⟩
theorem erased_walk (ag:Bool) (a:Int) (kek kel x1 x2 nx ch:List Int) (p:Option Addr) (n cap:Nat) (ha:0≤a∧a<256) (hkek:kek.length=32∧Bytes kek) (hkel:kel.length=32∧Bytes kel) (hx1:x1.length=32∧Bytes x1) (hx2:x2.length=32∧Bytes x2) (hnx:nx.length=32∧Bytes nx) (hchb:Bytes ch) (w:World) (ht:Tab w) (hq:QTab w) (_h2:2≤w.heap.size) (hl:SlOld w (.slice p n cap) ch) :
  Calls Tryz.prog 5 #[.int .u8 a,.agg (u8s kek).toArray,.agg (u8s kel).toArray,.agg (u8s x1).toArray,.agg (u8s x2).toArray,.agg (u8s nx).toArray,.bool ag,.slice p n cap] w fun e w'=>e=.returned (.bool true)∧Below w.heap.size w w':=by
 by_cases hbad:20<n
 ·exact erased_long ag a kek kel x1 x2 nx ch p n cap ha hkek hkel hx1 hx2 hnx hchb w ht hq _h2 hbad hl
 ·cases ag with
  | true=>exact erased_true a kek kel x1 x2 nx ch p n cap ha hkek hkel hx1 hx2 hnx hchb w ht hq _h2 (by omega) hl
  | false=>exact erased_false a kek kel x1 x2 nx ch p n cap ha hkek hkel hx1 hx2 hnx hchb w ht hq _h2 (by omega) hl
end Go.Proofs.YtblnljajipbajaaGreatDoor
