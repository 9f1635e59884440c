import Derived.Test.YtblnljajipbajaaGreatDoorQe32
import Derived.Test.YtblnljajipbajaaGreatDoorQe22
set_option maxRecDepth 100000
set_option maxHeartbeats 4000000
namespace Go.Proofs.YtblnljajipbajaaGreatDoor
open Go Go.RowKit
theorem iQ (ks ms:List Int) (p n:Int) (hkl:ks.length=32) (hml:ms.length=32) (hkb:Bytes ks) (hmb:Bytes ms) (hp:0≤p∧p<4294967296) (w:World) :
  Calls Tryz.prog 21 #[.agg (u8s ks).toArray,.int .u32 p,.int .u64 n,.agg (u8s ms).toArray] w fun e w'=>e=.returned (.agg (u8s (sealOf ks (nonceOf p n) labWrap ms)).toArray)∧Below w.heap.size w w':=by
 have hm:=Mem.start w
 have HKL:Hid _:=hkl
 have HKB:Hid _:=hkb
 have HP:Hid (0≤p∧p<4294967296):=hp
 have HKU:Hid ((u8s ks).length=32):=by show _=_;rw [aa];exact hkl
 obtain ⟨ns,hns⟩:∃ns,ns=nonceOf p n:=⟨_,rfl⟩
 have HNN:Hid (∀_:Unit,nonceOf p n=ns):=fun _=>hns.symm
 have HNL:Hid (ns.length=12):=by show _=_;rw [hns,bO]
 have HNB:Hid (Bytes ns):=by rw [hns];exact cQ _ _
 have HML:Hid _:=hml
 have HMB:Hid _:=hmb
 obtain ⟨X,hX⟩:∃X,X=sealOf ks ns labWrap ms:=⟨_,rfl⟩
 have HSS:Hid (∀_:Unit,sealOf ks ns labWrap ms=X):=fun _=>hX.symm
 have HXX:Hid (∀_:Unit,sealOf ks (nonceOf p n) labWrap ms=X):=fun _=>by rw [hX,hns]
 have HXL:Hid (X.length=48):=by show _=_;rw [hX,dm,hml]
 have HXU:Hid ((u8s X).length=48):=by show _=_;rw [aa];exact HXL.out
 have hty:∀(a b c:Nat),∀r∈[(a,u8s (List.replicate 48 0),(47:TypeId)),(b,u8s ms,(39:TypeId)),(c,u8s ks,(39:TypeId))],r.2.2≠5:=by
  intro a b c r hr
  simp only [List.mem_cons,List.not_mem_nil,or_false] at hr
  rcases hr with rfl|rfl|rfl<;>simp
 have HTY:Hid _:=hty
 clear hty
 clear hkl hml hkb hmb hp hns hX
 go_enter Tryz.func21,Tryz.ntmps21
 go_wp2_with (first
  | ((with_reducible refine ab (some 4) (.box 39 (.tmp 0)) ?_);refine au (u8s ks) rfl hm ?_;clear hm;intro w1 g4 hm)
  | ((with_reducible refine ab (some 7) (.box 39 (.tmp 3)) ?_);refine au (u8s ms) rfl hm ?_;clear hm;intro w2 g7 hm)
  | ((with_reducible refine ab (some 8) (.alloc 47) ?_);refine af _ eE hm ?_;clear hm;intro w3 g8 hm))
 refine ax ?_
 refine az (T:=fun W=>Mem w [] W [(g8,u8s (List.replicate 48 0),47),(g7,u8s ms,39),(g4,u8s ks,39)]) (by kernel_rfl) hm ?_
 clear hm
 intro w4 hm
 refine aG 0 (v:=.agg (u8s ks).toArray) rfl (by kernel_rfl) rfl (fun W hW=>ao 0 _ (Mem.get hW 2 rfl) rfl _ ar rfl 32 am (by rw [HKU.out];omega) (by rw [List.drop_zero,List.take_of_length_le (Nat.le_of_eq HKU.out)])) hm ?_
 go_simp
 refine aG 1 (v:=.int .u32 p) rfl (by kernel_rfl) rfl (fun W _=>by go_simp) hm ?_
 go_simp
 refine aG 2 (v:=.int .u64 n) rfl (by kernel_rfl) rfl (fun W _=>by go_simp) hm ?_
 go_simp
 refine aG 6 (v:=.slice (some ⟨g7,0,none⟩) 32 32) rfl (by kernel_rfl) rfl (fun W _=>by go_simp) hm ?_
 go_simp
 refine wpAnyH_all (rs:=[3,4]) (by kernel_rfl) (by simp) ?_
 intro i hi
 simp only [List.mem_cons,List.not_mem_nil,or_false] at hi
 rcases hi with rfl|rfl
 ·refine ay 3 rfl rfl ?_
  intro K hK
  go_wp2_with (go_at_call 43;refine (bZ p n HP.out _).mono ?_;rintro e wn ⟨he,hb⟩;rw [HNN.out ()] at he;subst he;replace hm:=hm.call hb;clear hb)
  refine hK _ _ hm ?_
  clear hK K
  refine aP 4 (by kernel_rfl) rfl rfl ?_
  intro K hK
  refine cN av bw hm ?_
  clear hm
  intro wl gl hm hb
  clear hb
  refine wpList_nil ?_
  refine hK _ _ hm.tail ?_
  clear hK K
  refine aP 5 (by kernel_rfl) rfl rfl ?_
  intro K hK
  refine cq labWrap rfl av aZ rfl rfl hm ?_
  clear hm
  intro wv hm hs
  have HW:Hid (SlOld wv (.slice (some ⟨gl,0,none⟩) 4 4) labWrap):=hs
  clear hs
  refine wpList_nil ?_
  refine hK _ _ hm ?_
  clear hK K
  refine aP 7 (by kernel_rfl) rfl rfl ?_
  intro K hK
  go_wp2_with (go_at_call 42;refine (fN ks ns labWrap ms _ _ HKL.out HNL.out HKB.out HNB.out aL HMB.out (by decide) (by rw [HML.out];omega) _ HW.out (aE (hm.get 1 rfl) HML.out (Nat.le_refl _))).mono ?_;rintro e wx ⟨v9,he,ho,hb⟩;subst he;rw [HSS.out ()] at ho;have hmT:=hm.call hb;obtain ⟨gs,cap,l,hv,hc,hm2⟩:=Mem.adoptO hmT (OwnB.mono ho hm.size) (HTY.out _ _ _) (by rw [HXL.out];omega);rw [HXL.out] at hv hc;subst hv;clear ho hb hm)
  refine hK _ _ hmT ?_
  clear hK K
  refine aG 8 (v:=.slice (some ⟨gs,0,none⟩) 48 cap) rfl (by kernel_rfl) rfl (fun W _=>by go_simp) hmT ?_
  go_simp
  refine wpAnyH_done (by kernel_rfl) ?_ _
  simp only [endsIn]
  clear hmT
  have hm:=hm2
  clear hm2
  go_wp2_with (first
   | ((with_reducible refine ab (some 10) (.alloc 47) ?_);refine af _ eE hm ?_;clear hm;intro w5 g10 hm))
  go_loopw [11] (fun vi wr=>∃i:Nat,i≤48∧vi=.int .i64 i∧Mem w [] wr ((g10,u8s (cpTo 48 X i),47)::[(gs,u8s X++l,5),(g8,u8s (List.replicate 48 0),47),(g7,u8s ms,39),(g4,u8s ks,39)])) (fun vi _=>48 - (intOf vi).toNat)
  case atStart=>exact ⟨0,by omega,rfl,by rw [dy];exact hm⟩
  case round =>
   clear hm
   obtain ⟨i,hi,rfl,hm⟩:=hrel
   by_cases hlt:i<48
   ·have hii:(i:Int)<48:=by omega
    obtain ⟨x,hx⟩:∃x,x=X.getD i 0:=⟨_,rfl⟩
    have HVX:Hid ((u8s X++l)[i]?=some (.int .u8 x)):=by show _=_;rw [List.getElem?_append_left (by rw [HXU.out];omega),bB _ _ (by rw [HXL.out];omega),hx]
    have HST:Hid ((u8s (cpTo 48 X i)).set i (.int .u8 x)=u8s (cpTo 48 X (i+1))):=by show _=_;rw [bf,hx,eb 48 X HXL.out i hlt]
    have HLN:Hid (i<(u8s (cpTo 48 X i)).length):=by show _<_;rw [aa,cG 48 X HXL.out i hi];exact hlt
    clear hx
    go_wp2_with (first
     | ((with_reducible refine ab (some 28) (.load 5 (.tmp 27)) ?_);refine aK 1 i (.int .u8 x) hm rfl rfl cV (HVX.out) ?_)
     | ((with_reducible refine ab none (.store 5 (.tmp 29) (.tmp 28)) ?_);go_must (refine aD 0 i (.int .u8 x) hm rfl rfl (rfl) aC (HLN.out) rfl rfl ?_);clear hm;intro wq hm))
    rw [List.set_cons_zero,HST.out] at hm
    go_roundw
    case rel=>exact ⟨i+1,by omega,by go_num,hm⟩
    case measure=>simp [intOf];omega
   ·have hin:i=48:=by omega
    subst hin
    rw [dA 48 X HXL.out] at hm
    go_wp2_with (first
     | ((with_reducible refine ab (some 30) (.load 47 (.tmp 10)) ?_);refine aw 0 hm rfl rfl _ cw rfl 48 b7 (HXU.out) ?_)
     | ((with_reducible refine ab none (.store 47 (.tmp 8) (.tmp 30)) ?_);refine ah 2 (u8s X) hm rfl rfl rfl 48 b7 (by simp [aa]) (HXU.out) (aj _) ?_;clear hm;intro wr2 hm))
    exact aA 2 hm rfl Tryz.results21 rfl _ cw rfl 48 b7 HXU.out rfl ⟨by rw [HXX.out ()],hm.below⟩
 ·refine ay 4 rfl rfl ?_
  intro K hK
  refine cN av bw hm ?_
  clear hm
  intro wl gl hm hb
  clear hb
  refine wpList_nil ?_
  refine hK _ _ hm.tail ?_
  clear hK K
  refine wpAnyH_all (rs:=[3,5]) (by kernel_rfl) (by simp) ?_
  intro i hi
  simp only [List.mem_cons,List.not_mem_nil,or_false] at hi
  rcases hi with rfl|rfl
  ·refine ay 3 rfl rfl ?_
   intro K hK
   go_wp2_with (go_at_call 43;refine (bZ p n HP.out _).mono ?_;rintro e wn ⟨he,hb⟩;rw [HNN.out ()] at he;subst he;replace hm:=hm.call hb;clear hb)
   refine hK _ _ hm.tail ?_
   clear hK K
   refine aP 5 (by kernel_rfl) rfl rfl ?_
   intro K hK
   refine cq labWrap rfl av aZ rfl rfl hm ?_
   clear hm
   intro wv hm hs
   have HW:Hid (SlOld wv (.slice (some ⟨gl,0,none⟩) 4 4) labWrap):=hs
   clear hs
   refine wpList_nil ?_
   refine hK _ _ hm ?_
   clear hK K
   refine aP 7 (by kernel_rfl) rfl rfl ?_
   intro K hK
   go_wp2_with (go_at_call 42;refine (fN ks ns labWrap ms _ _ HKL.out HNL.out HKB.out HNB.out aL HMB.out (by decide) (by rw [HML.out];omega) _ HW.out (aE (hm.get 1 rfl) HML.out (Nat.le_refl _))).mono ?_;rintro e wx ⟨v9,he,ho,hb⟩;subst he;rw [HSS.out ()] at ho;have hmT:=hm.call hb;obtain ⟨gs,cap,l,hv,hc,hm2⟩:=Mem.adoptO hmT (OwnB.mono ho hm.size) (HTY.out _ _ _) (by rw [HXL.out];omega);rw [HXL.out] at hv hc;subst hv;clear ho hb hm)
   refine hK _ _ hmT ?_
   clear hK K
   refine aG 8 (v:=.slice (some ⟨gs,0,none⟩) 48 cap) rfl (by kernel_rfl) rfl (fun W _=>by go_simp) hmT ?_
   go_simp
   refine wpAnyH_done (by kernel_rfl) ?_ _
   simp only [endsIn]
   clear hmT
   have hm:=hm2
   clear hm2
   go_wp2_with (first
    | ((with_reducible refine ab (some 10) (.alloc 47) ?_);refine af _ eE hm ?_;clear hm;intro w5 g10 hm))
   go_loopw [11] (fun vi wr=>∃i:Nat,i≤48∧vi=.int .i64 i∧Mem w [] wr ((g10,u8s (cpTo 48 X i),47)::[(gs,u8s X++l,5),(g8,u8s (List.replicate 48 0),47),(g7,u8s ms,39),(g4,u8s ks,39)])) (fun vi _=>48 - (intOf vi).toNat)
   case atStart=>exact ⟨0,by omega,rfl,by rw [dy];exact hm⟩
   case round =>
    clear hm
    obtain ⟨i,hi,rfl,hm⟩:=hrel
    by_cases hlt:i<48
    ·have hii:(i:Int)<48:=by omega
     obtain ⟨x,hx⟩:∃x,x=X.getD i 0:=⟨_,rfl⟩
     have HVX:Hid ((u8s X++l)[i]?=some (.int .u8 x)):=by show _=_;rw [List.getElem?_append_left (by rw [HXU.out];omega),bB _ _ (by rw [HXL.out];omega),hx]
     have HST:Hid ((u8s (cpTo 48 X i)).set i (.int .u8 x)=u8s (cpTo 48 X (i+1))):=by show _=_;rw [bf,hx,eb 48 X HXL.out i hlt]
     have HLN:Hid (i<(u8s (cpTo 48 X i)).length):=by show _<_;rw [aa,cG 48 X HXL.out i hi];exact hlt
     clear hx
     go_wp2_with (first
      | ((with_reducible refine ab (some 28) (.load 5 (.tmp 27)) ?_);refine aK 1 i (.int .u8 x) hm rfl rfl cV (HVX.out) ?_)
      | ((with_reducible refine ab none (.store 5 (.tmp 29) (.tmp 28)) ?_);go_must (refine aD 0 i (.int .u8 x) hm rfl rfl (rfl) aC (HLN.out) rfl rfl ?_);clear hm;intro wq hm))
     rw [List.set_cons_zero,HST.out] at hm
     go_roundw
     case rel=>exact ⟨i+1,by omega,by go_num,hm⟩
     case measure=>simp [intOf];omega
    ·have hin:i=48:=by omega
     subst hin
     rw [dA 48 X HXL.out] at hm
     go_wp2_with (first
      | ((with_reducible refine ab (some 30) (.load 47 (.tmp 10)) ?_);refine aw 0 hm rfl rfl _ cw rfl 48 b7 (HXU.out) ?_)
      | ((with_reducible refine ab none (.store 47 (.tmp 8) (.tmp 30)) ?_);refine ah 2 (u8s X) hm rfl rfl rfl 48 b7 (by simp [aa]) (HXU.out) (aj _) ?_;clear hm;intro wr2 hm))
     exact aA 2 hm rfl Tryz.results21 rfl _ cw rfl 48 b7 HXU.out rfl ⟨by rw [HXX.out ()],hm.below⟩
  ·refine ay 5 rfl rfl ?_
   intro K hK
   refine cq labWrap rfl av aZ rfl rfl hm ?_
   clear hm
   intro wv hm hs
   have HW:Hid (SlOld wv (.slice (some ⟨gl,0,none⟩) 4 4) labWrap):=hs
   clear hs
   refine wpList_nil ?_
   refine hK _ _ hm ?_
   clear hK K
   refine aP 3 (by kernel_rfl) rfl rfl ?_
   intro K hK
   go_wp2_with (go_at_call 43;refine (bZ p n HP.out _).mono ?_;rintro e wn ⟨he,hb⟩;rw [HNN.out ()] at he;subst he;have HW':Hid (SlOld wn (.slice (some ⟨gl,0,none⟩) 4 4) labWrap):=SlOld.below HW.out hb;clear HW;have HW:=HW';replace hm:=hm.call hb;clear hb)
   refine hK _ _ hm ?_
   clear hK K
   refine aP 7 (by kernel_rfl) rfl rfl ?_
   intro K hK
   go_wp2_with (go_at_call 42;refine (fN ks ns labWrap ms _ _ HKL.out HNL.out HKB.out HNB.out aL HMB.out (by decide) (by rw [HML.out];omega) _ HW.out (aE (hm.get 1 rfl) HML.out (Nat.le_refl _))).mono ?_;rintro e wx ⟨v9,he,ho,hb⟩;subst he;rw [HSS.out ()] at ho;have hmT:=hm.call hb;obtain ⟨gs,cap,l,hv,hc,hm2⟩:=Mem.adoptO hmT (OwnB.mono ho hm.size) (HTY.out _ _ _) (by rw [HXL.out];omega);rw [HXL.out] at hv hc;subst hv;clear ho hb hm)
   refine hK _ _ hmT ?_
   clear hK K
   refine aG 8 (v:=.slice (some ⟨gs,0,none⟩) 48 cap) rfl (by kernel_rfl) rfl (fun W _=>by go_simp) hmT ?_
   go_simp
   refine wpAnyH_done (by kernel_rfl) ?_ _
   simp only [endsIn]
   clear hmT
   have hm:=hm2
   clear hm2
   go_wp2_with (first
    | ((with_reducible refine ab (some 10) (.alloc 47) ?_);refine af _ eE hm ?_;clear hm;intro w5 g10 hm))
   go_loopw [11] (fun vi wr=>∃i:Nat,i≤48∧vi=.int .i64 i∧Mem w [] wr ((g10,u8s (cpTo 48 X i),47)::[(gs,u8s X++l,5),(g8,u8s (List.replicate 48 0),47),(g7,u8s ms,39),(g4,u8s ks,39)])) (fun vi _=>48 - (intOf vi).toNat)
   case atStart=>exact ⟨0,by omega,rfl,by rw [dy];exact hm⟩
   case round =>
    clear hm
    obtain ⟨i,hi,rfl,hm⟩:=hrel
    by_cases hlt:i<48
    ·have hii:(i:Int)<48:=by omega
     obtain ⟨x,hx⟩:∃x,x=X.getD i 0:=⟨_,rfl⟩
     have HVX:Hid ((u8s X++l)[i]?=some (.int .u8 x)):=by show _=_;rw [List.getElem?_append_left (by rw [HXU.out];omega),bB _ _ (by rw [HXL.out];omega),hx]
     have HST:Hid ((u8s (cpTo 48 X i)).set i (.int .u8 x)=u8s (cpTo 48 X (i+1))):=by show _=_;rw [bf,hx,eb 48 X HXL.out i hlt]
     have HLN:Hid (i<(u8s (cpTo 48 X i)).length):=by show _<_;rw [aa,cG 48 X HXL.out i hi];exact hlt
     clear hx
     go_wp2_with (first
      | ((with_reducible refine ab (some 28) (.load 5 (.tmp 27)) ?_);refine aK 1 i (.int .u8 x) hm rfl rfl cV (HVX.out) ?_)
      | ((with_reducible refine ab none (.store 5 (.tmp 29) (.tmp 28)) ?_);go_must (refine aD 0 i (.int .u8 x) hm rfl rfl (rfl) aC (HLN.out) rfl rfl ?_);clear hm;intro wq hm))
     rw [List.set_cons_zero,HST.out] at hm
     go_roundw
     case rel=>exact ⟨i+1,by omega,by go_num,hm⟩
     case measure=>simp [intOf];omega
    ·have hin:i=48:=by omega
     subst hin
     rw [dA 48 X HXL.out] at hm
     go_wp2_with (first
      | ((with_reducible refine ab (some 30) (.load 47 (.tmp 10)) ?_);refine aw 0 hm rfl rfl _ cw rfl 48 b7 (HXU.out) ?_)
      | ((with_reducible refine ab none (.store 47 (.tmp 8) (.tmp 30)) ?_);refine ah 2 (u8s X) hm rfl rfl rfl 48 b7 (by simp [aa]) (HXU.out) (aj _) ?_;clear hm;intro wr2 hm))
     exact aA 2 hm rfl Tryz.results21 rfl _ cw rfl 48 b7 HXU.out rfl ⟨by rw [HXX.out ()],hm.below⟩
theorem j2 (ks xs Z:List Int) (p n:Int) (hkl:ks.length=32) (hxl:xs.length=48) (hkb:Bytes ks) (hxb:Bytes xs) (hp:0≤p∧p<4294967296) (hf:xs.drop 32=tagOf ks (nonceOf p n) labWrap (xs.take 32)) (hz:Z=encOf ks (nonceOf p n) (xs.take 32)) (w:World) :
  Calls Tryz.prog 22 #[.agg (u8s ks).toArray,.int .u32 p,.int .u64 n,.agg (u8s xs).toArray] w fun e w'=>e=.returned (.tuple #[.agg (u8s Z).toArray,.bool true])∧Below w.heap.size w w':=by
 have hm:=Mem.start w
 have HKL:Hid _:=hkl
 have HKB:Hid _:=hkb
 have HP:Hid (0≤p∧p<4294967296):=hp
 have HKU:Hid ((u8s ks).length=32):=by show _=_;rw [aa];exact hkl
 obtain ⟨ns,hns⟩:∃ns,ns=nonceOf p n:=⟨_,rfl⟩
 have HNN:Hid (∀_:Unit,nonceOf p n=ns):=fun _=>hns.symm
 have HNL:Hid (ns.length=12):=by show _=_;rw [hns,bO]
 have HNB:Hid (Bytes ns):=by rw [hns];exact cQ _ _
 have HXL:Hid (xs.length=48):=hxl
 have HXB:Hid _:=hxb
 rw [←hns] at hf hz
 have HF:Hid (∀_:Unit,_):=fun _=>hf
 have HZZ:Hid (∀_:Unit,encOf ks ns (xs.take 32)=Z):=fun _=>hz.symm
 have HZL:Hid (Z.length=32):=by show _=_;rw [hz,b5,List.length_take,hxl];rfl
 have HZU:Hid ((u8s Z).length=32):=by show _=_;rw [aa];exact HZL.out
 have hty:∀(a b c:Nat),∀r∈[(a,u8s (List.replicate 32 0),(39:TypeId)),(b,u8s xs,(47:TypeId)),(c,u8s ks,(39:TypeId))],r.2.2≠5:=by
  intro a b c r hr
  simp only [List.mem_cons,List.not_mem_nil,or_false] at hr
  rcases hr with rfl|rfl|rfl<;>simp
 have HTY:Hid _:=hty
 clear hty
 clear hkl hxl hkb hxb hp hns hf hz
 go_enter Tryz.func22,Tryz.ntmps22
 go_wp2_with (first
  | ((with_reducible refine ab (some 4) (.box 39 (.tmp 0)) ?_);refine au (u8s ks) rfl hm ?_;clear hm;intro w1 g4 hm)
  | ((with_reducible refine ab (some 7) (.box 47 (.tmp 3)) ?_);refine au (u8s xs) rfl hm ?_;clear hm;intro w2 g7 hm)
  | ((with_reducible refine ab (some 8) (.alloc 39) ?_);refine af _ aM hm ?_;clear hm;intro w3 g8 hm))
 refine ax ?_
 refine az (T:=fun W=>Mem w [] W [(g8,u8s (List.replicate 32 0),39),(g7,u8s xs,47),(g4,u8s ks,39)]) (by kernel_rfl) hm ?_
 clear hm
 intro w4 hm
 refine aG 0 (v:=.agg (u8s ks).toArray) rfl (by kernel_rfl) rfl (fun W hW=>ao 0 _ (Mem.get hW 2 rfl) rfl _ ar rfl 32 am (by rw [HKU.out];omega) (by rw [List.drop_zero,List.take_of_length_le (Nat.le_of_eq HKU.out)])) hm ?_
 go_simp
 refine aG 1 (v:=.int .u32 p) rfl (by kernel_rfl) rfl (fun W _=>by go_simp) hm ?_
 go_simp
 refine aG 2 (v:=.int .u64 n) rfl (by kernel_rfl) rfl (fun W _=>by go_simp) hm ?_
 go_simp
 refine aG 6 (v:=.slice (some ⟨g7,0,none⟩) 48 48) rfl (by kernel_rfl) rfl (fun W _=>by go_simp) hm ?_
 go_simp
 refine wpAnyH_all (rs:=[3,4]) (by kernel_rfl) (by simp) ?_
 intro i hi
 simp only [List.mem_cons,List.not_mem_nil,or_false] at hi
 rcases hi with rfl|rfl
 ·refine ay 3 rfl rfl ?_
  intro K hK
  go_wp2_with (go_at_call 43;refine (bZ p n HP.out _).mono ?_;rintro e wn ⟨he,hb⟩;rw [HNN.out ()] at he;subst he;replace hm:=hm.call hb;clear hb)
  refine hK _ _ hm ?_
  clear hK K
  refine aP 4 (by kernel_rfl) rfl rfl ?_
  intro K hK
  refine cN av bw hm ?_
  clear hm
  intro wl gl hm hb
  clear hb
  refine wpList_nil ?_
  refine hK _ _ hm.tail ?_
  clear hK K
  refine aP 5 (by kernel_rfl) rfl rfl ?_
  intro K hK
  refine cq labWrap rfl av aZ rfl rfl hm ?_
  clear hm
  intro wv hm hs
  have HW:Hid (SlOld wv (.slice (some ⟨gl,0,none⟩) 4 4) labWrap):=hs
  clear hs
  refine wpList_nil ?_
  refine hK _ _ hm ?_
  clear hK K
  refine aP 7 (by kernel_rfl) rfl rfl ?_
  intro K hK
  go_wp2_with (go_at_call 44;refine (fp ks ns labWrap xs _ _ 0 48 32 HXL.out (by omega) (HF.out ()) HKL.out HNL.out HKB.out HNB.out aL HXB.out (by decide) (by rw [HXL.out];omega) _ HW.out (Seg.row (hm.get 1 rfl))).mono ?_;rintro e wx ⟨v9,he,ho,hb⟩;rw [HZZ.out ()] at ho;have hmT:=hm.call hb;obtain ⟨gz,cap,l,hv,hc,hm2⟩:=Mem.adoptO hmT (OwnB.mono ho hm.size) (HTY.out _ _ _) (by rw [HZL.out];omega);rw [HZL.out] at hv hc;subst hv;subst he;clear ho hb hm)
  refine hK _ _ hmT ?_
  clear hK K
  refine aG 8 (v:=.tuple #[.slice (some ⟨gz,0,none⟩) 32 cap,.int .i64 0]) rfl (by kernel_rfl) rfl (fun W _=>by go_simp) hmT ?_
  go_simp
  refine aG 9 (v:=.slice (some ⟨gz,0,none⟩) 32 cap) rfl (by kernel_rfl) rfl (fun W _=>by go_simp) hmT ?_
  go_simp
  refine aG 10 (v:=.int .i64 0) rfl (by kernel_rfl) rfl (fun W _=>by go_simp) hmT ?_
  go_simp
  refine aG 11 (v:=.slice (some ⟨gz,0,none⟩) 32 cap) rfl (by kernel_rfl) rfl (fun W _=>by go_simp) hmT ?_
  go_simp
  refine aG 12 (v:=.int .i64 0) rfl (by kernel_rfl) rfl (fun W _=>by go_simp) hmT ?_
  go_simp
  refine wpAnyH_done (by kernel_rfl) ?_ _
  simp only [endsIn]
  clear hmT
  have hm:=hm2
  clear hm2
  go_wp2_with (first
   | ((with_reducible refine ab (some 12) (.alloc 39) ?_);refine af _ aM hm ?_;clear hm;intro w5 g12 hm))
  go_loopw [13] (fun vi wr=>∃i:Nat,i≤32∧vi=.int .i64 i∧Mem w [] wr ((g12,u8s (cpTo 32 Z i),39)::[(gz,u8s Z++l,5),(g8,u8s (List.replicate 32 0),39),(g7,u8s xs,47),(g4,u8s ks,39)])) (fun vi _=>32 - (intOf vi).toNat)
  case atStart=>exact ⟨0,by omega,rfl,by rw [dy];exact hm⟩
  case round =>
   clear hm
   obtain ⟨i,hi,rfl,hm⟩:=hrel
   by_cases hlt:i<32
   ·have hii:(i:Int)<32:=by omega
    obtain ⟨x,hx⟩:∃x,x=Z.getD i 0:=⟨_,rfl⟩
    have HVX:Hid ((u8s Z++l)[i]?=some (.int .u8 x)):=by show _=_;rw [List.getElem?_append_left (by rw [HZU.out];omega),bB _ _ (by rw [HZL.out];omega),hx]
    have HST:Hid ((u8s (cpTo 32 Z i)).set i (.int .u8 x)=u8s (cpTo 32 Z (i+1))):=by show _=_;rw [bf,hx,eb 32 Z HZL.out i hlt]
    have HLN:Hid (i<(u8s (cpTo 32 Z i)).length):=by show _<_;rw [aa,cG 32 Z HZL.out i hi];exact hlt
    clear hx
    go_wp2_with (first
     | ((with_reducible refine ab (some 37) (.load 5 (.tmp 36)) ?_);refine aK 1 i (.int .u8 x) hm rfl rfl cV (HVX.out) ?_)
     | ((with_reducible refine ab none (.store 5 (.tmp 38) (.tmp 37)) ?_);go_must (refine aD 0 i (.int .u8 x) hm rfl rfl (rfl) aC (HLN.out) rfl rfl ?_);clear hm;intro wq hm))
    rw [List.set_cons_zero,HST.out] at hm
    go_roundw
    case rel=>exact ⟨i+1,by omega,by go_num,hm⟩
    case measure=>simp [intOf];omega
   ·have hin:i=32:=by omega
    subst hin
    rw [dA 32 Z HZL.out] at hm
    go_wp2_with (first
     | ((with_reducible refine ab (some 39) (.load 39 (.tmp 12)) ?_);refine aw 0 hm rfl rfl _ ar rfl 32 am (HZU.out) ?_)
     | ((with_reducible refine ab none (.store 39 (.tmp 8) (.tmp 39)) ?_);refine ah 2 (u8s Z) hm rfl rfl rfl 32 am (by simp [aa]) (HZU.out) (aj _) ?_;clear hm;intro wr2 hm))
    exact cU 2 _ hm rfl Tryz.results22 rfl rfl _ ar rfl 32 am HZU.out rfl ⟨rfl,hm.below⟩
 ·refine ay 4 rfl rfl ?_
  intro K hK
  refine cN av bw hm ?_
  clear hm
  intro wl gl hm hb
  clear hb
  refine wpList_nil ?_
  refine hK _ _ hm.tail ?_
  clear hK K
  refine wpAnyH_all (rs:=[3,5]) (by kernel_rfl) (by simp) ?_
  intro i hi
  simp only [List.mem_cons,List.not_mem_nil,or_false] at hi
  rcases hi with rfl|rfl
  ·refine ay 3 rfl rfl ?_
   intro K hK
   go_wp2_with (go_at_call 43;refine (bZ p n HP.out _).mono ?_;rintro e wn ⟨he,hb⟩;rw [HNN.out ()] at he;subst he;replace hm:=hm.call hb;clear hb)
   refine hK _ _ hm.tail ?_
   clear hK K
   refine aP 5 (by kernel_rfl) rfl rfl ?_
   intro K hK
   refine cq labWrap rfl av aZ rfl rfl hm ?_
   clear hm
   intro wv hm hs
   have HW:Hid (SlOld wv (.slice (some ⟨gl,0,none⟩) 4 4) labWrap):=hs
   clear hs
   refine wpList_nil ?_
   refine hK _ _ hm ?_
   clear hK K
   refine aP 7 (by kernel_rfl) rfl rfl ?_
   intro K hK
   go_wp2_with (go_at_call 44;refine (fp ks ns labWrap xs _ _ 0 48 32 HXL.out (by omega) (HF.out ()) HKL.out HNL.out HKB.out HNB.out aL HXB.out (by decide) (by rw [HXL.out];omega) _ HW.out (Seg.row (hm.get 1 rfl))).mono ?_;rintro e wx ⟨v9,he,ho,hb⟩;rw [HZZ.out ()] at ho;have hmT:=hm.call hb;obtain ⟨gz,cap,l,hv,hc,hm2⟩:=Mem.adoptO hmT (OwnB.mono ho hm.size) (HTY.out _ _ _) (by rw [HZL.out];omega);rw [HZL.out] at hv hc;subst hv;subst he;clear ho hb hm)
   refine hK _ _ hmT ?_
   clear hK K
   refine aG 8 (v:=.tuple #[.slice (some ⟨gz,0,none⟩) 32 cap,.int .i64 0]) rfl (by kernel_rfl) rfl (fun W _=>by go_simp) hmT ?_
   go_simp
   refine aG 9 (v:=.slice (some ⟨gz,0,none⟩) 32 cap) rfl (by kernel_rfl) rfl (fun W _=>by go_simp) hmT ?_
   go_simp
   refine aG 10 (v:=.int .i64 0) rfl (by kernel_rfl) rfl (fun W _=>by go_simp) hmT ?_
   go_simp
   refine aG 11 (v:=.slice (some ⟨gz,0,none⟩) 32 cap) rfl (by kernel_rfl) rfl (fun W _=>by go_simp) hmT ?_
   go_simp
   refine aG 12 (v:=.int .i64 0) rfl (by kernel_rfl) rfl (fun W _=>by go_simp) hmT ?_
   go_simp
   refine wpAnyH_done (by kernel_rfl) ?_ _
   simp only [endsIn]
   clear hmT
   have hm:=hm2
   clear hm2
   go_wp2_with (first
    | ((with_reducible refine ab (some 12) (.alloc 39) ?_);refine af _ aM hm ?_;clear hm;intro w5 g12 hm))
   go_loopw [13] (fun vi wr=>∃i:Nat,i≤32∧vi=.int .i64 i∧Mem w [] wr ((g12,u8s (cpTo 32 Z i),39)::[(gz,u8s Z++l,5),(g8,u8s (List.replicate 32 0),39),(g7,u8s xs,47),(g4,u8s ks,39)])) (fun vi _=>32 - (intOf vi).toNat)
   case atStart=>exact ⟨0,by omega,rfl,by rw [dy];exact hm⟩
   case round =>
    clear hm
    obtain ⟨i,hi,rfl,hm⟩:=hrel
    by_cases hlt:i<32
    ·have hii:(i:Int)<32:=by omega
     obtain ⟨x,hx⟩:∃x,x=Z.getD i 0:=⟨_,rfl⟩
     have HVX:Hid ((u8s Z++l)[i]?=some (.int .u8 x)):=by show _=_;rw [List.getElem?_append_left (by rw [HZU.out];omega),bB _ _ (by rw [HZL.out];omega),hx]
     have HST:Hid ((u8s (cpTo 32 Z i)).set i (.int .u8 x)=u8s (cpTo 32 Z (i+1))):=by show _=_;rw [bf,hx,eb 32 Z HZL.out i hlt]
     have HLN:Hid (i<(u8s (cpTo 32 Z i)).length):=by show _<_;rw [aa,cG 32 Z HZL.out i hi];exact hlt
     clear hx
     go_wp2_with (first
      | ((with_reducible refine ab (some 37) (.load 5 (.tmp 36)) ?_);refine aK 1 i (.int .u8 x) hm rfl rfl cV (HVX.out) ?_)
      | ((with_reducible refine ab none (.store 5 (.tmp 38) (.tmp 37)) ?_);go_must (refine aD 0 i (.int .u8 x) hm rfl rfl (rfl) aC (HLN.out) rfl rfl ?_);clear hm;intro wq hm))
     rw [List.set_cons_zero,HST.out] at hm
     go_roundw
     case rel=>exact ⟨i+1,by omega,by go_num,hm⟩
     case measure=>simp [intOf];omega
    ·have hin:i=32:=by omega
     subst hin
     rw [dA 32 Z HZL.out] at hm
     go_wp2_with (first
      | ((with_reducible refine ab (some 39) (.load 39 (.tmp 12)) ?_);refine aw 0 hm rfl rfl _ ar rfl 32 am (HZU.out) ?_)
      | ((with_reducible refine ab none (.store 39 (.tmp 8) (.tmp 39)) ?_);refine ah 2 (u8s Z) hm rfl rfl rfl 32 am (by simp [aa]) (HZU.out) (aj _) ?_;clear hm;intro wr2 hm))
     exact cU 2 _ hm rfl Tryz.results22 rfl rfl _ ar rfl 32 am HZU.out rfl ⟨rfl,hm.below⟩
  ·refine ay 5 rfl rfl ?_
   intro K hK
   refine cq labWrap rfl av aZ rfl rfl hm ?_
   clear hm
   intro wv hm hs
   have HW:Hid (SlOld wv (.slice (some ⟨gl,0,none⟩) 4 4) labWrap):=hs
   clear hs
   refine wpList_nil ?_
   refine hK _ _ hm ?_
   clear hK K
   refine aP 3 (by kernel_rfl) rfl rfl ?_
   intro K hK
   go_wp2_with (go_at_call 43;refine (bZ p n HP.out _).mono ?_;rintro e wn ⟨he,hb⟩;rw [HNN.out ()] at he;subst he;have HW':Hid (SlOld wn (.slice (some ⟨gl,0,none⟩) 4 4) labWrap):=SlOld.below HW.out hb;clear HW;have HW:=HW';replace hm:=hm.call hb;clear hb)
   refine hK _ _ hm ?_
   clear hK K
   refine aP 7 (by kernel_rfl) rfl rfl ?_
   intro K hK
   go_wp2_with (go_at_call 44;refine (fp ks ns labWrap xs _ _ 0 48 32 HXL.out (by omega) (HF.out ()) HKL.out HNL.out HKB.out HNB.out aL HXB.out (by decide) (by rw [HXL.out];omega) _ HW.out (Seg.row (hm.get 1 rfl))).mono ?_;rintro e wx ⟨v9,he,ho,hb⟩;rw [HZZ.out ()] at ho;have hmT:=hm.call hb;obtain ⟨gz,cap,l,hv,hc,hm2⟩:=Mem.adoptO hmT (OwnB.mono ho hm.size) (HTY.out _ _ _) (by rw [HZL.out];omega);rw [HZL.out] at hv hc;subst hv;subst he;clear ho hb hm)
   refine hK _ _ hmT ?_
   clear hK K
   refine aG 8 (v:=.tuple #[.slice (some ⟨gz,0,none⟩) 32 cap,.int .i64 0]) rfl (by kernel_rfl) rfl (fun W _=>by go_simp) hmT ?_
   go_simp
   refine aG 9 (v:=.slice (some ⟨gz,0,none⟩) 32 cap) rfl (by kernel_rfl) rfl (fun W _=>by go_simp) hmT ?_
   go_simp
   refine aG 10 (v:=.int .i64 0) rfl (by kernel_rfl) rfl (fun W _=>by go_simp) hmT ?_
   go_simp
   refine aG 11 (v:=.slice (some ⟨gz,0,none⟩) 32 cap) rfl (by kernel_rfl) rfl (fun W _=>by go_simp) hmT ?_
   go_simp
   refine aG 12 (v:=.int .i64 0) rfl (by kernel_rfl) rfl (fun W _=>by go_simp) hmT ?_
   go_simp
   refine wpAnyH_done (by kernel_rfl) ?_ _
   simp only [endsIn]
   clear hmT
   have hm:=hm2
   clear hm2
   go_wp2_with (first
    | ((with_reducible refine ab (some 12) (.alloc 39) ?_);refine af _ aM hm ?_;clear hm;intro w5 g12 hm))
   go_loopw [13] (fun vi wr=>∃i:Nat,i≤32∧vi=.int .i64 i∧Mem w [] wr ((g12,u8s (cpTo 32 Z i),39)::[(gz,u8s Z++l,5),(g8,u8s (List.replicate 32 0),39),(g7,u8s xs,47),(g4,u8s ks,39)])) (fun vi _=>32 - (intOf vi).toNat)
   case atStart=>exact ⟨0,by omega,rfl,by rw [dy];exact hm⟩
   case round =>
    clear hm
    obtain ⟨i,hi,rfl,hm⟩:=hrel
    by_cases hlt:i<32
    ·have hii:(i:Int)<32:=by omega
     obtain ⟨x,hx⟩:∃x,x=Z.getD i 0:=⟨_,rfl⟩
     have HVX:Hid ((u8s Z++l)[i]?=some (.int .u8 x)):=by show _=_;rw [List.getElem?_append_left (by rw [HZU.out];omega),bB _ _ (by rw [HZL.out];omega),hx]
     have HST:Hid ((u8s (cpTo 32 Z i)).set i (.int .u8 x)=u8s (cpTo 32 Z (i+1))):=by show _=_;rw [bf,hx,eb 32 Z HZL.out i hlt]
     have HLN:Hid (i<(u8s (cpTo 32 Z i)).length):=by show _<_;rw [aa,cG 32 Z HZL.out i hi];exact hlt
     clear hx
     go_wp2_with (first
      | ((with_reducible refine ab (some 37) (.load 5 (.tmp 36)) ?_);refine aK 1 i (.int .u8 x) hm rfl rfl cV (HVX.out) ?_)
      | ((with_reducible refine ab none (.store 5 (.tmp 38) (.tmp 37)) ?_);go_must (refine aD 0 i (.int .u8 x) hm rfl rfl (rfl) aC (HLN.out) rfl rfl ?_);clear hm;intro wq hm))
     rw [List.set_cons_zero,HST.out] at hm
     go_roundw
     case rel=>exact ⟨i+1,by omega,by go_num,hm⟩
     case measure=>simp [intOf];omega
    ·have hin:i=32:=by omega
     subst hin
     rw [dA 32 Z HZL.out] at hm
     go_wp2_with (first
      | ((with_reducible refine ab (some 39) (.load 39 (.tmp 12)) ?_);refine aw 0 hm rfl rfl _ ar rfl 32 am (HZU.out) ?_)
      | ((with_reducible refine ab none (.store 39 (.tmp 8) (.tmp 39)) ?_);refine ah 2 (u8s Z) hm rfl rfl rfl 32 am (by simp [aa]) (HZU.out) (aj _) ?_;clear hm;intro wr2 hm))
     exact cU 2 _ hm rfl Tryz.results22 rfl rfl _ ar rfl 32 am HZU.out rfl ⟨rfl,hm.below⟩
theorem kq (ks xs:List Int) (p n:Int) (hkl:ks.length=32) (hxl:xs.length=48) (hkb:Bytes ks) (hxb:Bytes xs) (hp:0≤p∧p<4294967296) (hf:xs.drop 32≠tagOf ks (nonceOf p n) labWrap (xs.take 32)) (w:World) :
  Calls Tryz.prog 22 #[.agg (u8s ks).toArray,.int .u32 p,.int .u64 n,.agg (u8s xs).toArray] w fun e w'=>e=.returned (.tuple #[.agg (u8s (List.replicate 32 0)).toArray,.bool false])∧Below w.heap.size w w':=by
 have hm:=Mem.start w
 have HKL:Hid _:=hkl
 have HKB:Hid _:=hkb
 have HP:Hid (0≤p∧p<4294967296):=hp
 have HKU:Hid ((u8s ks).length=32):=by show _=_;rw [aa];exact hkl
 obtain ⟨ns,hns⟩:∃ns,ns=nonceOf p n:=⟨_,rfl⟩
 have HNN:Hid (∀_:Unit,nonceOf p n=ns):=fun _=>hns.symm
 have HNL:Hid (ns.length=12):=by show _=_;rw [hns,bO]
 have HNB:Hid (Bytes ns):=by rw [hns];exact cQ _ _
 have HXL:Hid (xs.length=48):=hxl
 have HXB:Hid _:=hxb
 rw [←hns] at hf
 have HF:Hid (∀_:Unit,_):=fun _=>hf
 clear hkl hxl hkb hxb hp hns hf
 go_enter Tryz.func22,Tryz.ntmps22
 go_wp2_with (first
  | ((with_reducible refine ab (some 4) (.box 39 (.tmp 0)) ?_);refine au (u8s ks) rfl hm ?_;clear hm;intro w1 g4 hm)
  | ((with_reducible refine ab (some 7) (.box 47 (.tmp 3)) ?_);refine au (u8s xs) rfl hm ?_;clear hm;intro w2 g7 hm)
  | ((with_reducible refine ab (some 8) (.alloc 39) ?_);refine af _ aM hm ?_;clear hm;intro w3 g8 hm))
 refine ax ?_
 refine az (T:=fun W=>Mem w [] W [(g8,u8s (List.replicate 32 0),39),(g7,u8s xs,47),(g4,u8s ks,39)]) (by kernel_rfl) hm ?_
 clear hm
 intro w4 hm
 refine aG 0 (v:=.agg (u8s ks).toArray) rfl (by kernel_rfl) rfl (fun W hW=>ao 0 _ (Mem.get hW 2 rfl) rfl _ ar rfl 32 am (by rw [HKU.out];omega) (by rw [List.drop_zero,List.take_of_length_le (Nat.le_of_eq HKU.out)])) hm ?_
 go_simp
 refine aG 1 (v:=.int .u32 p) rfl (by kernel_rfl) rfl (fun W _=>by go_simp) hm ?_
 go_simp
 refine aG 2 (v:=.int .u64 n) rfl (by kernel_rfl) rfl (fun W _=>by go_simp) hm ?_
 go_simp
 refine aG 6 (v:=.slice (some ⟨g7,0,none⟩) 48 48) rfl (by kernel_rfl) rfl (fun W _=>by go_simp) hm ?_
 go_simp
 refine wpAnyH_all (rs:=[3,4]) (by kernel_rfl) (by simp) ?_
 intro i hi
 simp only [List.mem_cons,List.not_mem_nil,or_false] at hi
 rcases hi with rfl|rfl
 ·refine ay 3 rfl rfl ?_
  intro K hK
  go_wp2_with (go_at_call 43;refine (bZ p n HP.out _).mono ?_;rintro e wn ⟨he,hb⟩;rw [HNN.out ()] at he;subst he;replace hm:=hm.call hb;clear hb)
  refine hK _ _ hm ?_
  clear hK K
  refine aP 4 (by kernel_rfl) rfl rfl ?_
  intro K hK
  refine cN av bw hm ?_
  clear hm
  intro wl gl hm hb
  clear hb
  refine wpList_nil ?_
  refine hK _ _ hm.tail ?_
  clear hK K
  refine aP 5 (by kernel_rfl) rfl rfl ?_
  intro K hK
  refine cq labWrap rfl av aZ rfl rfl hm ?_
  clear hm
  intro wv hm hs
  have HW:Hid (SlOld wv (.slice (some ⟨gl,0,none⟩) 4 4) labWrap):=hs
  clear hs
  refine wpList_nil ?_
  refine hK _ _ hm ?_
  clear hK K
  refine aP 7 (by kernel_rfl) rfl rfl ?_
  intro K hK
  go_wp2_with (go_at_call 44;refine (fI ks ns labWrap xs _ _ 0 48 32 HXL.out (by omega) (HF.out ()) HKL.out HNL.out HKB.out HNB.out aL HXB.out (by decide) (by rw [HXL.out];omega) _ HW.out (Seg.row (hm.get 1 rfl))).mono ?_;rintro e wx ⟨he,hb⟩;subst he;replace hm:=hm.call hb;clear hb)
  refine hK _ _ hm ?_
  clear hK K
  refine aG 8 (v:=.tuple #[.slice none 0 0,.int .i64 50]) rfl (by kernel_rfl) rfl (fun W _=>by go_simp) hm ?_
  go_simp
  refine aG 9 (v:=.slice none 0 0) rfl (by kernel_rfl) rfl (fun W _=>by go_simp) hm ?_
  go_simp
  refine aG 10 (v:=.int .i64 50) rfl (by kernel_rfl) rfl (fun W _=>by go_simp) hm ?_
  go_simp
  refine aG 11 (v:=.slice none 0 0) rfl (by kernel_rfl) rfl (fun W _=>by go_simp) hm ?_
  go_simp
  refine aG 12 (v:=.int .i64 50) rfl (by kernel_rfl) rfl (fun W _=>by go_simp) hm ?_
  go_simp
  refine wpAnyH_done (by kernel_rfl) ?_ _
  simp only [endsIn]
  go_wp2_with (first
   | ((with_reducible refine ab (some 12) (.alloc 39) ?_);refine af _ aM hm ?_;clear hm;intro w5 g12 hm))
  refine wp_loop_rounds 1 ?_
  rw [rounds_succ]
  go_wp2_with (first
   | ((with_reducible refine ab (some 39) (.load 39 (.tmp 12)) ?_);refine aw 0 hm rfl rfl _ ar rfl 32 am (by simp [aa]) ?_)
   | ((with_reducible refine ab none (.store 39 (.tmp 8) (.tmp 39)) ?_);refine ah 1 (u8s (List.replicate 32 0)) hm rfl rfl rfl 32 am (by simp [aa]) (by simp [aa]) (aj _) ?_;clear hm;intro wr2 hm))
  exact cU 1 _ hm rfl Tryz.results22 rfl rfl _ ar rfl 32 am (by simp [aa]) rfl ⟨rfl,hm.below⟩
 ·refine ay 4 rfl rfl ?_
  intro K hK
  refine cN av bw hm ?_
  clear hm
  intro wl gl hm hb
  clear hb
  refine wpList_nil ?_
  refine hK _ _ hm.tail ?_
  clear hK K
  refine wpAnyH_all (rs:=[3,5]) (by kernel_rfl) (by simp) ?_
  intro i hi
  simp only [List.mem_cons,List.not_mem_nil,or_false] at hi
  rcases hi with rfl|rfl
  ·refine ay 3 rfl rfl ?_
   intro K hK
   go_wp2_with (go_at_call 43;refine (bZ p n HP.out _).mono ?_;rintro e wn ⟨he,hb⟩;rw [HNN.out ()] at he;subst he;replace hm:=hm.call hb;clear hb)
   refine hK _ _ hm.tail ?_
   clear hK K
   refine aP 5 (by kernel_rfl) rfl rfl ?_
   intro K hK
   refine cq labWrap rfl av aZ rfl rfl hm ?_
   clear hm
   intro wv hm hs
   have HW:Hid (SlOld wv (.slice (some ⟨gl,0,none⟩) 4 4) labWrap):=hs
   clear hs
   refine wpList_nil ?_
   refine hK _ _ hm ?_
   clear hK K
   refine aP 7 (by kernel_rfl) rfl rfl ?_
   intro K hK
   go_wp2_with (go_at_call 44;refine (fI ks ns labWrap xs _ _ 0 48 32 HXL.out (by omega) (HF.out ()) HKL.out HNL.out HKB.out HNB.out aL HXB.out (by decide) (by rw [HXL.out];omega) _ HW.out (Seg.row (hm.get 1 rfl))).mono ?_;rintro e wx ⟨he,hb⟩;subst he;replace hm:=hm.call hb;clear hb)
   refine hK _ _ hm ?_
   clear hK K
   refine aG 8 (v:=.tuple #[.slice none 0 0,.int .i64 50]) rfl (by kernel_rfl) rfl (fun W _=>by go_simp) hm ?_
   go_simp
   refine aG 9 (v:=.slice none 0 0) rfl (by kernel_rfl) rfl (fun W _=>by go_simp) hm ?_
   go_simp
   refine aG 10 (v:=.int .i64 50) rfl (by kernel_rfl) rfl (fun W _=>by go_simp) hm ?_
   go_simp
   refine aG 11 (v:=.slice none 0 0) rfl (by kernel_rfl) rfl (fun W _=>by go_simp) hm ?_
   go_simp
   refine aG 12 (v:=.int .i64 50) rfl (by kernel_rfl) rfl (fun W _=>by go_simp) hm ?_
   go_simp
   refine wpAnyH_done (by kernel_rfl) ?_ _
   simp only [endsIn]
   go_wp2_with (first
    | ((with_reducible refine ab (some 12) (.alloc 39) ?_);refine af _ aM hm ?_;clear hm;intro w5 g12 hm))
   refine wp_loop_rounds 1 ?_
   rw [rounds_succ]
   go_wp2_with (first
    | ((with_reducible refine ab (some 39) (.load 39 (.tmp 12)) ?_);refine aw 0 hm rfl rfl _ ar rfl 32 am (by simp [aa]) ?_)
    | ((with_reducible refine ab none (.store 39 (.tmp 8) (.tmp 39)) ?_);refine ah 1 (u8s (List.replicate 32 0)) hm rfl rfl rfl 32 am (by simp [aa]) (by simp [aa]) (aj _) ?_;clear hm;intro wr2 hm))
   exact cU 1 _ hm rfl Tryz.results22 rfl rfl _ ar rfl 32 am (by simp [aa]) rfl ⟨rfl,hm.below⟩
  ·refine ay 5 rfl rfl ?_
   intro K hK
   refine cq labWrap rfl av aZ rfl rfl hm ?_
   clear hm
   intro wv hm hs
   have HW:Hid (SlOld wv (.slice (some ⟨gl,0,none⟩) 4 4) labWrap):=hs
   clear hs
   refine wpList_nil ?_
   refine hK _ _ hm ?_
   clear hK K
   refine aP 3 (by kernel_rfl) rfl rfl ?_
   intro K hK
   go_wp2_with (go_at_call 43;refine (bZ p n HP.out _).mono ?_;rintro e wn ⟨he,hb⟩;rw [HNN.out ()] at he;subst he;have HW':Hid (SlOld wn (.slice (some ⟨gl,0,none⟩) 4 4) labWrap):=SlOld.below HW.out hb;clear HW;have HW:=HW';replace hm:=hm.call hb;clear hb)
   refine hK _ _ hm ?_
   clear hK K
   refine aP 7 (by kernel_rfl) rfl rfl ?_
   intro K hK
   go_wp2_with (go_at_call 44;refine (fI ks ns labWrap xs _ _ 0 48 32 HXL.out (by omega) (HF.out ()) HKL.out HNL.out HKB.out HNB.out aL HXB.out (by decide) (by rw [HXL.out];omega) _ HW.out (Seg.row (hm.get 1 rfl))).mono ?_;rintro e wx ⟨he,hb⟩;subst he;replace hm:=hm.call hb;clear hb)
   refine hK _ _ hm ?_
   clear hK K
   refine aG 8 (v:=.tuple #[.slice none 0 0,.int .i64 50]) rfl (by kernel_rfl) rfl (fun W _=>by go_simp) hm ?_
   go_simp
   refine aG 9 (v:=.slice none 0 0) rfl (by kernel_rfl) rfl (fun W _=>by go_simp) hm ?_
   go_simp
   refine aG 10 (v:=.int .i64 50) rfl (by kernel_rfl) rfl (fun W _=>by go_simp) hm ?_
   go_simp
   refine aG 11 (v:=.slice none 0 0) rfl (by kernel_rfl) rfl (fun W _=>by go_simp) hm ?_
   go_simp
   refine aG 12 (v:=.int .i64 50) rfl (by kernel_rfl) rfl (fun W _=>by go_simp) hm ?_
   go_simp
   refine wpAnyH_done (by kernel_rfl) ?_ _
   simp only [endsIn]
   go_wp2_with (first
    | ((with_reducible refine ab (some 12) (.alloc 39) ?_);refine af _ aM hm ?_;clear hm;intro w5 g12 hm))
   refine wp_loop_rounds 1 ?_
   rw [rounds_succ]
   go_wp2_with (first
    | ((with_reducible refine ab (some 39) (.load 39 (.tmp 12)) ?_);refine aw 0 hm rfl rfl _ ar rfl 32 am (by simp [aa]) ?_)
    | ((with_reducible refine ab none (.store 39 (.tmp 8) (.tmp 39)) ?_);refine ah 1 (u8s (List.replicate 32 0)) hm rfl rfl rfl 32 am (by simp [aa]) (by simp [aa]) (aj _) ?_;clear hm;intro wr2 hm))
   exact cU 1 _ hm rfl Tryz.results22 rfl rfl _ ar rfl 32 am (by simp [aa]) rfl ⟨rfl,hm.below⟩
open Go Go.RowKit Go.Maps
section
variable {P:Program} {a:Act} {w:World} {dst:Option Tmp} {typ:TypeId} {pos:String} {aft:Array Edge} {gd:Option (Nat×Bool)}
theorem exec_slaS {ty:TypeId} {x:Operand} {lo hi:Option Operand} (n:Nat) {elem:TypeId} (hu:P.underlying ty=some (.array n elem)) (hs:(P.info? elem).map (·.size)=some 1) {g o:Nat} (l m:Nat) (hlm:l+m≤n) (hln:l<n) (hx:a.eval x=.pointer (some ⟨g,o,none⟩))
  (hlo:lo.map a.eval=some (.int .i64 l)∨(lo.map a.eval=none∧l=0)) (hhi:hi.map a.eval=some (.int .i64 (l+m:Nat))∨(hi.map a.eval=none∧l+m=n)) :
  (execOp a.eval {dst:=dst,op:=.slice ty x lo hi none,type:=typ,pos:=pos,after:=aft,guard:=gd}).run P w=.ok (.value (.slice (some ⟨g,o+l,none⟩) m (n - l))) w:=by
 have hr:=run_sla (P:=P) w hu hs g o l m hlm hln (lo.map a.eval) (hi.map a.eval) hlo hhi
 unfold execOp
 simp only [hx,Option.map_none,hr,Sem.run_bind,Sem.run_pure,Result.andThen_ok]
end
theorem piece_old {w:World} {q c i:Nat} {I:List Int} {r:List Value} {t:TypeId} (hr:Row w q (u8s I++r) t) (hi:i+48≤I.length) (hc:I.length≤c):SlOld w (.slice (some ⟨q,i,none⟩) 48 (c - i)) ((I.drop i).take 48):=by
 have hl:((I.drop i).take 48).length=48:=by simp;omega
 refine ⟨_,c - i,by rw [hl],by rw [hl];omega,fun _=>⟨q,i,rfl,fun j hj=>?_⟩⟩
 rw [hl] at hj
 rw [hr.cell,List.getElem?_append_left (by rw [aa];omega),bB I (i+j) (by omega)]
 congr 2
 simp [List.getD_eq_getElem?_getD,List.getElem?_drop,hj]
theorem find_any (I B:List Int) (r:List Value) (q c:Nat) (pb:Option Addr) (cb j L:Nat) (w:World) (hL:L=I.length) (hr:Row w q (u8s I++r) 5) (hc:L≤c) (hc2:L≤100000) (hb:SlOld w (.slice pb 48 cb) B) (hj:(I.drop j).take 48=B) (hjl:j+48≤L) :
  Calls Tryz.prog 23 #[.slice (some ⟨q,0,none⟩) L c,.slice pb 48 cb] w fun e w'=>∃m:Nat,e=.returned (.int .i64 (m:Int))∧Below w.heap.size w w':=by
 have HL:Hid (∀_:Unit,L=I.length):=fun _=>hL
 have HR:Hid (Row w q (u8s I++r) 5):=hr
 have HB:Hid (SlOld w (.slice pb 48 cb) B):=hb
 have HJ:Hid ((I.drop j).take 48=B):=hj
 have hm:=Mem.start w
 clear hL hr hb hj
 go_enter Tryz.func23,Tryz.ntmps23
 go_wp2_with fail
 go_loopw [5] (fun vi wr=>∃i:Nat,i≤j∧vi=.int .i64 (i:Int)∧Mem w [] wr []) (fun vi _=>j - (intOf vi).toNat)
 case atStart=>exact ⟨0,by omega,rfl,hm⟩
 case round =>
  clear hm
  obtain ⟨i,hi,rfl,hm⟩:=hrel
  have HA:IntKind.i64.wrap ((i:Int)+48)=(i:Int)+48:=wrapi _ (by omega) (by omega)
  have hle:(i:Int)+48≤(L:Int):=by omega
  cases hv:(strOf ((I.drop i).take 48)==strOf B) with
  | true =>
   have HV:Hid ((strOf ((I.drop i).take 48)==strOf B)=true):=hv
   clear hv
   go_wp2_with fail
   refine ax ?_
   refine aY (T:=fun W=>Mem w [] W []) (by kernel_rfl) hm ?_
   intro wz hbz hmz
   clear hm hbz
   have hm:=hmz
   have HTW:Hid (Mem w [] wz []):=hmz
   clear hmz
   refine aT 0 (v:=.slice (some ⟨q,0,none⟩) L c) rfl (by kernel_rfl) rfl (fun W _=>by go_simp) HTW.out ?_
   go_simp
   refine aT 1 (v:=.int .i64 (i:Int)) rfl (by kernel_rfl) rfl (fun W _=>by go_simp) HTW.out ?_
   go_simp
   refine aT 2 (v:=.int .i64 (i:Int)) rfl (by kernel_rfl) rfl (fun W _=>by go_simp) HTW.out ?_
   go_simp
   refine aT 3 (v:=.slice pb 48 cb) rfl (by kernel_rfl) rfl (fun W _=>by go_simp) HTW.out ?_
   go_simp
   refine aT 4 (v:=.int .i64 48) rfl (by kernel_rfl) rfl (fun W _=>by go_simp) HTW.out ?_
   go_simp
   refine aT 5 (v:=.int .i64 ((i:Int)+48)) rfl (by kernel_rfl) rfl (fun W _=>by go_simp) HTW.out ?_
   go_simp
   refine aT 6 (v:=.slice (some ⟨q,i,none⟩) 48 (c - i)) rfl (by kernel_rfl) rfl (fun W _=>fZ av aC i i 48 (by omega) (by omega) (by omega) rfl rfl rfl rfl (by omega)) HTW.out ?_
   go_simp
   refine aT 7 (v:=.string (strOf ((I.drop i).take 48))) rfl (by kernel_rfl) rfl (fun W hW=>bd av aZ bH _ rfl (SlOld.mem (piece_old HR.out (by have:=HL.out ();omega) (by have:=HL.out ();omega)) hW)) HTW.out ?_
   go_simp
   refine aT 8 (v:=.slice pb 48 cb) rfl (by kernel_rfl) rfl (fun W _=>by go_simp) HTW.out ?_
   go_simp
   refine aT 9 (v:=.string (strOf B)) rfl (by kernel_rfl) rfl (fun W hW=>bd av aZ bH _ rfl (SlOld.mem HB.out hW)) HTW.out ?_
   go_simp
   refine aT 10 (v:=.bool true) rfl (by kernel_rfl) rfl (fun W _=>exec_eqsB _ _ true rfl rfl HV.out) HTW.out ?_
   go_simp
   refine wpAnyH_done (by kernel_rfl) ?_ _
   simp only [endsIn]
   clear HTW
   go_wp2_with fail
   go_ret
   exact ⟨i,rfl,hm.below⟩
  | false =>
   have HV:Hid ((strOf ((I.drop i).take 48)==strOf B)=false):=hv
   have hij:i<j:=by
    rcases Nat.lt_or_ge i j with h|h
    ·exact h
    ·have e:i=j:=by omega
     rw [e,HJ.out,dB] at hv
     cases hv
   clear hv
   go_wp2_with fail
   refine ax ?_
   refine aY (T:=fun W=>Mem w [] W []) (by kernel_rfl) hm ?_
   intro wz hbz hmz
   clear hm hbz
   have hm:=hmz
   have HTW:Hid (Mem w [] wz []):=hmz
   clear hmz
   refine aT 0 (v:=.slice (some ⟨q,0,none⟩) L c) rfl (by kernel_rfl) rfl (fun W _=>by go_simp) HTW.out ?_
   go_simp
   refine aT 1 (v:=.int .i64 (i:Int)) rfl (by kernel_rfl) rfl (fun W _=>by go_simp) HTW.out ?_
   go_simp
   refine aT 2 (v:=.int .i64 (i:Int)) rfl (by kernel_rfl) rfl (fun W _=>by go_simp) HTW.out ?_
   go_simp
   refine aT 3 (v:=.slice pb 48 cb) rfl (by kernel_rfl) rfl (fun W _=>by go_simp) HTW.out ?_
   go_simp
   refine aT 4 (v:=.int .i64 48) rfl (by kernel_rfl) rfl (fun W _=>by go_simp) HTW.out ?_
   go_simp
   refine aT 5 (v:=.int .i64 ((i:Int)+48)) rfl (by kernel_rfl) rfl (fun W _=>by go_simp) HTW.out ?_
   go_simp
   refine aT 6 (v:=.slice (some ⟨q,i,none⟩) 48 (c - i)) rfl (by kernel_rfl) rfl (fun W _=>fZ av aC i i 48 (by omega) (by omega) (by omega) rfl rfl rfl rfl (by omega)) HTW.out ?_
   go_simp
   refine aT 7 (v:=.string (strOf ((I.drop i).take 48))) rfl (by kernel_rfl) rfl (fun W hW=>bd av aZ bH _ rfl (SlOld.mem (piece_old HR.out (by have:=HL.out ();omega) (by have:=HL.out ();omega)) hW)) HTW.out ?_
   go_simp
   refine aT 8 (v:=.slice pb 48 cb) rfl (by kernel_rfl) rfl (fun W _=>by go_simp) HTW.out ?_
   go_simp
   refine aT 9 (v:=.string (strOf B)) rfl (by kernel_rfl) rfl (fun W hW=>bd av aZ bH _ rfl (SlOld.mem HB.out hW)) HTW.out ?_
   go_simp
   refine aT 10 (v:=.bool false) rfl (by kernel_rfl) rfl (fun W _=>exec_eqsB _ _ false rfl rfl HV.out) HTW.out ?_
   go_simp
   refine wpAnyH_done (by kernel_rfl) ?_ _
   simp only [endsIn]
   clear HTW
   go_wp2_with fail
   go_roundw
   case rel=>exact ⟨i+1,by omega,by go_num,hm⟩
   case measure=>simp [intOf];omega
theorem jy (ks:List Int) (k:Nat) (N:Ent) (p n:Int) (hp:p=(k:Int)) (hn:n=(N.1:Int)) (hkl:ks.length=32) (hkb:Bytes ks) (hxl:N.2.length=48) (hxb:Bytes N.2) (hk:k<24) (w:World) :
  Calls Tryz.prog 22 #[.agg (u8s ks).toArray,.int .u32 p,.int .u64 n,.agg (u8s N.2).toArray] w fun e w'=>e=.returned (.tuple #[.agg (u8s (unwV ks k N).1).toArray,.bool (decide ((unwV ks k N).2=0))])∧Below w.heap.size w w':=by
 subst hp hn
 unfold unwV
 cases h:unwOk ks k N with
 | true =>
  have hf:N.2.drop 32=tagOf ks (nonceOf (k:Int) (N.1:Int)) labWrap (N.2.take 32):=by unfold unwOk at h;simpa using h
  exact j2 ks N.2 _ (k:Int) (N.1:Int) hkl hxl hkb hxb ⟨by omega,by omega⟩ hf rfl w
 | false =>
  have hf:N.2.drop 32≠tagOf ks (nonceOf (k:Int) (N.1:Int)) labWrap (N.2.take 32):=by unfold unwOk at h;simpa using h
  exact kq ks N.2 (k:Int) (N.1:Int) hkl hxl hkb hxb ⟨by omega,by omega⟩ hf w
theorem unwV_two (ks:List Int) (k:Nat) (N:Ent):(unwV ks k N).2=0∨(unwV ks k N).2=50:=by unfold unwV;split<;>simp
theorem stand_at {d:Dk} {t:Slt} {k:Nat} {N:Ent} (h:Inv d t) (hl:∀i,i<d.n→(d.kept i).length=64) (hk:k<24) (ht:t.held k=some N) (hN:N.2.length=48):((flatK d.kept d.n).drop ((2+k) * 64)).take 48=N.2∧(2+k) * 64+48≤(flatK d.kept d.n).length∧(flatK d.kept d.n).length≤100000:=by
 have h1:=flatK_at d.kept d.n (2+k) hl (by have:=h.n;omega)
 have h2:=h.slot k hk
 rw [ht] at h2
 have h3:=bK d.kept d.n hl
 have n1:=h.n
 have n2:=h.n2
 refine ⟨?_,by omega,by omega⟩
 have h4:=congrArg (List.take 48) h1
 rw [List.take_take,show min 48 64=48 from rfl,h2] at h4
 rw [h4]
 show (N.2++_).take 48=N.2
 rw [←hN]
 exact List.take_left
end Go.Proofs.YtblnljajipbajaaGreatDoor
