import Derived.Test.YtnllomcajijbjaaGreatDoorQp02
import Derived.Maps.AppendAt
import Derived.Lib.AppendStr
import Derived.Maps.Range
import Derived.Test.YtnllomcajijbjaaGreatDoorQp00
set_option maxRecDepth 100000
set_option maxHeartbeats 4000000
namespace Go.Proofs.YtnllomcajijbjaaGreatDoor
open Go Go.RowKit
theorem fa (g:Nat) (m:List Int) (hbm:Bytes m) (hlen:m.length≤1099511627776) (w:World) (ht:Tab w) (hr:Row w g (hrow (wsOf m) (restOf m) m.length) 168) :
  Calls Tryz.prog 92 #[.pointer (some ⟨g,0,none⟩)] w fun e w'=>e=.returned (.agg (u8s (shaOf m)).toArray)∧Below w.heap.size w w':=by
 have hm:=Mem.start w
 have hw8:=bA m
 have hr64:=bH m
 have hsm:(m.length:Int)<64→wsOf m=firstW:=fun h=>jr m (by omega)
 have hsz:(hrow (wsOf m) (restOf m) m.length)[72]?=some (.int .i64 m.length):=fE _ _ _ hw8 hr64
 have hln:(hrow (wsOf m) (restOf m) m.length).length=73:=cT _ _ _ hw8 hr64
 have HT:Hid _:=ht
 have HR:Hid (Row w g (hrow (wsOf m) (restOf m) m.length) 168):=hr
 have HBM:Hid _:=hbm
 have HW8:Hid _:=hw8
 have HR64:Hid _:=hr64
 have HSM:Hid _:=hsm
 have HSZ:Hid _:=hsz
 have HLN:Hid _:=hln
 clear ht hbm hw8 hr64 hsm hsz hln hr
 go_enter Tryz.func92,Tryz.ntmps92
 go_wp2_with (first
  | ((with_reducible refine aa (some 2) (.alloc 38) ?_);refine aj _ cd hm ?_;clear hm;intro w1 g2 hm))

 refine wp_ends (fun a' w'=>∃g3 g4,a'=⟨#[.pointer (some ⟨g,0,none⟩),undef,.pointer (some ⟨g2,0,none⟩),.pointer (some ⟨g3,0,none⟩),.pointer (some ⟨g4,0,none⟩),undef,.pointer (some ⟨g,0,none⟩),.agg (u32s (wsOf m)).toArray,.pointer (some ⟨g,0,none⟩),.pointer (some ⟨g,0,none⟩),.pointer (some ⟨g,8,none⟩),.agg (u8s (restOf m)).toArray,undef,undef,undef,undef,undef,undef,undef,undef,undef,undef,undef,undef,undef,undef,undef,undef,undef,undef,undef,undef,undef,undef,undef,undef,undef,undef],[]⟩∧Mem w [] w' [(g4,u8s (restOf m),63),(g3,u32s (wsOf m),166),(g2,u8s (List.replicate 32 0),38)]) ?_ ?_
 ·refine a6 (T:=fun W=>Below w.heap.size w W) (by kernel_rfl) hm ?_
  clear hm
  intro w2 hm
  refine aT 0 (v:=.pointer (some ⟨g,0,none⟩)) rfl (by kernel_rfl) rfl (fun W _=>rfl) hm.below ?_
  refine aT 2 (v:=.pointer (some ⟨g,0,none⟩)) rfl (by kernel_rfl) rfl (fun W _=>rfl) hm.below ?_
  refine aT 3 (v:=.pointer (some ⟨g,0,none⟩)) rfl (by kernel_rfl) rfl (fun W _=>rfl) hm.below ?_
  refine aT 4 (v:=.pointer (some ⟨g,8,none⟩)) rfl (by kernel_rfl) rfl (fun W _=>by go_simp) hm.below ?_
  refine aT 5 (v:=.agg (u8s (restOf m)).toArray) rfl (by kernel_rfl) rfl (fun W hW=>bJ 8 _ (Row.below' HR.out hW) rfl _ cf rfl 64 bq (by rw [HLN.out];omega) (hrow_rest _ _ _ HW8.out HR64.out)) hm.below ?_
  refine wpAnyH_all (rs:=[1,6,7]) (by kernel_rfl) (by simp) ?_
  intro i hi
  simp only [List.mem_cons,List.not_mem_nil,or_false] at hi
  rcases hi with rfl|rfl|rfl
  ·refine aF 1 rfl rfl ?_
   intro K hK
   go_wp2_with ((go_at_call 104;refine (dQ g _ _ _ HW8.out HR64.out HSM.out _ (Row.below' HR.out hm.below)).mono ?_;rintro e w3 ⟨rfl,hb⟩;replace hm:=hm.call hb;clear hb))
   refine hK _ _ hm.below ?_
   clear hK K
   refine wpAnyH_all (rs:=[6,7]) (by kernel_rfl) (by simp) ?_
   intro i hi
   simp only [List.mem_cons,List.not_mem_nil,or_false] at hi
   rcases hi with rfl|rfl
   ·refine aF 6 rfl rfl ?_
    intro K hK
    (refine aj _ eG hm ?_;clear hm;intro w4 g3 hm)
    refine wpList_nil ?_
    refine hK _ _ hm.below ?_
    clear hK K
    refine wpAnyH_all (rs:=[7]) (by kernel_rfl) (by simp) ?_
    intro i hi
    simp only [List.mem_cons,List.not_mem_nil,or_false] at hi
    rcases hi with rfl
    ·refine aF 7 rfl rfl ?_
     intro K hK
     (refine aj _ cq hm ?_;clear hm;intro w5 g4 hm)
     refine wpList_nil ?_
     refine hK _ _ hm.below ?_
     clear hK K
     refine wpAnyH_all (rs:=[8]) (by kernel_rfl) (by simp) ?_
     intro i hi
     simp only [List.mem_cons,List.not_mem_nil,or_false] at hi
     rcases hi with rfl
     ·refine aF 8 rfl rfl ?_
      intro K hK
      (first|refine ap 0 (u32s (wsOf m)) hm rfl rfl rfl 8 co rfl (by rw [ar];exact HW8.out) (bk _) ?_|refine ap 1 (u32s (wsOf m)) hm rfl rfl rfl 8 co rfl (by rw [ar];exact HW8.out) (bk _) ?_);(clear hm;intro w6 hm)
      refine wpList_nil ?_
      refine hK _ _ hm.below ?_
      clear hK K
      refine wpAnyH_all (rs:=[9]) (by kernel_rfl) (by simp) ?_
      intro i hi
      simp only [List.mem_cons,List.not_mem_nil,or_false] at hi
      rcases hi with rfl
      ·refine aF 9 rfl rfl ?_
       intro K hK
       (first|refine ap 0 (u8s (restOf m)) hm rfl rfl rfl 64 bq rfl (by rw [ab];exact HR64.out) (aq _) ?_|refine ap 1 (u8s (restOf m)) hm rfl rfl rfl 64 bq rfl (by rw [ab];exact HR64.out) (aq _) ?_);(clear hm;intro w7 hm)
       refine wpList_nil ?_
       refine hK _ _ hm.below ?_
       clear hK K
       refine wpAnyH_done (by kernel_rfl) ⟨g3,g4,rfl,?_⟩ _
       first|exact hm|exact hm.swap
   ·refine aF 7 rfl rfl ?_
    intro K hK
    (refine aj _ cq hm ?_;clear hm;intro w5 g4 hm)
    refine wpList_nil ?_
    refine hK _ _ hm.below ?_
    clear hK K
    refine wpAnyH_all (rs:=[6]) (by kernel_rfl) (by simp) ?_
    intro i hi
    simp only [List.mem_cons,List.not_mem_nil,or_false] at hi
    rcases hi with rfl
    ·refine aF 6 rfl rfl ?_
     intro K hK
     (refine aj _ eG hm ?_;clear hm;intro w4 g3 hm)
     refine wpList_nil ?_
     refine hK _ _ hm.below ?_
     clear hK K
     refine wpAnyH_all (rs:=[8]) (by kernel_rfl) (by simp) ?_
     intro i hi
     simp only [List.mem_cons,List.not_mem_nil,or_false] at hi
     rcases hi with rfl
     ·refine aF 8 rfl rfl ?_
      intro K hK
      (first|refine ap 0 (u32s (wsOf m)) hm rfl rfl rfl 8 co rfl (by rw [ar];exact HW8.out) (bk _) ?_|refine ap 1 (u32s (wsOf m)) hm rfl rfl rfl 8 co rfl (by rw [ar];exact HW8.out) (bk _) ?_);(clear hm;intro w6 hm)
      refine wpList_nil ?_
      refine hK _ _ hm.below ?_
      clear hK K
      refine wpAnyH_all (rs:=[9]) (by kernel_rfl) (by simp) ?_
      intro i hi
      simp only [List.mem_cons,List.not_mem_nil,or_false] at hi
      rcases hi with rfl
      ·refine aF 9 rfl rfl ?_
       intro K hK
       (first|refine ap 0 (u8s (restOf m)) hm rfl rfl rfl 64 bq rfl (by rw [ab];exact HR64.out) (aq _) ?_|refine ap 1 (u8s (restOf m)) hm rfl rfl rfl 64 bq rfl (by rw [ab];exact HR64.out) (aq _) ?_);(clear hm;intro w7 hm)
       refine wpList_nil ?_
       refine hK _ _ hm.below ?_
       clear hK K
       refine wpAnyH_done (by kernel_rfl) ⟨g3,g4,rfl,?_⟩ _
       first|exact hm|exact hm.swap
  ·refine aF 6 rfl rfl ?_
   intro K hK
   (refine aj _ eG hm ?_;clear hm;intro w4 g3 hm)
   refine wpList_nil ?_
   refine hK _ _ hm.below ?_
   clear hK K
   refine wpAnyH_all (rs:=[1,7]) (by kernel_rfl) (by simp) ?_
   intro i hi
   simp only [List.mem_cons,List.not_mem_nil,or_false] at hi
   rcases hi with rfl|rfl
   ·refine aF 1 rfl rfl ?_
    intro K hK
    go_wp2_with ((go_at_call 104;refine (dQ g _ _ _ HW8.out HR64.out HSM.out _ (Row.below' HR.out hm.below)).mono ?_;rintro e w3 ⟨rfl,hb⟩;replace hm:=hm.call hb;clear hb))
    refine hK _ _ hm.below ?_
    clear hK K
    refine wpAnyH_all (rs:=[7]) (by kernel_rfl) (by simp) ?_
    intro i hi
    simp only [List.mem_cons,List.not_mem_nil,or_false] at hi
    rcases hi with rfl
    ·refine aF 7 rfl rfl ?_
     intro K hK
     (refine aj _ cq hm ?_;clear hm;intro w5 g4 hm)
     refine wpList_nil ?_
     refine hK _ _ hm.below ?_
     clear hK K
     refine wpAnyH_all (rs:=[8]) (by kernel_rfl) (by simp) ?_
     intro i hi
     simp only [List.mem_cons,List.not_mem_nil,or_false] at hi
     rcases hi with rfl
     ·refine aF 8 rfl rfl ?_
      intro K hK
      (first|refine ap 0 (u32s (wsOf m)) hm rfl rfl rfl 8 co rfl (by rw [ar];exact HW8.out) (bk _) ?_|refine ap 1 (u32s (wsOf m)) hm rfl rfl rfl 8 co rfl (by rw [ar];exact HW8.out) (bk _) ?_);(clear hm;intro w6 hm)
      refine wpList_nil ?_
      refine hK _ _ hm.below ?_
      clear hK K
      refine wpAnyH_all (rs:=[9]) (by kernel_rfl) (by simp) ?_
      intro i hi
      simp only [List.mem_cons,List.not_mem_nil,or_false] at hi
      rcases hi with rfl
      ·refine aF 9 rfl rfl ?_
       intro K hK
       (first|refine ap 0 (u8s (restOf m)) hm rfl rfl rfl 64 bq rfl (by rw [ab];exact HR64.out) (aq _) ?_|refine ap 1 (u8s (restOf m)) hm rfl rfl rfl 64 bq rfl (by rw [ab];exact HR64.out) (aq _) ?_);(clear hm;intro w7 hm)
       refine wpList_nil ?_
       refine hK _ _ hm.below ?_
       clear hK K
       refine wpAnyH_done (by kernel_rfl) ⟨g3,g4,rfl,?_⟩ _
       first|exact hm|exact hm.swap
   ·refine aF 7 rfl rfl ?_
    intro K hK
    (refine aj _ cq hm ?_;clear hm;intro w5 g4 hm)
    refine wpList_nil ?_
    refine hK _ _ hm.below ?_
    clear hK K
    refine wpAnyH_all (rs:=[1]) (by kernel_rfl) (by simp) ?_
    intro i hi
    simp only [List.mem_cons,List.not_mem_nil,or_false] at hi
    rcases hi with rfl
    ·refine aF 1 rfl rfl ?_
     intro K hK
     go_wp2_with ((go_at_call 104;refine (dQ g _ _ _ HW8.out HR64.out HSM.out _ (Row.below' HR.out hm.below)).mono ?_;rintro e w3 ⟨rfl,hb⟩;replace hm:=hm.call hb;clear hb))
     refine hK _ _ hm.below ?_
     clear hK K
     refine wpAnyH_all (rs:=[8]) (by kernel_rfl) (by simp) ?_
     intro i hi
     simp only [List.mem_cons,List.not_mem_nil,or_false] at hi
     rcases hi with rfl
     ·refine aF 8 rfl rfl ?_
      intro K hK
      (first|refine ap 0 (u32s (wsOf m)) hm rfl rfl rfl 8 co rfl (by rw [ar];exact HW8.out) (bk _) ?_|refine ap 1 (u32s (wsOf m)) hm rfl rfl rfl 8 co rfl (by rw [ar];exact HW8.out) (bk _) ?_);(clear hm;intro w6 hm)
      refine wpList_nil ?_
      refine hK _ _ hm.below ?_
      clear hK K
      refine wpAnyH_all (rs:=[9]) (by kernel_rfl) (by simp) ?_
      intro i hi
      simp only [List.mem_cons,List.not_mem_nil,or_false] at hi
      rcases hi with rfl
      ·refine aF 9 rfl rfl ?_
       intro K hK
       (first|refine ap 0 (u8s (restOf m)) hm rfl rfl rfl 64 bq rfl (by rw [ab];exact HR64.out) (aq _) ?_|refine ap 1 (u8s (restOf m)) hm rfl rfl rfl 64 bq rfl (by rw [ab];exact HR64.out) (aq _) ?_);(clear hm;intro w7 hm)
       refine wpList_nil ?_
       refine hK _ _ hm.below ?_
       clear hK K
       refine wpAnyH_done (by kernel_rfl) ⟨g3,g4,rfl,?_⟩ _
       first|exact hm|exact hm.swap
  ·refine aF 7 rfl rfl ?_
   intro K hK
   (refine aj _ cq hm ?_;clear hm;intro w5 g4 hm)
   refine wpList_nil ?_
   refine hK _ _ hm.below ?_
   clear hK K
   refine wpAnyH_all (rs:=[1,6]) (by kernel_rfl) (by simp) ?_
   intro i hi
   simp only [List.mem_cons,List.not_mem_nil,or_false] at hi
   rcases hi with rfl|rfl
   ·refine aF 1 rfl rfl ?_
    intro K hK
    go_wp2_with ((go_at_call 104;refine (dQ g _ _ _ HW8.out HR64.out HSM.out _ (Row.below' HR.out hm.below)).mono ?_;rintro e w3 ⟨rfl,hb⟩;replace hm:=hm.call hb;clear hb))
    refine hK _ _ hm.below ?_
    clear hK K
    refine wpAnyH_all (rs:=[6]) (by kernel_rfl) (by simp) ?_
    intro i hi
    simp only [List.mem_cons,List.not_mem_nil,or_false] at hi
    rcases hi with rfl
    ·refine aF 6 rfl rfl ?_
     intro K hK
     (refine aj _ eG hm ?_;clear hm;intro w4 g3 hm)
     refine wpList_nil ?_
     refine hK _ _ hm.below ?_
     clear hK K
     refine wpAnyH_all (rs:=[8]) (by kernel_rfl) (by simp) ?_
     intro i hi
     simp only [List.mem_cons,List.not_mem_nil,or_false] at hi
     rcases hi with rfl
     ·refine aF 8 rfl rfl ?_
      intro K hK
      (first|refine ap 0 (u32s (wsOf m)) hm rfl rfl rfl 8 co rfl (by rw [ar];exact HW8.out) (bk _) ?_|refine ap 1 (u32s (wsOf m)) hm rfl rfl rfl 8 co rfl (by rw [ar];exact HW8.out) (bk _) ?_);(clear hm;intro w6 hm)
      refine wpList_nil ?_
      refine hK _ _ hm.below ?_
      clear hK K
      refine wpAnyH_all (rs:=[9]) (by kernel_rfl) (by simp) ?_
      intro i hi
      simp only [List.mem_cons,List.not_mem_nil,or_false] at hi
      rcases hi with rfl
      ·refine aF 9 rfl rfl ?_
       intro K hK
       (first|refine ap 0 (u8s (restOf m)) hm rfl rfl rfl 64 bq rfl (by rw [ab];exact HR64.out) (aq _) ?_|refine ap 1 (u8s (restOf m)) hm rfl rfl rfl 64 bq rfl (by rw [ab];exact HR64.out) (aq _) ?_);(clear hm;intro w7 hm)
       refine wpList_nil ?_
       refine hK _ _ hm.below ?_
       clear hK K
       refine wpAnyH_done (by kernel_rfl) ⟨g3,g4,rfl,?_⟩ _
       first|exact hm|exact hm.swap
   ·refine aF 6 rfl rfl ?_
    intro K hK
    (refine aj _ eG hm ?_;clear hm;intro w4 g3 hm)
    refine wpList_nil ?_
    refine hK _ _ hm.below ?_
    clear hK K
    refine wpAnyH_all (rs:=[1]) (by kernel_rfl) (by simp) ?_
    intro i hi
    simp only [List.mem_cons,List.not_mem_nil,or_false] at hi
    rcases hi with rfl
    ·refine aF 1 rfl rfl ?_
     intro K hK
     go_wp2_with ((go_at_call 104;refine (dQ g _ _ _ HW8.out HR64.out HSM.out _ (Row.below' HR.out hm.below)).mono ?_;rintro e w3 ⟨rfl,hb⟩;replace hm:=hm.call hb;clear hb))
     refine hK _ _ hm.below ?_
     clear hK K
     refine wpAnyH_all (rs:=[8]) (by kernel_rfl) (by simp) ?_
     intro i hi
     simp only [List.mem_cons,List.not_mem_nil,or_false] at hi
     rcases hi with rfl
     ·refine aF 8 rfl rfl ?_
      intro K hK
      (first|refine ap 0 (u32s (wsOf m)) hm rfl rfl rfl 8 co rfl (by rw [ar];exact HW8.out) (bk _) ?_|refine ap 1 (u32s (wsOf m)) hm rfl rfl rfl 8 co rfl (by rw [ar];exact HW8.out) (bk _) ?_);(clear hm;intro w6 hm)
      refine wpList_nil ?_
      refine hK _ _ hm.below ?_
      clear hK K
      refine wpAnyH_all (rs:=[9]) (by kernel_rfl) (by simp) ?_
      intro i hi
      simp only [List.mem_cons,List.not_mem_nil,or_false] at hi
      rcases hi with rfl
      ·refine aF 9 rfl rfl ?_
       intro K hK
       (first|refine ap 0 (u8s (restOf m)) hm rfl rfl rfl 64 bq rfl (by rw [ab];exact HR64.out) (aq _) ?_|refine ap 1 (u8s (restOf m)) hm rfl rfl rfl 64 bq rfl (by rw [ab];exact HR64.out) (aq _) ?_);(clear hm;intro w7 hm)
       refine wpList_nil ?_
       refine hK _ _ hm.below ?_
       clear hK K
       refine wpAnyH_done (by kernel_rfl) ⟨g3,g4,rfl,?_⟩ _
       first|exact hm|exact hm.swap

 ·rintro a' w' ⟨g3,g4,rfl,hm⟩
  obtain ⟨q,hq⟩:∃q,q=m.length % 64:=⟨_,rfl⟩
  have hq64:q<64:=by omega
  have hqi:(m.length:Int) % 64=(q:Int):=by omega
  have HQ:Hid _:=hq
  clear hq
  have hb64:((restOf m).set q 128).length=64:=by rw [List.length_set];exact HR64.out
  have hbb:Bytes ((restOf m).set q 128):=Bytes.set (gt HBM.out) q 128 ⟨by omega,by omega⟩
  have HB64:Hid _:=hb64
  have HBB:Hid _:=hbb
  clear hb64 hbb
  by_cases h56:56≤q
  ·have h56i:(56:Int)≤(q:Int):=by omega
   have hfin:fin (wsOf m) (restOf m) m.length=mix (mix (wsOf m) ((restOf m).set q 128)) (splice (List.replicate 64 0) 56 (be8 (m.length * 8))):=by
    unfold fin;rw [←HQ.out,if_pos h56]
   have HF:Hid _:=hfin
   clear hfin
   go_wp2_with (first
    | ((with_reducible refine aa (some 15) (.load 3 (.tmp 14)) ?_);refine el 72 (.int .i64 m.length) (Row.below' HR.out hm.below) rfl gL HSZ.out ?_)
    | ((with_reducible refine aa none (.store 5 (.tmp 18) (.const (.int .u8 128))) ?_);refine bm 0 q (.int .u8 128) hm rfl (rfl) rfl be (by rw [ab,HR64.out];exact hq64) rfl rfl ?_;clear hm;intro w8 hm;rw [bT] at hm)
    | ((with_reducible refine aa (some 21) (.load 166 (.tmp 3)) ?_);refine ay 1 hm rfl rfl _ eY rfl 8 co (by rw [ar];exact HW8.out) ?_)
    | ((with_reducible refine aa (some 22) (.load 63 (.tmp 4)) ?_);refine ay 0 hm rfl rfl _ cf rfl 64 bq (by rw [ab];exact HB64.out) ?_)
    | (go_at_call 105;refine (fC (wsOf m) ((restOf m).set q 128) HW8.out HB64.out (Bytes.get HBB.out) _ (Tab.below HT.out hm.below)).mono ?_;rintro e w9 ⟨rfl,hb⟩;replace hm:=hm.call hb;clear hb)
    | ((with_reducible refine aa none (.store 166 (.tmp 3) (.tmp 23)) ?_);refine ap 1 (u32s (mix (wsOf m) ((restOf m).set q 128))) hm rfl rfl rfl 8 co (by rw [ar];exact HW8.out) (by rw [ar];exact bn _ _ HW8.out) (bk _) ?_;clear hm;intro w10 hm)
    | ((with_reducible refine aa (some 24) (.build 63 #[]) ?_);refine aM (u8s (List.replicate 64 0)) [] rfl built_b64 ?_)
    | ((with_reducible refine aa none (.store 63 (.tmp 4) (.tmp 24)) ?_);refine ap 0 (u8s (List.replicate 64 0)) hm rfl rfl rfl 64 bq (by rw [ab];exact HB64.out) (by rw [ab];rfl) (aq _) ?_;clear hm;intro w11 hm))

   have hlB:(List.replicate 64 (0:Int)).length=64:=rfl
   have hl8:(be8 (m.length * 8)).length=8:=rfl
   have hspl:(splice (List.replicate 64 (0:Int)) 56 (be8 (m.length * 8))).length=64:=by rw [length_splice _ _ _ (by omega),hlB]
   have hnw:splice (u8s (List.replicate 64 (0:Int))) 56 (u8s (be8 (m.length * 8)))=u8s (splice (List.replicate 64 (0:Int)) 56 (be8 (m.length * 8))):=by simp [splice,u8s]
   have HNW:Hid _:=hnw
   have HLB:Hid _:=hlB
   clear hlB hl8 hnw
   have hbs:Bytes (splice (List.replicate 64 (0:Int)) 56 (be8 (m.length * 8))):=Bytes.splice (Bytes.zeros 64) (dP _) 56
   have HSP:Hid _:=hspl
   have HBS:Hid _:=hbs
   clear hspl hbs
   refine au ?_
   refine a6 (T:=fun W=>Below w.heap.size w W) (by kernel_rfl) hm ?_
   clear hm
   intro w12 hm
   refine aT 0 (v:=.slice (some ⟨g4,56,none⟩) 8 8) rfl (by kernel_rfl) rfl (fun W _=>by go_simp) hm.below ?_
   refine aT 1 (v:=.pointer (some ⟨g,0,none⟩)) rfl (by kernel_rfl) rfl (fun W _=>rfl) hm.below ?_
   refine aT 2 (v:=.pointer (some ⟨g,0,none⟩)) rfl (by kernel_rfl) rfl (fun W _=>rfl) hm.below ?_
   refine aT 3 (v:=.pointer (some ⟨g,72,none⟩)) rfl (by kernel_rfl) rfl (fun W _=>by go_simp) hm.below ?_
   refine aT 4 (v:=.int .i64 m.length) rfl (by kernel_rfl) rfl (fun W hW=>dX 72 _ (Row.below' HR.out hW) rfl gL HSZ.out) hm.below ?_
   refine aT 5 (v:=.int .u64 m.length) rfl (by kernel_rfl) rfl (fun W _=>by go_simp;exact fM _ (by omega)) hm.below ?_
   refine aT 6 (v:=.int .u64 (m.length * 8)) rfl (by kernel_rfl) rfl (fun W _=>by go_simp;rw [show (m.length:Int) * 8=((m.length * 8:Nat):Int) by omega];exact fM _ (by omega)) hm.below ?_

   refine aP 7 (by kernel_rfl) rfl rfl ?_
   intro K hK
   go_wp2_with (go_at_call 55;refine (fG _ _).mono ?_;rintro e w13 ⟨g9,rfl,hg9,hr9,hb⟩;replace hm:=hm.call hb;clear hb)
   refine hK _ _ hm.below ?_
   clear hK K
   refine aP 8 (by kernel_rfl) rfl rfl ?_
   intro K hK
   refine cU 0 56 8 8 ⟨g9,0,none⟩ 8 8 (u8s (be8 (m.length * 8))) 8 (u8s (splice (List.replicate 64 (0:Int)) 56 (be8 (m.length * 8)))) hm rfl rfl rfl _ aU be rfl rfl (Seg.row hr9).src (by have h:=HLB.out;rw [ab];omega) (aq _) HNW.out ?_
   clear hm
   intro w14 hm
   refine wpList_nil ?_
   refine hK _ _ hm.below ?_
   clear hK K
   refine wpAnyH_done (by kernel_rfl) ?_ _
   go_simp
   simp only [endsIn]
   go_wp2_with (first
    | ((with_reducible refine aa (some 34) (.load 166 (.tmp 3)) ?_);refine ay 1 hm rfl rfl _ eY rfl 8 co (by rw [ar];exact (bn _ _ HW8.out)) ?_)
    | ((with_reducible refine aa (some 35) (.load 63 (.tmp 4)) ?_);refine ay 0 hm rfl rfl _ cf rfl 64 bq (by rw [ab];exact HSP.out) ?_)
    | (go_at_call 105;refine (fC (mix (wsOf m) ((restOf m).set q 128)) (splice (List.replicate 64 (0:Int)) 56 (be8 (m.length * 8))) (bn _ _ HW8.out) HSP.out (Bytes.get HBS.out) _ (Tab.below HT.out hm.below)).mono ?_;rintro e w15 ⟨rfl,hb⟩;replace hm:=hm.call hb;clear hb)
    | (go_at_call 106;refine (iy (mix (mix (wsOf m) ((restOf m).set q 128)) (splice (List.replicate 64 (0:Int)) 56 (be8 (m.length * 8)))) (bn _ _ (bn _ _ HW8.out)) _).mono ?_;rintro e w16 ⟨rfl,hb⟩;replace hm:=hm.call hb;clear hb)
    | ((with_reducible refine aa none (.store 38 (.tmp 2) (.tmp 37)) ?_);refine ap 2 (u8s (asB (mix (mix (wsOf m) ((restOf m).set q 128)) (splice (List.replicate 64 (0:Int)) 56 (be8 (m.length * 8)))))) hm rfl rfl rfl 32 b8 (rfl) (by rw [ab];exact dv _ (bn _ _ (bn _ _ HW8.out))) (aq _) ?_;clear hm;intro w17 hm))

   have hsha:shaOf m=asB (mix (mix (wsOf m) ((restOf m).set q 128)) (splice (List.replicate 64 (0:Int)) 56 (be8 (m.length * 8)))):=by unfold shaOf;rw [HF.out]
   rw [hsha]
   exact aJ 2 hm rfl Tryz.results92 rfl _ fc rfl 32 b8 (by rw [ab];exact dv _ (bn _ _ (bn _ _ HW8.out))) rfl ⟨rfl,hm.below⟩

  ·have h56i:¬(56:Int)≤(q:Int):=by omega
   have hfin:fin (wsOf m) (restOf m) m.length=mix (wsOf m) (splice ((restOf m).set q 128) 56 (be8 (m.length * 8))):=by
    unfold fin;rw [←HQ.out,if_neg h56]
   have HF:Hid _:=hfin
   clear hfin
   go_wp2_with (first
    | ((with_reducible refine aa (some 15) (.load 3 (.tmp 14)) ?_);refine el 72 (.int .i64 m.length) (Row.below' HR.out hm.below) rfl gL HSZ.out ?_)
    | ((with_reducible refine aa none (.store 5 (.tmp 18) (.const (.int .u8 128))) ?_);refine bm 0 q (.int .u8 128) hm rfl (rfl) rfl be (by rw [ab,HR64.out];exact hq64) rfl rfl ?_;clear hm;intro w8 hm;rw [bT] at hm))

   have hlB:((restOf m).set q 128).length=64:=HB64.out
   have hl8:(be8 (m.length * 8)).length=8:=rfl
   have hspl:(splice ((restOf m).set q 128) 56 (be8 (m.length * 8))).length=64:=by rw [length_splice _ _ _ (by omega),hlB]
   have hnw:splice (u8s ((restOf m).set q 128)) 56 (u8s (be8 (m.length * 8)))=u8s (splice ((restOf m).set q 128) 56 (be8 (m.length * 8))):=by simp [splice,u8s]
   have HNW:Hid _:=hnw
   have HLB:Hid _:=hlB
   clear hlB hl8 hnw
   have hbs:Bytes (splice ((restOf m).set q 128) 56 (be8 (m.length * 8))):=Bytes.splice HBB.out (dP _) 56
   have HSP:Hid _:=hspl
   have HBS:Hid _:=hbs
   clear hspl hbs
   refine au ?_
   refine a6 (T:=fun W=>Below w.heap.size w W) (by kernel_rfl) hm ?_
   clear hm
   intro w12 hm
   refine aT 0 (v:=.slice (some ⟨g4,56,none⟩) 8 8) rfl (by kernel_rfl) rfl (fun W _=>by go_simp) hm.below ?_
   refine aT 1 (v:=.pointer (some ⟨g,0,none⟩)) rfl (by kernel_rfl) rfl (fun W _=>rfl) hm.below ?_
   refine aT 2 (v:=.pointer (some ⟨g,0,none⟩)) rfl (by kernel_rfl) rfl (fun W _=>rfl) hm.below ?_
   refine aT 3 (v:=.pointer (some ⟨g,72,none⟩)) rfl (by kernel_rfl) rfl (fun W _=>by go_simp) hm.below ?_
   refine aT 4 (v:=.int .i64 m.length) rfl (by kernel_rfl) rfl (fun W hW=>dX 72 _ (Row.below' HR.out hW) rfl gL HSZ.out) hm.below ?_
   refine aT 5 (v:=.int .u64 m.length) rfl (by kernel_rfl) rfl (fun W _=>by go_simp;exact fM _ (by omega)) hm.below ?_
   refine aT 6 (v:=.int .u64 (m.length * 8)) rfl (by kernel_rfl) rfl (fun W _=>by go_simp;rw [show (m.length:Int) * 8=((m.length * 8:Nat):Int) by omega];exact fM _ (by omega)) hm.below ?_

   refine aP 7 (by kernel_rfl) rfl rfl ?_
   intro K hK
   go_wp2_with (go_at_call 55;refine (fG _ _).mono ?_;rintro e w13 ⟨g9,rfl,hg9,hr9,hb⟩;replace hm:=hm.call hb;clear hb)
   refine hK _ _ hm.below ?_
   clear hK K
   refine aP 8 (by kernel_rfl) rfl rfl ?_
   intro K hK
   refine cU 0 56 8 8 ⟨g9,0,none⟩ 8 8 (u8s (be8 (m.length * 8))) 8 (u8s (splice ((restOf m).set q 128) 56 (be8 (m.length * 8)))) hm rfl rfl rfl _ aU be rfl rfl (Seg.row hr9).src (by have h:=HLB.out;rw [ab];omega) (aq _) HNW.out ?_
   clear hm
   intro w14 hm
   refine wpList_nil ?_
   refine hK _ _ hm.below ?_
   clear hK K
   refine wpAnyH_done (by kernel_rfl) ?_ _
   go_simp
   simp only [endsIn]
   go_wp2_with (first
    | ((with_reducible refine aa (some 34) (.load 166 (.tmp 3)) ?_);refine ay 1 hm rfl rfl _ eY rfl 8 co (by rw [ar];exact HW8.out) ?_)
    | ((with_reducible refine aa (some 35) (.load 63 (.tmp 4)) ?_);refine ay 0 hm rfl rfl _ cf rfl 64 bq (by rw [ab];exact HSP.out) ?_)
    | (go_at_call 105;refine (fC (wsOf m) (splice ((restOf m).set q 128) 56 (be8 (m.length * 8))) HW8.out HSP.out (Bytes.get HBS.out) _ (Tab.below HT.out hm.below)).mono ?_;rintro e w15 ⟨rfl,hb⟩;replace hm:=hm.call hb;clear hb)
    | (go_at_call 106;refine (iy (mix (wsOf m) (splice ((restOf m).set q 128) 56 (be8 (m.length * 8)))) (bn _ _ HW8.out) _).mono ?_;rintro e w16 ⟨rfl,hb⟩;replace hm:=hm.call hb;clear hb)
    | ((with_reducible refine aa none (.store 38 (.tmp 2) (.tmp 37)) ?_);refine ap 2 (u8s (asB (mix (wsOf m) (splice ((restOf m).set q 128) 56 (be8 (m.length * 8)))))) hm rfl rfl rfl 32 b8 (rfl) (by rw [ab];exact dv _ (bn _ _ HW8.out)) (aq _) ?_;clear hm;intro w17 hm))

   have hsha:shaOf m=asB (mix (wsOf m) (splice ((restOf m).set q 128) 56 (be8 (m.length * 8)))):=by unfold shaOf;rw [HF.out]
   rw [hsha]
   exact aJ 2 hm rfl Tryz.results92 rfl _ fc rfl 32 b8 (by rw [ab];exact dv _ (bn _ _ HW8.out)) rfl ⟨rfl,hm.below⟩
open Go Go.RowKit
theorem dW {w w':World} (h:Below w.heap.size w w'):w.grownBy w' none:=⟨h.os,h.tape,h.output,h.size,fun k hk _=>h.block k hk⟩
theorem gv {w w':World} {g:Nat} (h:Upd g w w'):w.grownBy w' (some g):=⟨h.os,h.tape,h.output,h.size,fun k hk hn=>h.block k hk (fun e=>hn (by rw [e]))⟩
def OwnB (e:TypeId) (w:World) (base:Nat) (v:Value) (zs:List Int):Prop:=w.ownsRow base e 1 v zs.length (u8s zs)
section
variable {e:TypeId} {w w' w0:World} {base:Nat} {v:Value} {zs:List Int} {S:List Nat} {rows:List (Nat×List Value×TypeId)}
theorem OwnB.nil (e:TypeId) (w:World) (base:Nat):OwnB e w base (.slice none 0 0) []:=World.ownsRow_nil w base e 1
theorem OwnB.below (h:OwnB e w base v zs) (hb:Below w.heap.size w w'):OwnB e w' base v zs:=World.ownsRow.kept h (dW hb) (by cases h':v.ownBlock<;>simp)
theorem OwnB.alloc (h:OwnB e w base v zs) (o:Obj):OwnB e (w.alloc o) base v zs:=World.ownsRow.alloc h o
theorem OwnB.apart (h:OwnB e w base v zs) {g:Nat} {l:List Value} {t:TypeId} (hr:Row w g l t) (ht:t≠e):v.ownBlock≠some g:=by
 obtain ⟨_,h2⟩:=h
 rcases h2 with ⟨rfl,_⟩|⟨g',cap,cur,rfl,_,hh,_⟩
 ·simp [Value.ownBlock]
 ·intro he
  have hg:g'=g:=by simpa [Value.ownBlock] using he
  subst hg
  rw [hr] at hh
  simp only [Option.some.injEq,Obj.cells.injEq] at hh
  exact ht hh.2.1
theorem OwnB.upd (h:OwnB e w base v zs) {g:Nat} {l:List Value} {t:TypeId} (hr:Row w g l t) (ht:t≠e) (hu:Upd g w w'):OwnB e w' base v zs :=
 World.ownsRow.kept h (gv hu) (Or.inr (h.apart hr ht))
theorem OwnB.old (h:OwnB e w base v zs):∃p cap,v=.slice p zs.length cap∧zs.length≤cap∧(0<zs.length→∃b off,p=some ⟨b,off,none⟩∧Seg w b off zs):=by
 have h0:=h
 obtain ⟨_,h2⟩:=h
 rcases h2 with ⟨rfl,hn⟩|⟨g,cap,cur,rfl,hb,hh,hn,_,_,_⟩
 ·exact ⟨none,0,by rw [hn],by omega,fun h=>absurd h (by omega)⟩
 ·refine ⟨_,cap,rfl,hn,fun _=>⟨g,0,rfl,fun j hj=>?_⟩⟩
  have:=World.ownsRow.cells h0 rfl j (.int .u8 (zs.getD j 0)) (cP zs j hj)
  rw [bM] at this
  exact this
theorem Mem.grown (hm:Mem w0 S w rows) (h:OwnB e w w0.heap.size v zs) (hty:∀r∈rows,r.2.2≠e) (hg:w.grownBy w' v.ownBlock):Mem w0 S w' rows:=by
 have hl:=World.ownsRow.lt h
 refine ⟨hg.os.trans hm.os,hg.tape.trans hm.tape,hg.output.trans hm.output,Nat.le_trans hm.size hg.size,fun k hk hn=>?_,fun r hr=>?_,hm.nodup,hm.fresh⟩
 ·refine (hg.block k (Nat.lt_of_lt_of_le hk hm.size) (fun he=>?_)).trans (hm.block k hk hn)
  have:=(hl k he.symm).1
  omega
 ·have hrow:=hm.row r hr
  unfold Row
  rw [hg.block r.1 hrow.lt (fun he=>h.apart hrow (hty r hr) he.symm)]
  exact hrow
theorem run_app {P:Program} (t ty:TypeId) (ht:P.underlying t=some (.slice e)) (hi:(P.info? e).map (fun i=>(i.zero,i.size,i.bytes))=some (some (.int .u8 0),1,1)) (h:OwnB e w base v zs) (ps:Option Addr) (c:Nat) (ys:List Int)
  (hs:0<ys.length→∃b off,ps=some ⟨b,off,none⟩∧Seg w b off ys) (hlen:zs.length+ys.length≤1099511627776) (hbase:base≤w.heap.size) :
  ∃v' w',(Builtin.append_ #[t,t] ty #[v,.slice ps ys.length c]).run P w=.ok v' w'∧OwnB e w' base v' (zs++ys)∧w.grownBy w' v.ownBlock:=by
 cases hq:P.info? e with
 | none=>simp [hq] at hi
 | some i =>
  simp only [hq,Option.map_some,Option.some.injEq,Prod.mk.injEq] at hi
  obtain ⟨hz,h1,h2⟩:=hi
  by_cases h0:0<ys.length
  ·obtain ⟨b,off,rfl,hseg⟩:=hs h0
   obtain ⟨v',w',hr,hown,hgr,_,_⟩:=run_append_own_at (P:=P) w base t ty e i (.int .u8 0) 1 1 ht hq hz h1 h2 rfl (by omega) v zs.length (u8s zs) h ⟨b,off,none⟩ ys.length c (u8s ys) (by rw [ab];omega) hseg.src (aq _) (by unfold maxLen;omega) (by omega) hbase
   refine ⟨v',w',hr,?_,hgr⟩
   unfold OwnB
   rw [List.length_append,show u8s (zs++ys)=u8s zs++u8s ys by simp [u8s]]
   exact hown
  ·have hy:ys=[]:=List.eq_nil_of_length_eq_zero (by omega)
   subst hy
   refine ⟨v,w,?_,by rw [List.append_nil];exact h,⟨rfl,rfl,rfl,Nat.le_refl _,fun _ _ _=>rfl⟩⟩
   obtain ⟨_,h3⟩:=h
   have hld:∀a:Addr,(loadCells a 0).run P w=.ok #[] w:=fun a=>rfl
   rcases h3 with ⟨rfl,_⟩|⟨g,cap,cur,rfl,_,_,hn,_⟩
   ·cases ps<;>simp [Builtin.append_,run_underlying ht,sizeOf,typeInfo,hq,Builtin.lenOf,Builtin.firstCells,hld]
   ·cases ps<;>simp [Builtin.append_,run_underlying ht,sizeOf,typeInfo,hq,Builtin.lenOf,Builtin.firstCells,hld,hn,storeCells]
end
section
variable {P:Program} {ops:Array Oper} {rest:List Oper} {a:Act} {w w0:World} {Q:Exit→Act→World→Prop} {dst:Option Tmp} {typ:TypeId} {pos:String} {aft:Array Edge} {gd:Option (Nat×Bool)} {S:List Nat} {rows:List (Nat×List Value×TypeId)}
theorem eI {s x:Operand} {t e:TypeId} (hw:Region.wanted {dst:=dst,op:=.call {callee:=.builtin .append,args:=#[s,x],argTypes:=#[t,t]},type:=typ,pos:=pos,after:=aft,guard:=gd} (yielded ops a.tmps)=true)
  (ht:P.underlying t=some (.slice e)) (hi:(P.info? e).map (fun i=>(i.zero,i.size,i.bytes))=some (some (.int .u8 0),1,1)) {v:Value} {zs:List Int} (ys:List Int) {ps:Option Addr} {n c:Nat} (hm:Mem w0 S w rows) (hown:OwnB e w w0.heap.size v zs) (hty:∀r∈rows,r.2.2≠e)
  (hs:a.eval s=v) (hx:a.eval x=.slice ps n c) (hn:n=ys.length) (hsrc:0<ys.length→∃b off,ps=some ⟨b,off,none⟩∧Seg w b off ys) (hlen:zs.length+ys.length≤1099511627776)
  (h:∀v' w',OwnB e w' w0.heap.size v' (zs++ys)→Mem w0 S w' rows→wpList P ops Q rest (a.put dst v') w') :
  wpList P ops Q ({dst:=dst,op:=.call {callee:=.builtin .append,args:=#[s,x],argTypes:=#[t,t]},type:=typ,pos:=pos,after:=aft,guard:=gd}::rest) a w:=by
 subst hn
 obtain ⟨v',w',hr,ho,hg⟩:=run_app (P:=P) t typ ht hi hown ps c ys hsrc hlen hm.size
 refine wpList_step fun K hK=>?_
 rw [if_pos hw]
 have hh:=hK _ _ (h v' w' ho (hm.grown hown hty hg))
 unfold Oper.wp execOp
 simp only [resolve,invoke,builtin,Sem.run_bind,Sem.run_pure,Result.andThen_ok,List.map_toArray,List.map_cons,List.map_nil,hs,hx,hr]
 exact hh
end
end Go.Proofs.YtnllomcajijbjaaGreatDoor
namespace Go.Proofs.YtnllomcajijbjaaGreatDoor
open Go Go.RowKit
section
variable {P:Program} {ops:Array Oper} {rest:List Oper} {a:Act} {w w0:World} {Q:Exit→Act→World→Prop} {dst:Option Tmp} {typ:TypeId} {pos:String} {aft:Array Edge} {gd:Option (Nat×Bool)} {S:List Nat} {rows:List (Nat×List Value×TypeId)}
theorem aQ {ty:TypeId} {x:Operand} {b j:Nat} (v:Value) (hc:w.cell? ⟨b,j,none⟩=some v) (hx:a.eval x=.pointer (some ⟨b,j,none⟩)) (ha:∀w,(isAgg ty).run P w=.ok false w)
  (h:wpList P ops Q rest (a.put dst v) w):wpList P ops Q ({dst:=dst,op:=.load ty x,type:=typ,pos:=pos,after:=aft,guard:=none}::rest) a w:=by
 refine wpList_plain rfl fun K hK=>?_
 have hh:=hK _ _ h
 have hld:(loadVar ty ⟨b,j,none⟩).run P w=.ok v w:=by simp [loadVar,ha,go_sem,hc]
 unfold Oper.wp execOp
 simp only [hx,Instr.loadAt,Instr.sureAddr,Sem.run_bind,Sem.run_pure,Result.andThen_ok,hld]
 exact hh
end
end Go.Proofs.YtnllomcajijbjaaGreatDoor
namespace Go.Proofs.YtnllomcajijbjaaGreatDoor
open Go Go.RowKit
def Later (w:World) (v v':Value):Prop:=v'.ownBlock=v.ownBlock∨∀j,v'.ownBlock=some j→w.heap.size≤j
theorem Later.refl (w:World) (v:Value):Later w v v:=Or.inl rfl
theorem Later.step {w w1:World} {v v1 v2:Value} (h:Later w v v1) (hs:w.heap.size≤w1.heap.size) (h2:v2.ownBlock=v1.ownBlock∨v2.ownBlock=some w1.heap.size):Later w v v2:=by
 rcases h2 with h2|h2
 ·rcases h with h|h
  ·exact Or.inl (h2.trans h)
  ·exact Or.inr (fun j hj=>h j (h2.symm.trans hj))
 ·refine Or.inr (fun j hj=>?_)
  rw [h2] at hj
  cases hj
  exact hs
section
variable {P:Program} {ops:Array Oper} {rest:List Oper} {a:Act} {w:World} {Q:Exit→Act→World→Prop} {dst:Option Tmp} {typ:TypeId} {pos:String} {aft:Array Edge} {gd:Option (Nat×Bool)}
end
open Go Go.RowKit
theorem cy:Tryz.prog.underlying 5=some (.int .u8):=Tryz.underlying5
end Go.Proofs.YtnllomcajijbjaaGreatDoor
namespace Go.Proofs.YtnllomcajijbjaaGreatDoor
open Go Go.RowKit
theorem un_hash:Tryz.prog.underlying 168=some (Tryz.prog.underlying 168).get!:=by kernel_rfl
theorem Mem.callNew {w0 w w':World} {S:List Nat} {rows:List (Nat×List Value×TypeId)} (hm:Mem w0 S w rows) (hb:Below w.heap.size w w') {g:Nat} {l:List Value} {t:TypeId} (hr:Row w' g l t) (hg:w.heap.size≤g):Mem w0 S w' ((g,l,t)::rows):=by
 have h:=hm.call hb
 refine ⟨h.os,h.tape,h.output,h.size,h.block,?_,?_,?_⟩
 ·intro r hr'
  rcases List.mem_cons.1 hr' with rfl|hr'
  ·exact hr
  ·exact h.row r hr'
 ·simp only [List.map_cons,List.nodup_cons]
  refine ⟨fun hc=>?_,h.nodup⟩
  obtain ⟨r,hr',he⟩:=List.mem_map.1 hc
  have:=(hm.row r hr').lt
  omega
 ·intro r hr'
  rcases List.mem_cons.1 hr' with rfl|hr'
  ·exact Or.inr (Nat.le_trans hm.size hg)
  ·exact h.fresh r hr'
def SlOld (w:World) (v:Value) (cs:List Int):Prop :=
 ∃p cap,v=.slice p cs.length cap∧cs.length≤cap∧(0<cs.length→∃b off,p=some ⟨b,off,none⟩∧Seg w b off cs)
theorem SlOld.sl {w w':World} {v:Value} {cs:List Int} (h:SlOld w v cs) (hb:Below w.heap.size w w') {g:Nat} (hg:w.heap.size≤g):Sl w' g v cs:=by
 obtain ⟨p,cap,hv,hc,hs⟩:=h
 refine ⟨p,cap,hv,hc,fun h0=>?_⟩
 obtain ⟨b,off,hp,hseg⟩:=hs h0
 have:=hseg.lt h0
 exact ⟨b,off,hp,by omega,hseg.below hb⟩
theorem SlOld.mem {w w':World} {v:Value} {cs:List Int} {rows:List (Nat×List Value×TypeId)} (h:SlOld w v cs) (hm:Mem w [] w' rows):SlOld w' v cs:=by
 obtain ⟨p,cap,hv,hc,hs⟩:=h
 refine ⟨p,cap,hv,hc,fun h0=>?_⟩
 obtain ⟨b,off,hp,hseg⟩:=hs h0
 exact ⟨b,off,hp,hseg.mem hm (by simp)⟩
theorem new_row:hrow firstW (List.replicate 64 0) 0=hrow (wsOf []) (restOf []) (([]:List Int).length:Int):=rfl
theorem sum_any (cs:List Int) (v:Value) (hbc:Bytes cs) (hlen:cs.length≤1099511627776) (w:World) (ht:Tab w) (hv:SlOld w v cs) :
  Calls Tryz.prog 89 #[v] w fun e w'=>e=.returned (.agg (u8s (shaOf cs)).toArray)∧Below w.heap.size w w':=by
 have hm:=Mem.start w
 have HT:Hid _:=ht
 have HB:Hid _:=hbc
 have HV:Hid _:=hv
 clear ht hbc hv
 go_enter Tryz.func89,Tryz.ntmps89
 go_wp2_with (first
  | ((with_reducible refine aa (some 2) (.alloc 38) ?_);refine aj _ cd hm ?_;clear hm;intro w1 g2 hm)
  | (go_at_call 103;refine (new_any _).mono ?_;rintro e w2 ⟨g,rfl,hge,hr,hb⟩;rw [new_row] at hr;have HSL:Hid _:=(SlOld.mem HV.out hm).sl hb hge;have hgt:1≠g:=Nat.ne_of_lt (Nat.lt_of_lt_of_le (Tab.lt (Tab.mem HT.out hm (by simp))) hge);replace hm:=hm.callNew hb hr hge;clear hb hr hge)
  | (go_at_call 91;refine (fK g [] cs v (by intro x hx;cases hx) HB.out (by simpa using hlen) _ (Tab.mem HT.out hm (by simp)) hgt (hm.get 0 rfl) HSL.out).mono ?_;rintro e w3 ⟨rfl,hr,hu⟩;replace hm:=hm.upd 0 rfl hu hr;clear hr hu)
  | (go_at_call 92;refine (fa g cs HB.out hlen _ (Tab.mem HT.out hm (by simp)) (hm.get 0 rfl)).mono ?_;rintro e w4 ⟨rfl,hb⟩;replace hm:=hm.call hb;clear hb)
  | ((with_reducible refine aa none (.store 38 (.tmp 2) (.tmp 9)) ?_);refine ap 1 (u8s (shaOf cs)) hm rfl rfl rfl 32 b8 (rfl) (by rw [ab];exact bC _) (aq _) ?_;clear hm;intro w5 hm))

 exact aJ 1 hm rfl Tryz.results89 rfl _ fc rfl 32 b8 (by rw [ab];exact bC _) rfl ⟨rfl,hm.below⟩
end Go.Proofs.YtnllomcajijbjaaGreatDoor
namespace Go.Proofs.YtnllomcajijbjaaGreatDoor
open Go Go.RowKit
end Go.Proofs.YtnllomcajijbjaaGreatDoor
namespace Go.Proofs.YtnllomcajijbjaaGreatDoor
open Go Go.RowKit
theorem ag_bs:∀w,(isAgg 33).run Tryz.prog w=.ok false w:=by intro w;simp [go_sem]
theorem hrow_one (ws rs:List Int) (n:Int):∀v∈hrow ws rs n,v.oneCell'=true:=by
 intro v hv
 simp only [hrow,List.mem_append,List.mem_cons,List.not_mem_nil,or_false] at hv
 rcases hv with h|h|rfl
 ·exact bk _ v h
 ·exact aq _ v h
 ·rfl
theorem copy_any (g:Nat) (ws rs:List Int) (n:Int) (hws:ws.length=8) (hrs:rs.length=64) (w:World) (hr:Row w g (hrow ws rs n) 168) :
  Calls Tryz.prog 90 #[.pointer (some ⟨g,0,none⟩)] w fun e w'=>∃g',e=.returned (.pointer (some ⟨g',0,none⟩))∧w.heap.size≤g'∧Row w' g' (hrow ws rs n) 168∧Below w.heap.size w w':=by
 have hm:=Mem.start w
 have hln:(hrow ws rs n).length=73:=cT _ _ _ hws hrs
 have HLN:Hid _:=hln
 have HR:Hid (Row w g (hrow ws rs n) 168):=hr
 clear hln hr
 go_enter Tryz.func90,Tryz.ntmps90
 go_wp2_with (first
  | ((with_reducible refine aa (some 6) (.load 168 (.tmp 5)) ?_);refine ae (.agg (hrow ws rs n).toArray) rfl (ao 0 _ (Row.below' HR.out hm.below) rfl _ un_hash rfl 73 sz_hash (by rw [HLN.out];omega) (by rw [List.drop_zero,List.take_of_length_le (Nat.le_of_eq HLN.out)])) ?_)
  | ((with_reducible refine aa (some 3) (.alloc 168) ?_);refine aj _ zero_hash hm ?_;clear hm;intro w1 g1 hm)
  | ((with_reducible refine aa none (.store 168 (.tmp 3) (.tmp 6)) ?_);refine ap 0 (hrow ws rs n) hm rfl rfl rfl 73 sz_hash (rfl) (HLN.out) (hrow_one _ _ _) ?_;clear hm;intro w2 hm))
 go_ret
 have hf:=hm.fresh _ (List.mem_cons_self ..)
 exact ⟨g1,rfl,by simpa using hf,hm.get 0 rfl,hm.below⟩
end Go.Proofs.YtnllomcajijbjaaGreatDoor
