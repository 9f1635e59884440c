import Derived.Test.YtdkkdkgdaambiaaGreatDoorQa02
import Derived.Test.YtdkkdkgdaambiaaGreatDoorQa01
import Derived.Laws.BytesString
import Derived.Maps.AppendAt
import Derived.Lib.AppendStr
import Derived.Maps.Range
set_option maxRecDepth 100000
namespace Go.Proofs.YtdkkdkgdaambiaaGreatDoor
open Go Go.RowKit
set_option maxHeartbeats 2000000 in
theorem hashSum_any (g:Nat) (m:List Int) (hbm:Bytes m) (hlen:m.length≤1099511627776) (w:World) (ht:Tab w) (hr:Row w g (hrow (wsOf m) (restOf m) m.length) 248) :
  Calls Tryz.prog 163 #[.pointer (some ⟨g,0,none⟩)] w fun e w'=>e=.returned (.agg (u8s (shaOf m)).toArray)∧Below w.heap.size w w':=by
 have hm:=Mem.start w
 have hw8:=wsOf_length m
 have hr64:=restOf_length m
 have hsm:(m.length:Int)<64→wsOf m=firstW:=fun h=>wsOf_small m (by omega)
 have hsz:(hrow (wsOf m) (restOf m) m.length)[72]?=some (.int .i64 m.length):=hrow_size _ _ _ hw8 hr64
 have hln:(hrow (wsOf m) (restOf m) m.length).length=73:=hrow_length _ _ _ hw8 hr64
 have HT:Hid _:=ht
 have HR:Hid (Row w g (hrow (wsOf m) (restOf m) m.length) 248):=hr
 have HBM:Hid _:=hbm
 have HW8:Hid _:=hw8
 have HR64:Hid _:=hr64
 have HSM:Hid _:=hsm
 have HSZ:Hid _:=hsz
 have HLN:Hid _:=hln
 clear ht hbm hw8 hr64 hsm hsz hln hr
 go_enter Tryz.func163,Tryz.ntmps163
 go_wp2_with (first
  | ((with_reducible refine at_op (some 2) (.alloc 60) ?_);refine wpl_alloc _ zero_b32 hm ?_;clear hm;intro w1 g2 hm))

 refine wp_ends (fun a' w'=>∃g3 g4,a'=⟨#[.pointer (some ⟨g,0,none⟩),undef,.pointer (some ⟨g2,0,none⟩),.pointer (some ⟨g3,0,none⟩),.pointer (some ⟨g4,0,none⟩),undef,.pointer (some ⟨g,0,none⟩),.agg (u32s (wsOf m)).toArray,.pointer (some ⟨g,0,none⟩),.pointer (some ⟨g,0,none⟩),.pointer (some ⟨g,8,none⟩),.agg (u8s (restOf m)).toArray,undef,undef,undef,undef,undef,undef,undef,undef,undef,undef,undef,undef,undef,undef,undef,undef,undef,undef,undef,undef,undef,undef,undef,undef,undef,undef],[]⟩∧Mem w [] w' [(g4,u8s (restOf m),104),(g3,u32s (wsOf m),227),(g2,u8s (List.replicate 32 0),60)]) ?_ ?_
 ·refine anyH_start (T:=fun W=>Below w.heap.size w W) (by kernel_rfl) hm ?_
  clear hm
  intro w2 hm
  refine aT 0 (v:=.pointer (some ⟨g,0,none⟩)) rfl (by kernel_rfl) rfl (fun W _=>rfl) hm.below ?_
  refine aT 2 (v:=.pointer (some ⟨g,0,none⟩)) rfl (by kernel_rfl) rfl (fun W _=>rfl) hm.below ?_
  refine aT 3 (v:=.pointer (some ⟨g,0,none⟩)) rfl (by kernel_rfl) rfl (fun W _=>rfl) hm.below ?_
  refine aT 4 (v:=.pointer (some ⟨g,8,none⟩)) rfl (by kernel_rfl) rfl (fun W _=>by go_simp) hm.below ?_
  refine aT 5 (v:=.agg (u8s (restOf m)).toArray) rfl (by kernel_rfl) rfl (fun W hW=>exec_lds 8 _ (Row.below' HR.out hW) rfl _ un_b64 rfl 64 sz_b64 (by rw [HLN.out];omega) (hrow_rest _ _ _ HW8.out HR64.out)) hm.below ?_
  refine wpAnyH_all (rs:=[1,6,7]) (by kernel_rfl) (by simp) ?_
  intro i hi
  simp only [List.mem_cons,List.not_mem_nil,or_false] at hi
  rcases hi with rfl | rfl | rfl
  ·refine anyH_op 1 rfl rfl ?_
   intro K hK
   go_wp2_with ((go_at_call 178;refine (begun_any g _ _ _ HW8.out HR64.out HSM.out _ (Row.below' HR.out hm.below)).mono ?_;rintro e w3 ⟨rfl,hb⟩;replace hm:=hm.call hb;clear hb))
   refine hK _ _ hm.below ?_
   clear hK K
   refine wpAnyH_all (rs:=[6,7]) (by kernel_rfl) (by simp) ?_
   intro i hi
   simp only [List.mem_cons,List.not_mem_nil,or_false] at hi
   rcases hi with rfl | rfl
   ·refine anyH_op 6 rfl rfl ?_
    intro K hK
    (refine wpl_alloc _ zero_w8 hm ?_;clear hm;intro w4 g3 hm)
    refine wpList_nil ?_
    refine hK _ _ hm.below ?_
    clear hK K
    refine wpAnyH_all (rs:=[7]) (by kernel_rfl) (by simp) ?_
    intro i hi
    simp only [List.mem_cons,List.not_mem_nil,or_false] at hi
    rcases hi with rfl
    ·refine anyH_op 7 rfl rfl ?_
     intro K hK
     (refine wpl_alloc _ zero_b64 hm ?_;clear hm;intro w5 g4 hm)
     refine wpList_nil ?_
     refine hK _ _ hm.below ?_
     clear hK K
     refine wpAnyH_all (rs:=[8]) (by kernel_rfl) (by simp) ?_
     intro i hi
     simp only [List.mem_cons,List.not_mem_nil,or_false] at hi
     rcases hi with rfl
     ·refine anyH_op 8 rfl rfl ?_
      intro K hK
      (first | refine wpl_stw 0 (u32s (wsOf m)) hm rfl rfl rfl 8 sz_w8 rfl (by rw [u32s_length];exact HW8.out) (u32s_one _) ?_ | refine wpl_stw 1 (u32s (wsOf m)) hm rfl rfl rfl 8 sz_w8 rfl (by rw [u32s_length];exact HW8.out) (u32s_one _) ?_);(clear hm;intro w6 hm)
      refine wpList_nil ?_
      refine hK _ _ hm.below ?_
      clear hK K
      refine wpAnyH_all (rs:=[9]) (by kernel_rfl) (by simp) ?_
      intro i hi
      simp only [List.mem_cons,List.not_mem_nil,or_false] at hi
      rcases hi with rfl
      ·refine anyH_op 9 rfl rfl ?_
       intro K hK
       (first | refine wpl_stw 0 (u8s (restOf m)) hm rfl rfl rfl 64 sz_b64 rfl (by rw [u8s_length];exact HR64.out) (u8s_one _) ?_ | refine wpl_stw 1 (u8s (restOf m)) hm rfl rfl rfl 64 sz_b64 rfl (by rw [u8s_length];exact HR64.out) (u8s_one _) ?_);(clear hm;intro w7 hm)
       refine wpList_nil ?_
       refine hK _ _ hm.below ?_
       clear hK K
       refine wpAnyH_done (by kernel_rfl) ⟨g3,g4,rfl,?_⟩ _
       first | exact hm | exact hm.swap
   ·refine anyH_op 7 rfl rfl ?_
    intro K hK
    (refine wpl_alloc _ zero_b64 hm ?_;clear hm;intro w5 g4 hm)
    refine wpList_nil ?_
    refine hK _ _ hm.below ?_
    clear hK K
    refine wpAnyH_all (rs:=[6]) (by kernel_rfl) (by simp) ?_
    intro i hi
    simp only [List.mem_cons,List.not_mem_nil,or_false] at hi
    rcases hi with rfl
    ·refine anyH_op 6 rfl rfl ?_
     intro K hK
     (refine wpl_alloc _ zero_w8 hm ?_;clear hm;intro w4 g3 hm)
     refine wpList_nil ?_
     refine hK _ _ hm.below ?_
     clear hK K
     refine wpAnyH_all (rs:=[8]) (by kernel_rfl) (by simp) ?_
     intro i hi
     simp only [List.mem_cons,List.not_mem_nil,or_false] at hi
     rcases hi with rfl
     ·refine anyH_op 8 rfl rfl ?_
      intro K hK
      (first | refine wpl_stw 0 (u32s (wsOf m)) hm rfl rfl rfl 8 sz_w8 rfl (by rw [u32s_length];exact HW8.out) (u32s_one _) ?_ | refine wpl_stw 1 (u32s (wsOf m)) hm rfl rfl rfl 8 sz_w8 rfl (by rw [u32s_length];exact HW8.out) (u32s_one _) ?_);(clear hm;intro w6 hm)
      refine wpList_nil ?_
      refine hK _ _ hm.below ?_
      clear hK K
      refine wpAnyH_all (rs:=[9]) (by kernel_rfl) (by simp) ?_
      intro i hi
      simp only [List.mem_cons,List.not_mem_nil,or_false] at hi
      rcases hi with rfl
      ·refine anyH_op 9 rfl rfl ?_
       intro K hK
       (first | refine wpl_stw 0 (u8s (restOf m)) hm rfl rfl rfl 64 sz_b64 rfl (by rw [u8s_length];exact HR64.out) (u8s_one _) ?_ | refine wpl_stw 1 (u8s (restOf m)) hm rfl rfl rfl 64 sz_b64 rfl (by rw [u8s_length];exact HR64.out) (u8s_one _) ?_);(clear hm;intro w7 hm)
       refine wpList_nil ?_
       refine hK _ _ hm.below ?_
       clear hK K
       refine wpAnyH_done (by kernel_rfl) ⟨g3,g4,rfl,?_⟩ _
       first | exact hm | exact hm.swap
  ·refine anyH_op 6 rfl rfl ?_
   intro K hK
   (refine wpl_alloc _ zero_w8 hm ?_;clear hm;intro w4 g3 hm)
   refine wpList_nil ?_
   refine hK _ _ hm.below ?_
   clear hK K
   refine wpAnyH_all (rs:=[1,7]) (by kernel_rfl) (by simp) ?_
   intro i hi
   simp only [List.mem_cons,List.not_mem_nil,or_false] at hi
   rcases hi with rfl | rfl
   ·refine anyH_op 1 rfl rfl ?_
    intro K hK
    go_wp2_with ((go_at_call 178;refine (begun_any g _ _ _ HW8.out HR64.out HSM.out _ (Row.below' HR.out hm.below)).mono ?_;rintro e w3 ⟨rfl,hb⟩;replace hm:=hm.call hb;clear hb))
    refine hK _ _ hm.below ?_
    clear hK K
    refine wpAnyH_all (rs:=[7]) (by kernel_rfl) (by simp) ?_
    intro i hi
    simp only [List.mem_cons,List.not_mem_nil,or_false] at hi
    rcases hi with rfl
    ·refine anyH_op 7 rfl rfl ?_
     intro K hK
     (refine wpl_alloc _ zero_b64 hm ?_;clear hm;intro w5 g4 hm)
     refine wpList_nil ?_
     refine hK _ _ hm.below ?_
     clear hK K
     refine wpAnyH_all (rs:=[8]) (by kernel_rfl) (by simp) ?_
     intro i hi
     simp only [List.mem_cons,List.not_mem_nil,or_false] at hi
     rcases hi with rfl
     ·refine anyH_op 8 rfl rfl ?_
      intro K hK
      (first | refine wpl_stw 0 (u32s (wsOf m)) hm rfl rfl rfl 8 sz_w8 rfl (by rw [u32s_length];exact HW8.out) (u32s_one _) ?_ | refine wpl_stw 1 (u32s (wsOf m)) hm rfl rfl rfl 8 sz_w8 rfl (by rw [u32s_length];exact HW8.out) (u32s_one _) ?_);(clear hm;intro w6 hm)
      refine wpList_nil ?_
      refine hK _ _ hm.below ?_
      clear hK K
      refine wpAnyH_all (rs:=[9]) (by kernel_rfl) (by simp) ?_
      intro i hi
      simp only [List.mem_cons,List.not_mem_nil,or_false] at hi
      rcases hi with rfl
      ·refine anyH_op 9 rfl rfl ?_
       intro K hK
       (first | refine wpl_stw 0 (u8s (restOf m)) hm rfl rfl rfl 64 sz_b64 rfl (by rw [u8s_length];exact HR64.out) (u8s_one _) ?_ | refine wpl_stw 1 (u8s (restOf m)) hm rfl rfl rfl 64 sz_b64 rfl (by rw [u8s_length];exact HR64.out) (u8s_one _) ?_);(clear hm;intro w7 hm)
       refine wpList_nil ?_
       refine hK _ _ hm.below ?_
       clear hK K
       refine wpAnyH_done (by kernel_rfl) ⟨g3,g4,rfl,?_⟩ _
       first | exact hm | exact hm.swap
   ·refine anyH_op 7 rfl rfl ?_
    intro K hK
    (refine wpl_alloc _ zero_b64 hm ?_;clear hm;intro w5 g4 hm)
    refine wpList_nil ?_
    refine hK _ _ hm.below ?_
    clear hK K
    refine wpAnyH_all (rs:=[1]) (by kernel_rfl) (by simp) ?_
    intro i hi
    simp only [List.mem_cons,List.not_mem_nil,or_false] at hi
    rcases hi with rfl
    ·refine anyH_op 1 rfl rfl ?_
     intro K hK
     go_wp2_with ((go_at_call 178;refine (begun_any g _ _ _ HW8.out HR64.out HSM.out _ (Row.below' HR.out hm.below)).mono ?_;rintro e w3 ⟨rfl,hb⟩;replace hm:=hm.call hb;clear hb))
     refine hK _ _ hm.below ?_
     clear hK K
     refine wpAnyH_all (rs:=[8]) (by kernel_rfl) (by simp) ?_
     intro i hi
     simp only [List.mem_cons,List.not_mem_nil,or_false] at hi
     rcases hi with rfl
     ·refine anyH_op 8 rfl rfl ?_
      intro K hK
      (first | refine wpl_stw 0 (u32s (wsOf m)) hm rfl rfl rfl 8 sz_w8 rfl (by rw [u32s_length];exact HW8.out) (u32s_one _) ?_ | refine wpl_stw 1 (u32s (wsOf m)) hm rfl rfl rfl 8 sz_w8 rfl (by rw [u32s_length];exact HW8.out) (u32s_one _) ?_);(clear hm;intro w6 hm)
      refine wpList_nil ?_
      refine hK _ _ hm.below ?_
      clear hK K
      refine wpAnyH_all (rs:=[9]) (by kernel_rfl) (by simp) ?_
      intro i hi
      simp only [List.mem_cons,List.not_mem_nil,or_false] at hi
      rcases hi with rfl
      ·refine anyH_op 9 rfl rfl ?_
       intro K hK
       (first | refine wpl_stw 0 (u8s (restOf m)) hm rfl rfl rfl 64 sz_b64 rfl (by rw [u8s_length];exact HR64.out) (u8s_one _) ?_ | refine wpl_stw 1 (u8s (restOf m)) hm rfl rfl rfl 64 sz_b64 rfl (by rw [u8s_length];exact HR64.out) (u8s_one _) ?_);(clear hm;intro w7 hm)
       refine wpList_nil ?_
       refine hK _ _ hm.below ?_
       clear hK K
       refine wpAnyH_done (by kernel_rfl) ⟨g3,g4,rfl,?_⟩ _
       first | exact hm | exact hm.swap
  ·refine anyH_op 7 rfl rfl ?_
   intro K hK
   (refine wpl_alloc _ zero_b64 hm ?_;clear hm;intro w5 g4 hm)
   refine wpList_nil ?_
   refine hK _ _ hm.below ?_
   clear hK K
   refine wpAnyH_all (rs:=[1,6]) (by kernel_rfl) (by simp) ?_
   intro i hi
   simp only [List.mem_cons,List.not_mem_nil,or_false] at hi
   rcases hi with rfl | rfl
   ·refine anyH_op 1 rfl rfl ?_
    intro K hK
    go_wp2_with ((go_at_call 178;refine (begun_any g _ _ _ HW8.out HR64.out HSM.out _ (Row.below' HR.out hm.below)).mono ?_;rintro e w3 ⟨rfl,hb⟩;replace hm:=hm.call hb;clear hb))
    refine hK _ _ hm.below ?_
    clear hK K
    refine wpAnyH_all (rs:=[6]) (by kernel_rfl) (by simp) ?_
    intro i hi
    simp only [List.mem_cons,List.not_mem_nil,or_false] at hi
    rcases hi with rfl
    ·refine anyH_op 6 rfl rfl ?_
     intro K hK
     (refine wpl_alloc _ zero_w8 hm ?_;clear hm;intro w4 g3 hm)
     refine wpList_nil ?_
     refine hK _ _ hm.below ?_
     clear hK K
     refine wpAnyH_all (rs:=[8]) (by kernel_rfl) (by simp) ?_
     intro i hi
     simp only [List.mem_cons,List.not_mem_nil,or_false] at hi
     rcases hi with rfl
     ·refine anyH_op 8 rfl rfl ?_
      intro K hK
      (first | refine wpl_stw 0 (u32s (wsOf m)) hm rfl rfl rfl 8 sz_w8 rfl (by rw [u32s_length];exact HW8.out) (u32s_one _) ?_ | refine wpl_stw 1 (u32s (wsOf m)) hm rfl rfl rfl 8 sz_w8 rfl (by rw [u32s_length];exact HW8.out) (u32s_one _) ?_);(clear hm;intro w6 hm)
      refine wpList_nil ?_
      refine hK _ _ hm.below ?_
      clear hK K
      refine wpAnyH_all (rs:=[9]) (by kernel_rfl) (by simp) ?_
      intro i hi
      simp only [List.mem_cons,List.not_mem_nil,or_false] at hi
      rcases hi with rfl
      ·refine anyH_op 9 rfl rfl ?_
       intro K hK
       (first | refine wpl_stw 0 (u8s (restOf m)) hm rfl rfl rfl 64 sz_b64 rfl (by rw [u8s_length];exact HR64.out) (u8s_one _) ?_ | refine wpl_stw 1 (u8s (restOf m)) hm rfl rfl rfl 64 sz_b64 rfl (by rw [u8s_length];exact HR64.out) (u8s_one _) ?_);(clear hm;intro w7 hm)
       refine wpList_nil ?_
       refine hK _ _ hm.below ?_
       clear hK K
       refine wpAnyH_done (by kernel_rfl) ⟨g3,g4,rfl,?_⟩ _
       first | exact hm | exact hm.swap
   ·refine anyH_op 6 rfl rfl ?_
    intro K hK
    (refine wpl_alloc _ zero_w8 hm ?_;clear hm;intro w4 g3 hm)
    refine wpList_nil ?_
    refine hK _ _ hm.below ?_
    clear hK K
    refine wpAnyH_all (rs:=[1]) (by kernel_rfl) (by simp) ?_
    intro i hi
    simp only [List.mem_cons,List.not_mem_nil,or_false] at hi
    rcases hi with rfl
    ·refine anyH_op 1 rfl rfl ?_
     intro K hK
     go_wp2_with ((go_at_call 178;refine (begun_any g _ _ _ HW8.out HR64.out HSM.out _ (Row.below' HR.out hm.below)).mono ?_;rintro e w3 ⟨rfl,hb⟩;replace hm:=hm.call hb;clear hb))
     refine hK _ _ hm.below ?_
     clear hK K
     refine wpAnyH_all (rs:=[8]) (by kernel_rfl) (by simp) ?_
     intro i hi
     simp only [List.mem_cons,List.not_mem_nil,or_false] at hi
     rcases hi with rfl
     ·refine anyH_op 8 rfl rfl ?_
      intro K hK
      (first | refine wpl_stw 0 (u32s (wsOf m)) hm rfl rfl rfl 8 sz_w8 rfl (by rw [u32s_length];exact HW8.out) (u32s_one _) ?_ | refine wpl_stw 1 (u32s (wsOf m)) hm rfl rfl rfl 8 sz_w8 rfl (by rw [u32s_length];exact HW8.out) (u32s_one _) ?_);(clear hm;intro w6 hm)
      refine wpList_nil ?_
      refine hK _ _ hm.below ?_
      clear hK K
      refine wpAnyH_all (rs:=[9]) (by kernel_rfl) (by simp) ?_
      intro i hi
      simp only [List.mem_cons,List.not_mem_nil,or_false] at hi
      rcases hi with rfl
      ·refine anyH_op 9 rfl rfl ?_
       intro K hK
       (first | refine wpl_stw 0 (u8s (restOf m)) hm rfl rfl rfl 64 sz_b64 rfl (by rw [u8s_length];exact HR64.out) (u8s_one _) ?_ | refine wpl_stw 1 (u8s (restOf m)) hm rfl rfl rfl 64 sz_b64 rfl (by rw [u8s_length];exact HR64.out) (u8s_one _) ?_);(clear hm;intro w7 hm)
       refine wpList_nil ?_
       refine hK _ _ hm.below ?_
       clear hK K
       refine wpAnyH_done (by kernel_rfl) ⟨g3,g4,rfl,?_⟩ _
       first | exact hm | exact hm.swap

 ·rintro a' w' ⟨g3,g4,rfl,hm⟩
  obtain ⟨q,hq⟩:∃q,q=m.length % 64:=⟨_,rfl⟩
  have hq64:q<64:=by omega
  have hqi:(m.length:Int) % 64=(q:Int):=by omega
  have HQ:Hid _:=hq
  clear hq
  have hb64:((restOf m).set q 128).length=64:=by rw [List.length_set];exact HR64.out
  have hbb:Bytes ((restOf m).set q 128):=Bytes.set (restOf_bytes HBM.out) q 128 ⟨by omega,by omega⟩
  have HB64:Hid _:=hb64
  have HBB:Hid _:=hbb
  clear hb64 hbb
  by_cases h56:56≤q
  ·have h56i:(56:Int)≤(q:Int):=by omega
   have hfin:fin (wsOf m) (restOf m) m.length=mix (mix (wsOf m) ((restOf m).set q 128)) (splice (List.replicate 64 0) 56 (be8 (m.length * 8))):=by
    unfold fin;rw [←HQ.out,if_pos h56]
   have HF:Hid _:=hfin
   clear hfin
   go_wp2_with (first
    | ((with_reducible refine at_op (some 15) (.load 3 (.tmp 14)) ?_);refine wpl_ldr 72 (.int .i64 m.length) (Row.below' HR.out hm.below) rfl ag_int HSZ.out ?_)
    | ((with_reducible refine at_op none (.store 5 (.tmp 18) (.const (.int .u8 128))) ?_);refine wpl_stc 0 q (.int .u8 128) hm rfl (rfl) rfl sz_u8 (by rw [u8s_length,HR64.out];exact hq64) rfl rfl ?_;clear hm;intro w8 hm;rw [u8s_set] at hm)
    | ((with_reducible refine at_op (some 21) (.load 227 (.tmp 3)) ?_);refine wpl_ldw 1 hm rfl rfl _ un_w8 rfl 8 sz_w8 (by rw [u32s_length];exact HW8.out) ?_)
    | ((with_reducible refine at_op (some 22) (.load 104 (.tmp 4)) ?_);refine wpl_ldw 0 hm rfl rfl _ un_b64 rfl 64 sz_b64 (by rw [u8s_length];exact HB64.out) ?_)
    | (go_at_call 179;refine (mixed_any (wsOf m) ((restOf m).set q 128) HW8.out HB64.out (Bytes.get HBB.out) _ (Tab.below HT.out hm.below)).mono ?_;rintro e w9 ⟨rfl,hb⟩;replace hm:=hm.call hb;clear hb)
    | ((with_reducible refine at_op none (.store 227 (.tmp 3) (.tmp 23)) ?_);refine wpl_stw 1 (u32s (mix (wsOf m) ((restOf m).set q 128))) hm rfl rfl rfl 8 sz_w8 (by rw [u32s_length];exact HW8.out) (by rw [u32s_length];exact mix_length _ _ HW8.out) (u32s_one _) ?_;clear hm;intro w10 hm)
    | ((with_reducible refine at_op (some 24) (.build 104 #[]) ?_);refine wpl_build (u8s (List.replicate 64 0)) [] rfl built_b64 ?_)
    | ((with_reducible refine at_op none (.store 104 (.tmp 4) (.tmp 24)) ?_);refine wpl_stw 0 (u8s (List.replicate 64 0)) hm rfl rfl rfl 64 sz_b64 (by rw [u8s_length];exact HB64.out) (by rw [u8s_length];rfl) (u8s_one _) ?_;clear hm;intro w11 hm))

   have hlB:(List.replicate 64 (0:Int)).length=64:=rfl
   have hl8:(be8 (m.length * 8)).length=8:=rfl
   have hspl:(splice (List.replicate 64 (0:Int)) 56 (be8 (m.length * 8))).length=64:=by rw [length_splice _ _ _ (by omega),hlB]
   have hnw:splice (u8s (List.replicate 64 (0:Int))) 56 (u8s (be8 (m.length * 8)))=u8s (splice (List.replicate 64 (0:Int)) 56 (be8 (m.length * 8))):=by simp [splice,u8s]
   have HNW:Hid _:=hnw
   have HLB:Hid _:=hlB
   clear hlB hl8 hnw
   have hbs:Bytes (splice (List.replicate 64 (0:Int)) 56 (be8 (m.length * 8))):=Bytes.splice (Bytes.zeros 64) (be8_bytes _) 56
   have HSP:Hid _:=hspl
   have HBS:Hid _:=hbs
   clear hspl hbs
   refine wp_ends0 ?_
   refine anyH_start (T:=fun W=>Below w.heap.size w W) (by kernel_rfl) hm ?_
   clear hm
   intro w12 hm
   refine aT 0 (v:=.slice (some ⟨g4,56,none⟩) 8 8) rfl (by kernel_rfl) rfl (fun W _=>by go_simp) hm.below ?_
   refine aT 1 (v:=.pointer (some ⟨g,0,none⟩)) rfl (by kernel_rfl) rfl (fun W _=>rfl) hm.below ?_
   refine aT 2 (v:=.pointer (some ⟨g,0,none⟩)) rfl (by kernel_rfl) rfl (fun W _=>rfl) hm.below ?_
   refine aT 3 (v:=.pointer (some ⟨g,72,none⟩)) rfl (by kernel_rfl) rfl (fun W _=>by go_simp) hm.below ?_
   refine aT 4 (v:=.int .i64 m.length) rfl (by kernel_rfl) rfl (fun W hW=>exec_ldr 72 _ (Row.below' HR.out hW) rfl ag_int HSZ.out) hm.below ?_
   refine aT 5 (v:=.int .u64 m.length) rfl (by kernel_rfl) rfl (fun W _=>by go_simp;exact wrapu_nat _ (by omega)) hm.below ?_
   refine aT 6 (v:=.int .u64 (m.length * 8)) rfl (by kernel_rfl) rfl (fun W _=>by go_simp;rw [show (m.length:Int) * 8=((m.length * 8:Nat):Int) by omega];exact wrapu_nat _ (by omega)) hm.below ?_

   refine aP 7 (by kernel_rfl) rfl rfl ?_
   intro K hK
   go_wp2_with (go_at_call 68;refine (put_eight _ _).mono ?_;rintro e w13 ⟨g9,rfl,hg9,hr9,hb⟩;replace hm:=hm.call hb;clear hb)
   refine hK _ _ hm.below ?_
   clear hK K
   refine aP 8 (by kernel_rfl) rfl rfl ?_
   intro K hK
   refine wpl_copyN 0 56 8 8 ⟨g9,0,none⟩ 8 8 (u8s (be8 (m.length * 8))) 8 (u8s (splice (List.replicate 64 (0:Int)) 56 (be8 (m.length * 8)))) hm rfl rfl rfl _ un_bs sz_u8 rfl rfl (Seg.row hr9).src (by have h:=HLB.out;rw [u8s_length];omega) (u8s_one _) HNW.out ?_
   clear hm
   intro w14 hm
   refine wpList_nil ?_
   refine hK _ _ hm.below ?_
   clear hK K
   refine wpAnyH_done (by kernel_rfl) ?_ _
   go_simp
   simp only [endsIn]
   go_wp2_with (first
    | ((with_reducible refine at_op (some 34) (.load 227 (.tmp 3)) ?_);refine wpl_ldw 1 hm rfl rfl _ un_w8 rfl 8 sz_w8 (by rw [u32s_length];exact (mix_length _ _ HW8.out)) ?_)
    | ((with_reducible refine at_op (some 35) (.load 104 (.tmp 4)) ?_);refine wpl_ldw 0 hm rfl rfl _ un_b64 rfl 64 sz_b64 (by rw [u8s_length];exact HSP.out) ?_)
    | (go_at_call 179;refine (mixed_any (mix (wsOf m) ((restOf m).set q 128)) (splice (List.replicate 64 (0:Int)) 56 (be8 (m.length * 8))) (mix_length _ _ HW8.out) HSP.out (Bytes.get HBS.out) _ (Tab.below HT.out hm.below)).mono ?_;rintro e w15 ⟨rfl,hb⟩;replace hm:=hm.call hb;clear hb)
    | (go_at_call 180;refine (asBytes_any (mix (mix (wsOf m) ((restOf m).set q 128)) (splice (List.replicate 64 (0:Int)) 56 (be8 (m.length * 8)))) (mix_length _ _ (mix_length _ _ HW8.out)) _).mono ?_;rintro e w16 ⟨rfl,hb⟩;replace hm:=hm.call hb;clear hb)
    | ((with_reducible refine at_op none (.store 60 (.tmp 2) (.tmp 37)) ?_);refine wpl_stw 2 (u8s (asB (mix (mix (wsOf m) ((restOf m).set q 128)) (splice (List.replicate 64 (0:Int)) 56 (be8 (m.length * 8)))))) hm rfl rfl rfl 32 sz_b32 (rfl) (by rw [u8s_length];exact asB_length _ (mix_length _ _ (mix_length _ _ HW8.out))) (u8s_one _) ?_;clear hm;intro w17 hm))

   have hsha:shaOf m=asB (mix (mix (wsOf m) ((restOf m).set q 128)) (splice (List.replicate 64 (0:Int)) 56 (be8 (m.length * 8)))):=by unfold shaOf;rw [HF.out]
   rw [hsha]
   exact ret_cell 2 hm rfl Tryz.results163 rfl _ un_b32 rfl 32 sz_b32 (by rw [u8s_length];exact asB_length _ (mix_length _ _ (mix_length _ _ HW8.out))) rfl ⟨rfl,hm.below⟩

  ·have h56i:¬(56:Int)≤(q:Int):=by omega
   have hfin:fin (wsOf m) (restOf m) m.length=mix (wsOf m) (splice ((restOf m).set q 128) 56 (be8 (m.length * 8))):=by
    unfold fin;rw [←HQ.out,if_neg h56]
   have HF:Hid _:=hfin
   clear hfin
   go_wp2_with (first
    | ((with_reducible refine at_op (some 15) (.load 3 (.tmp 14)) ?_);refine wpl_ldr 72 (.int .i64 m.length) (Row.below' HR.out hm.below) rfl ag_int HSZ.out ?_)
    | ((with_reducible refine at_op none (.store 5 (.tmp 18) (.const (.int .u8 128))) ?_);refine wpl_stc 0 q (.int .u8 128) hm rfl (rfl) rfl sz_u8 (by rw [u8s_length,HR64.out];exact hq64) rfl rfl ?_;clear hm;intro w8 hm;rw [u8s_set] at hm))

   have hlB:((restOf m).set q 128).length=64:=HB64.out
   have hl8:(be8 (m.length * 8)).length=8:=rfl
   have hspl:(splice ((restOf m).set q 128) 56 (be8 (m.length * 8))).length=64:=by rw [length_splice _ _ _ (by omega),hlB]
   have hnw:splice (u8s ((restOf m).set q 128)) 56 (u8s (be8 (m.length * 8)))=u8s (splice ((restOf m).set q 128) 56 (be8 (m.length * 8))):=by simp [splice,u8s]
   have HNW:Hid _:=hnw
   have HLB:Hid _:=hlB
   clear hlB hl8 hnw
   have hbs:Bytes (splice ((restOf m).set q 128) 56 (be8 (m.length * 8))):=Bytes.splice HBB.out (be8_bytes _) 56
   have HSP:Hid _:=hspl
   have HBS:Hid _:=hbs
   clear hspl hbs
   refine wp_ends0 ?_
   refine anyH_start (T:=fun W=>Below w.heap.size w W) (by kernel_rfl) hm ?_
   clear hm
   intro w12 hm
   refine aT 0 (v:=.slice (some ⟨g4,56,none⟩) 8 8) rfl (by kernel_rfl) rfl (fun W _=>by go_simp) hm.below ?_
   refine aT 1 (v:=.pointer (some ⟨g,0,none⟩)) rfl (by kernel_rfl) rfl (fun W _=>rfl) hm.below ?_
   refine aT 2 (v:=.pointer (some ⟨g,0,none⟩)) rfl (by kernel_rfl) rfl (fun W _=>rfl) hm.below ?_
   refine aT 3 (v:=.pointer (some ⟨g,72,none⟩)) rfl (by kernel_rfl) rfl (fun W _=>by go_simp) hm.below ?_
   refine aT 4 (v:=.int .i64 m.length) rfl (by kernel_rfl) rfl (fun W hW=>exec_ldr 72 _ (Row.below' HR.out hW) rfl ag_int HSZ.out) hm.below ?_
   refine aT 5 (v:=.int .u64 m.length) rfl (by kernel_rfl) rfl (fun W _=>by go_simp;exact wrapu_nat _ (by omega)) hm.below ?_
   refine aT 6 (v:=.int .u64 (m.length * 8)) rfl (by kernel_rfl) rfl (fun W _=>by go_simp;rw [show (m.length:Int) * 8=((m.length * 8:Nat):Int) by omega];exact wrapu_nat _ (by omega)) hm.below ?_

   refine aP 7 (by kernel_rfl) rfl rfl ?_
   intro K hK
   go_wp2_with (go_at_call 68;refine (put_eight _ _).mono ?_;rintro e w13 ⟨g9,rfl,hg9,hr9,hb⟩;replace hm:=hm.call hb;clear hb)
   refine hK _ _ hm.below ?_
   clear hK K
   refine aP 8 (by kernel_rfl) rfl rfl ?_
   intro K hK
   refine wpl_copyN 0 56 8 8 ⟨g9,0,none⟩ 8 8 (u8s (be8 (m.length * 8))) 8 (u8s (splice ((restOf m).set q 128) 56 (be8 (m.length * 8)))) hm rfl rfl rfl _ un_bs sz_u8 rfl rfl (Seg.row hr9).src (by have h:=HLB.out;rw [u8s_length];omega) (u8s_one _) HNW.out ?_
   clear hm
   intro w14 hm
   refine wpList_nil ?_
   refine hK _ _ hm.below ?_
   clear hK K
   refine wpAnyH_done (by kernel_rfl) ?_ _
   go_simp
   simp only [endsIn]
   go_wp2_with (first
    | ((with_reducible refine at_op (some 34) (.load 227 (.tmp 3)) ?_);refine wpl_ldw 1 hm rfl rfl _ un_w8 rfl 8 sz_w8 (by rw [u32s_length];exact HW8.out) ?_)
    | ((with_reducible refine at_op (some 35) (.load 104 (.tmp 4)) ?_);refine wpl_ldw 0 hm rfl rfl _ un_b64 rfl 64 sz_b64 (by rw [u8s_length];exact HSP.out) ?_)
    | (go_at_call 179;refine (mixed_any (wsOf m) (splice ((restOf m).set q 128) 56 (be8 (m.length * 8))) HW8.out HSP.out (Bytes.get HBS.out) _ (Tab.below HT.out hm.below)).mono ?_;rintro e w15 ⟨rfl,hb⟩;replace hm:=hm.call hb;clear hb)
    | (go_at_call 180;refine (asBytes_any (mix (wsOf m) (splice ((restOf m).set q 128) 56 (be8 (m.length * 8)))) (mix_length _ _ HW8.out) _).mono ?_;rintro e w16 ⟨rfl,hb⟩;replace hm:=hm.call hb;clear hb)
    | ((with_reducible refine at_op none (.store 60 (.tmp 2) (.tmp 37)) ?_);refine wpl_stw 2 (u8s (asB (mix (wsOf m) (splice ((restOf m).set q 128) 56 (be8 (m.length * 8)))))) hm rfl rfl rfl 32 sz_b32 (rfl) (by rw [u8s_length];exact asB_length _ (mix_length _ _ HW8.out)) (u8s_one _) ?_;clear hm;intro w17 hm))

   have hsha:shaOf m=asB (mix (wsOf m) (splice ((restOf m).set q 128) 56 (be8 (m.length * 8)))):=by unfold shaOf;rw [HF.out]
   rw [hsha]
   exact ret_cell 2 hm rfl Tryz.results163 rfl _ un_b32 rfl 32 sz_b32 (by rw [u8s_length];exact asB_length _ (mix_length _ _ HW8.out)) rfl ⟨rfl,hm.below⟩
open Go Go.RowKit
def strOf (ns:List Int):ByteArray:=⟨(ns.map fun n=>UInt8.ofNat n.toNat).toArray⟩
theorem fold_push (ns:List Int):∀s:ByteArray,ns.foldl (fun r n=>r.push (UInt8.ofNat n.toNat)) s=⟨s.data++(ns.map fun n=>UInt8.ofNat n.toNat).toArray⟩:=by
 induction ns with
 | nil=>intro s;simp
 | cons n ns ih =>
  intro s
  rw [List.foldl_cons,ih]
  simp [ByteArray.push]
theorem strOf_size (ns:List Int):(strOf ns).size=ns.length:=by simp [strOf,ByteArray.size]
theorem byte_back {x y:Int} (hx:0≤x∧x<256) (hy:0≤y∧y<256) (h:UInt8.ofNat x.toNat=UInt8.ofNat y.toNat):x=y:=by
 have h':=congrArg UInt8.toNat h
 simp at h'
 omega
theorem byte_val {x:Int} (hx:0≤x∧x<256):((UInt8.ofNat x.toNat).toNat:Int)=x:=by
 simp
 omega
theorem strOf_inj {a b:List Int} (ha:Bytes a) (hb:Bytes b) (h:strOf a=strOf b):a=b:=by
 have h1:(a.map fun n=>UInt8.ofNat n.toNat)=(b.map fun n=>UInt8.ofNat n.toNat):=by
  have:=congrArg ByteArray.data h
  simpa [strOf] using this
 clear h
 induction a generalizing b with
 | nil =>
  cases b with
  | nil=>rfl
  | cons y b=>simp at h1
 | cons x a ih =>
  cases b with
  | nil=>simp at h1
  | cons y b =>
   simp only [List.map_cons,List.cons.injEq] at h1
   rw [byte_back (ha x (by simp)) (hb y (by simp)) h1.1,ih (fun z hz=>ha z (by simp [hz])) (fun z hz=>hb z (by simp [hz])) h1.2]
theorem strOf_eq {a b:List Int} (ha:Bytes a) (hb:Bytes b):(strOf a==strOf b)=decide (a=b):=by
 rw [beq_toListBytes,Bool.eq_iff_iff,beq_iff_eq,decide_eq_true_iff]
 refine ⟨fun h=>strOf_inj ha hb ?_,fun h=>by rw [h]⟩
 rw [ByteArray.toList_eq,ByteArray.toList_eq] at h
 have:=congrArg List.toArray h
 simp only [Array.toArray_toList] at this
 cases hx:strOf a
 cases hy:strOf b
 rw [hx,hy] at this
 simp only at this
 rw [this]
theorem strOf_get (ns:List Int) (h:Bytes ns) (j:Nat) (hj:j<ns.length):∃b,(strOf ns).data[j]?=some b∧(b.toNat:Int)=ns.getD j 0:=by
 refine ⟨UInt8.ofNat (ns.getD j 0).toNat,by simp [strOf,hj],byte_val (h.get j)⟩
section
variable {P:Program} {ops:Array Oper} {rest:List Oper} {a:Act} {w w0:World} {Q:Exit→Act→World→Prop} {dst:Option Tmp} {typ:TypeId} {pos:String} {aft:Array Edge} {S:List Nat} {rows:List (Nat×List Value×TypeId)}
theorem wpl_tostr {sT dT e:TypeId} {x:Operand} (hs:P.underlying sT=some (.slice e)) (he:P.underlying e=some (.int .u8)) (hd:P.underlying dT=some .string) (ns:List Int) {g cap:Nat} {t:TypeId} (n:Nat) (hr:Row w g (u8s ns) t) (hn:ns.length=n) (hx:a.eval x=.slice (some ⟨g,0,none⟩) n cap)
  (h:wpList P ops Q rest (a.put dst (.string (strOf ns))) w) :
  wpList P ops Q ({dst:=dst,op:=.convert sT dT x,type:=typ,pos:=pos,after:=aft,guard:=none}::rest) a w:=by
 refine wpList_plain rfl fun K hK=>?_
 have hh:=hK _ _ h
 have hl:(loadCells ⟨g,0,none⟩ n).run P w=.ok (ns.map (Value.int .u8)).toArray w:=by
  have:=run_loadCells_list (P:=P) w ⟨g,0,none⟩ (u8s ns) (Seg.row hr).src
  rw [u8s_length,hn] at this
  exact this
 have hc:(convert sT dT (.slice (some ⟨g,0,none⟩) n cap)).run P w=.ok (.string (strOf ns)) w:=by
  rw [run_convert_bytes_string w sT dT e _ n cap hs he hd,run_bytesToString w _ n cap ns hl,fold_push]
  have e:ByteArray.empty.data=#[]:=rfl
  rw [e,Array.empty_append]
  rfl
 unfold Oper.wp execOp
 simp only [hx,hc,Sem.run_bind,Sem.run_pure,Result.andThen_ok]
 exact hh
theorem run_ixs (w:World) {ty:TypeId} (hu:P.underlying ty=some .string) (s:ByteArray) {k:IntKind} {i:Int} (j:Nat) (b:UInt8) (hi:i=(j:Int)) (hb:s.data[j]?=some b):(Instr.index ty (.string s) (.int k i)).run P w=.ok (.int .u8 b.toNat) w:=by
 subst hi
 have hj:j<s.size:=by
  rcases Nat.lt_or_ge j s.data.size with h | h
  ·exact h
  ·rw [Array.getElem?_eq_none h] at hb;cases hb
 have hg:s[j]=b:=by
  have:s.data[j]?=some s.data[j]:=by simp
  rw [this] at hb
  exact Option.some.inj hb
 rw [run_index_string w ty s k (j:Int) hu,dif_pos ⟨by omega,by omega⟩]
 simp [hg]
theorem exec_ixs {gd:Option (Nat×Bool)} {ty:TypeId} {x ix:Operand} (hu:P.underlying ty=some .string) (s:ByteArray) {k:IntKind} {i:Int} (j:Nat) (v:Int) (hx:a.eval x=.string s) (hix:a.eval ix=.int k i) (hi:i=(j:Int)) (hb:∃b,s.data[j]?=some b∧(b.toNat:Int)=v) :
  (execOp a.eval {dst:=dst,op:=.index ty x ix,type:=typ,pos:=pos,after:=aft,guard:=gd}).run P w=.ok (.value (.int .u8 v)) w:=by
 obtain ⟨b,hb,rfl⟩:=hb
 unfold execOp
 simp only [hx,hix,run_ixs w hu s j b hi hb,Sem.run_bind,Sem.run_pure,Result.andThen_ok]
theorem wpl_ixs {ty:TypeId} {x ix:Operand} (hu:P.underlying ty=some .string) (s:ByteArray) {k:IntKind} {i:Int} (j:Nat) (v:Int) (hx:a.eval x=.string s) (hix:a.eval ix=.int k i) (hi:i=(j:Int)) (hb:∃b,s.data[j]?=some b∧(b.toNat:Int)=v)
  (h:wpList P ops Q rest (a.put dst (.int .u8 v)) w) :
  wpList P ops Q ({dst:=dst,op:=.index ty x ix,type:=typ,pos:=pos,after:=aft,guard:=none}::rest) a w:=by
 obtain ⟨b,hb,rfl⟩:=hb
 refine wpList_plain rfl fun K hK=>?_
 have hh:=hK _ _ h
 unfold Oper.wp execOp
 simp only [hx,hix,run_ixs w hu s j b hi hb,Sem.run_bind,Sem.run_pure,Result.andThen_ok]
 exact hh
end
def digs:ByteArray:={data:=#[48,49,50,51,52,53,54,55,56,57,97,98,99,100,101,102]}
theorem digs_all:∀j:Fin 16,(digs.data[j.val]?).map (fun b=>(b.toNat:Int))=some (hexDigit (j.val:Int)):=by decide +kernel
theorem digs_at (x:Int) (j:Nat) (hx:x=(j:Int)) (hj:j<16):∃b,digs.data[j]?=some b∧(b.toNat:Int)=hexDigit x:=by
 subst hx
 exact Option.map_eq_some_iff.1 (digs_all ⟨j,hj⟩)
theorem hexDigit_byte (x:Int):0≤hexDigit x∧hexDigit x<256:=by
 have:Bytes [48,49,50,51,52,53,54,55,56,57,97,98,99,100,101,102]:=by
  intro y hy
  simp only [List.mem_cons,List.not_mem_nil,or_false] at hy
  omega
 exact this.get _
theorem hexDigit_inj {x y:Int} (hx:0≤x∧x<16) (hy:0≤y∧y<16) (h:hexDigit x=hexDigit y):x=y:=by
 have key:∀i j:Fin 16,hexDigit (i.val:Int)=hexDigit (j.val:Int)→i=j:=by decide +kernel
 have:=key ⟨x.toNat,by omega⟩ ⟨y.toNat,by omega⟩ (by simpa [Int.toNat_of_nonneg hx.1,Int.toNat_of_nonneg hy.1] using h)
 have:=congrArg Fin.val this
 simp at this
 omega
theorem hexOf_bytes (l:List Int):Bytes (hexOf l):=by
 intro y hy
 obtain ⟨c,_,hc⟩:=List.mem_flatMap.1 hy
 simp only [List.mem_cons,List.not_mem_nil,or_false] at hc
 rcases hc with rfl | rfl
 ·exact hexDigit_byte _
 ·exact hexDigit_byte _
theorem hexOf_length (l:List Int):(hexOf l).length=2 * l.length:=by
 induction l with
 | nil=>rfl
 | cons x l ih=>simp [hexOf] at ih ⊢;omega
theorem hexOf_get (l:List Int):∀k,k<l.length→(hexOf l).getD (2 * k) 0=hexDigit (l.getD k 0 / 16)∧(hexOf l).getD (2 * k+1) 0=hexDigit (l.getD k 0 % 16):=by
 induction l with
 | nil=>intro k hk;simp at hk
 | cons x l ih =>
  intro k hk
  cases k with
  | zero=>exact ⟨rfl,rfl⟩
  | succ k =>
   have:=ih k (by simpa using hk)
   exact this
theorem hexOf_inj {a b:List Int} (hl:a.length=b.length) (ha:Bytes a) (hb:Bytes b) (h:hexOf a=hexOf b):a=b:=by
 induction a generalizing b with
 | nil =>
  cases b with
  | nil=>rfl
  | cons y b=>simp at hl
 | cons x a ih =>
  cases b with
  | nil=>simp at hl
  | cons y b =>
   have h':hexDigit (x / 16)::hexDigit (x % 16)::hexOf a=hexDigit (y / 16)::hexDigit (y % 16)::hexOf b:=h
   simp only [List.cons.injEq] at h'
   obtain ⟨h1,h2,h3⟩:=h'
   have bx:=ha x (by simp)
   have bY:=hb y (by simp)
   have e1:=hexDigit_inj ⟨by omega,by omega⟩ ⟨by omega,by omega⟩ h1
   have e2:=hexDigit_inj ⟨by omega,by omega⟩ ⟨by omega,by omega⟩ h2
   rw [show x=y by omega,ih (by simpa using hl) (fun z hz=>ha z (by simp [hz])) (fun z hz=>hb z (by simp [hz])) h3]
def hexRow (l:List Int) (k:Nat):List Int:=hexOf (l.take k)++List.replicate (64 - 2 * k) 0
theorem hexRow_length (l:List Int) (h:l.length=32) (k:Nat) (hk:k≤32):(hexRow l k).length=64:=by simp [hexRow,hexOf_length,h];omega
theorem hexRow_full (l:List Int) (h:l.length=32):hexRow l 32=hexOf l:=by
 unfold hexRow
 rw [List.take_of_length_le (by omega)]
 simp
theorem hexRow_step (l:List Int) (h:l.length=32) (k:Nat) (hk:k<32):((hexRow l k).set (2 * k) (hexDigit (l.getD k 0 / 16))).set (2 * k+1) (hexDigit (l.getD k 0 % 16))=hexRow l (k+1):=by
 have hl:(hexOf (l.take k)).length=2 * k:=by rw [hexOf_length];simp;omega
 have hg:l.getD k 0=l[k]'(by omega):=by simp [show k<l.length by omega]
 have e3:hexOf (l.take (k+1))=hexOf (l.take k)++[hexDigit (l.getD k 0 / 16),hexDigit (l.getD k 0 % 16)]:=by
  unfold hexOf
  rw [List.take_succ_eq_append_getElem (by omega),List.flatMap_append,hg,List.flatMap_cons,List.flatMap_nil,List.append_nil]
 unfold hexRow
 rw [List.set_append_right _ _ (by omega),List.set_append_right _ _ (by omega),hl,Nat.sub_self,show 2 * k+1 - 2 * k=1 by omega,show 64 - 2 * k=(64 - 2 * (k+1))+1+1 by omega,List.replicate_succ,List.replicate_succ,e3]
 simp
open Go Go.RowKit
theorem grown_of_below {w w':World} (h:Below w.heap.size w w'):w.grownBy w' none:=⟨h.os,h.tape,h.output,h.size,fun k hk _=>h.block k hk⟩
theorem grown_of_upd {w w':World} {g:Nat} (h:Upd g w w'):w.grownBy w' (some g):=⟨h.os,h.tape,h.output,h.size,fun k hk hn=>h.block k hk (fun e=>hn (by rw [e]))⟩
def OwnB (e:TypeId) (w:World) (base:Nat) (v:Value) (zs:List Int):Prop:=w.ownsRow base e 1 v zs.length (u8s zs)
section
variable {e:TypeId} {w w' w0:World} {base:Nat} {v:Value} {zs:List Int} {S:List Nat} {rows:List (Nat×List Value×TypeId)}
theorem OwnB.nil (e:TypeId) (w:World) (base:Nat):OwnB e w base (.slice none 0 0) []:=World.ownsRow_nil w base e 1
theorem OwnB.below (h:OwnB e w base v zs) (hb:Below w.heap.size w w'):OwnB e w' base v zs:=World.ownsRow.kept h (grown_of_below hb) (by cases h':v.ownBlock<;>simp)
theorem OwnB.alloc (h:OwnB e w base v zs) (o:Obj):OwnB e (w.alloc o) base v zs:=World.ownsRow.alloc h o
theorem OwnB.apart (h:OwnB e w base v zs) {g:Nat} {l:List Value} {t:TypeId} (hr:Row w g l t) (ht:t≠e):v.ownBlock≠some g:=by
 obtain ⟨_,h2⟩:=h
 rcases h2 with ⟨rfl,_⟩ | ⟨g',cap,cur,rfl,_,hh,_⟩
 ·simp [Value.ownBlock]
 ·intro he
  have hg:g'=g:=by simpa [Value.ownBlock] using he
  subst hg
  rw [hr] at hh
  simp only [Option.some.injEq,Obj.cells.injEq] at hh
  exact ht hh.2.1
theorem OwnB.upd (h:OwnB e w base v zs) {g:Nat} {l:List Value} {t:TypeId} (hr:Row w g l t) (ht:t≠e) (hu:Upd g w w'):OwnB e w' base v zs :=
 World.ownsRow.kept h (grown_of_upd hu) (Or.inr (h.apart hr ht))
theorem OwnB.old (h:OwnB e w base v zs):∃p cap,v=.slice p zs.length cap∧zs.length≤cap∧(0<zs.length→∃b off,p=some ⟨b,off,none⟩∧Seg w b off zs):=by
 have h0:=h
 obtain ⟨_,h2⟩:=h
 rcases h2 with ⟨rfl,hn⟩ | ⟨g,cap,cur,rfl,hb,hh,hn,_,_,_⟩
 ·exact ⟨none,0,by rw [hn],by omega,fun h=>absurd h (by omega)⟩
 ·refine ⟨_,cap,rfl,hn,fun _=>⟨g,0,rfl,fun j hj=>?_⟩⟩
  have:=World.ownsRow.cells h0 rfl j (.int .u8 (zs.getD j 0)) (u8s_get zs j hj)
  rw [add_at] at this
  exact this
theorem Mem.grown (hm:Mem w0 S w rows) (h:OwnB e w w0.heap.size v zs) (hty:∀r∈rows,r.2.2≠e) (hg:w.grownBy w' v.ownBlock):Mem w0 S w' rows:=by
 have hl:=World.ownsRow.lt h
 refine ⟨hg.os.trans hm.os,hg.tape.trans hm.tape,hg.output.trans hm.output,Nat.le_trans hm.size hg.size,fun k hk hn=>?_,fun r hr=>?_,hm.nodup,hm.fresh⟩
 ·refine (hg.block k (Nat.lt_of_lt_of_le hk hm.size) (fun he=>?_)).trans (hm.block k hk hn)
  have:=(hl k he.symm).1
  omega
 ·have hrow:=hm.row r hr
  unfold Row
  rw [hg.block r.1 hrow.lt (fun he=>h.apart hrow (hty r hr) he.symm)]
  exact hrow
theorem run_app {P:Program} (t ty:TypeId) (ht:P.underlying t=some (.slice e)) (hi:(P.info? e).map (fun i=>(i.zero,i.size,i.bytes))=some (some (.int .u8 0),1,1)) (h:OwnB e w base v zs) (ps:Option Addr) (c:Nat) (ys:List Int)
  (hs:0<ys.length→∃b off,ps=some ⟨b,off,none⟩∧Seg w b off ys) (hlen:zs.length+ys.length≤1099511627776) (hbase:base≤w.heap.size) :
  ∃v' w',(Builtin.append_ #[t,t] ty #[v,.slice ps ys.length c]).run P w=.ok v' w'∧OwnB e w' base v' (zs++ys)∧w.grownBy w' v.ownBlock:=by
 cases hq:P.info? e with
 | none=>simp [hq] at hi
 | some i =>
  simp only [hq,Option.map_some,Option.some.injEq,Prod.mk.injEq] at hi
  obtain ⟨hz,h1,h2⟩:=hi
  by_cases h0:0<ys.length
  ·obtain ⟨b,off,rfl,hseg⟩:=hs h0
   obtain ⟨v',w',hr,hown,hgr,_,_⟩:=run_append_own_at (P:=P) w base t ty e i (.int .u8 0) 1 1 ht hq hz h1 h2 rfl (by omega) v zs.length (u8s zs) h ⟨b,off,none⟩ ys.length c (u8s ys) (by rw [u8s_length];omega) hseg.src (u8s_one _) (by unfold maxLen;omega) (by omega) hbase
   refine ⟨v',w',hr,?_,hgr⟩
   unfold OwnB
   rw [List.length_append,show u8s (zs++ys)=u8s zs++u8s ys by simp [u8s]]
   exact hown
  ·have hy:ys=[]:=List.eq_nil_of_length_eq_zero (by omega)
   subst hy
   refine ⟨v,w,?_,by rw [List.append_nil];exact h,⟨rfl,rfl,rfl,Nat.le_refl _,fun _ _ _=>rfl⟩⟩
   obtain ⟨_,h3⟩:=h
   have hld:∀a:Addr,(loadCells a 0).run P w=.ok #[] w:=fun a=>rfl
   rcases h3 with ⟨rfl,_⟩ | ⟨g,cap,cur,rfl,_,_,hn,_⟩
   ·cases ps<;>simp [Builtin.append_,run_underlying ht,sizeOf,typeInfo,hq,Builtin.lenOf,Builtin.firstCells,hld]
   ·cases ps<;>simp [Builtin.append_,run_underlying ht,sizeOf,typeInfo,hq,Builtin.lenOf,Builtin.firstCells,hld,hn,storeCells]
end
section
variable {P:Program} {ops:Array Oper} {rest:List Oper} {a:Act} {w w0:World} {Q:Exit→Act→World→Prop} {dst:Option Tmp} {typ:TypeId} {pos:String} {aft:Array Edge} {gd:Option (Nat×Bool)} {S:List Nat} {rows:List (Nat×List Value×TypeId)}
theorem wpl_app {s x:Operand} {t e:TypeId} (hw:Region.wanted {dst:=dst,op:=.call {callee:=.builtin .append,args:=#[s,x],argTypes:=#[t,t]},type:=typ,pos:=pos,after:=aft,guard:=gd} (yielded ops a.tmps)=true)
  (ht:P.underlying t=some (.slice e)) (hi:(P.info? e).map (fun i=>(i.zero,i.size,i.bytes))=some (some (.int .u8 0),1,1)) {v:Value} {zs:List Int} (ys:List Int) {ps:Option Addr} {n c:Nat} (hm:Mem w0 S w rows) (hown:OwnB e w w0.heap.size v zs) (hty:∀r∈rows,r.2.2≠e)
  (hs:a.eval s=v) (hx:a.eval x=.slice ps n c) (hn:n=ys.length) (hsrc:0<ys.length→∃b off,ps=some ⟨b,off,none⟩∧Seg w b off ys) (hlen:zs.length+ys.length≤1099511627776)
  (h:∀v' w',OwnB e w' w0.heap.size v' (zs++ys)→Mem w0 S w' rows→wpList P ops Q rest (a.put dst v') w') :
  wpList P ops Q ({dst:=dst,op:=.call {callee:=.builtin .append,args:=#[s,x],argTypes:=#[t,t]},type:=typ,pos:=pos,after:=aft,guard:=gd}::rest) a w:=by
 subst hn
 obtain ⟨v',w',hr,ho,hg⟩:=run_app (P:=P) t typ ht hi hown ps c ys hsrc hlen hm.size
 refine wpList_step fun K hK=>?_
 rw [if_pos hw]
 have hh:=hK _ _ (h v' w' ho (hm.grown hown hty hg))
 unfold Oper.wp execOp
 simp only [resolve,invoke,builtin,Sem.run_bind,Sem.run_pure,Result.andThen_ok,List.map_toArray,List.map_cons,List.map_nil,hs,hx,hr]
 exact hh
end
end Go.Proofs.YtdkkdkgdaambiaaGreatDoor
namespace Go.Proofs.YtdkkdkgdaambiaaGreatDoor
open Go Go.RowKit
section
variable {P:Program} {ops:Array Oper} {rest:List Oper} {a:Act} {w w0:World} {Q:Exit→Act→World→Prop} {dst:Option Tmp} {typ:TypeId} {pos:String} {aft:Array Edge} {gd:Option (Nat×Bool)} {S:List Nat} {rows:List (Nat×List Value×TypeId)}
theorem wpl_ldx {ty:TypeId} {x:Operand} {b j:Nat} (v:Value) (hc:w.cell? ⟨b,j,none⟩=some v) (hx:a.eval x=.pointer (some ⟨b,j,none⟩)) (ha:∀w,(isAgg ty).run P w=.ok false w)
  (h:wpList P ops Q rest (a.put dst v) w):wpList P ops Q ({dst:=dst,op:=.load ty x,type:=typ,pos:=pos,after:=aft,guard:=none}::rest) a w:=by
 refine wpList_plain rfl fun K hK=>?_
 have hh:=hK _ _ h
 have hld:(loadVar ty ⟨b,j,none⟩).run P w=.ok v w:=by simp [loadVar,ha,go_sem,hc]
 unfold Oper.wp execOp
 simp only [hx,Instr.loadAt,Instr.sureAddr,Sem.run_bind,Sem.run_pure,Result.andThen_ok,hld]
 exact hh
end
end Go.Proofs.YtdkkdkgdaambiaaGreatDoor
namespace Go.Proofs.YtdkkdkgdaambiaaGreatDoor
open Go Go.RowKit
def Later (w:World) (v v':Value):Prop:=v'.ownBlock=v.ownBlock∨∀j,v'.ownBlock=some j→w.heap.size≤j
theorem Later.refl (w:World) (v:Value):Later w v v:=Or.inl rfl
theorem Later.step {w w1:World} {v v1 v2:Value} (h:Later w v v1) (hs:w.heap.size≤w1.heap.size) (h2:v2.ownBlock=v1.ownBlock∨v2.ownBlock=some w1.heap.size):Later w v v2:=by
 rcases h2 with h2 | h2
 ·rcases h with h | h
  ·exact Or.inl (h2.trans h)
  ·exact Or.inr (fun j hj=>h j (h2.symm.trans hj))
 ·refine Or.inr (fun j hj=>?_)
  rw [h2] at hj
  cases hj
  exact hs
theorem grown_then {w w1 w2:World} {v v1:Value} (hg:w.grownBy w1 v.ownBlock) (hl:Later w v v1) (hg2:w1.grownBy w2 v1.ownBlock):w.grownBy w2 v.ownBlock:=by
 refine hg.andThen hg2 (fun j hj=>?_)
 rcases hl with hl | hl
 ·exact Or.inr (hl.symm.trans hj)
 ·exact Or.inl (hl j hj)
section
variable {P:Program} {ops:Array Oper} {rest:List Oper} {a:Act} {w:World} {Q:Exit→Act→World→Prop} {dst:Option Tmp} {typ:TypeId} {pos:String} {aft:Array Edge} {gd:Option (Nat×Bool)}
theorem wpl_appG {s x:Operand} {t e:TypeId} (hw:Region.wanted {dst:=dst,op:=.call {callee:=.builtin .append,args:=#[s,x],argTypes:=#[t,t]},type:=typ,pos:=pos,after:=aft,guard:=gd} (yielded ops a.tmps)=true)
  (ht:P.underlying t=some (.slice e)) (hi:(P.info? e).map (fun i=>(i.zero,i.size,i.bytes))=some (some (.int .u8 0),1,1)) {v:Value} {zs:List Int} (ys:List Int) {b off n c base:Nat} (hown:OwnB e w base v zs) (hbase:base≤w.heap.size)
  (hs:a.eval s=v) (hx:a.eval x=.slice (some ⟨b,off,none⟩) n c) (hn:n=ys.length) (hsrc:Seg w b off ys) (hlen:zs.length+ys.length≤1099511627776)
  (h:∀v' w',OwnB e w' base v' (zs++ys)→w.grownBy w' v.ownBlock→(v'.ownBlock=v.ownBlock∨v'.ownBlock=some w.heap.size)→wpList P ops Q rest (a.put dst v') w') :
  wpList P ops Q ({dst:=dst,op:=.call {callee:=.builtin .append,args:=#[s,x],argTypes:=#[t,t]},type:=typ,pos:=pos,after:=aft,guard:=gd}::rest) a w:=by
 subst hn
 cases hq:P.info? e with
 | none=>simp [hq] at hi
 | some i =>
  simp only [hq,Option.map_some,Option.some.injEq,Prod.mk.injEq] at hi
  obtain ⟨hz,h1,h2⟩:=hi
  obtain ⟨v',w',hr,ho,hg,_,hv⟩:=run_append_own_at (P:=P) w base t typ e i (.int .u8 0) 1 1 ht hq hz h1 h2 rfl (by omega) v zs.length (u8s zs) hown ⟨b,off,none⟩ ys.length c (u8s ys) (by rw [u8s_length];omega) hsrc.src (u8s_one _) (by unfold maxLen;omega) (by omega) hbase
  refine wpList_step fun K hK=>?_
  rw [if_pos hw]
  have hh:=hK _ _ (h v' w' (by unfold OwnB;rw [List.length_append,show u8s (zs++ys)=u8s zs++u8s ys by simp [u8s]];exact ho) hg hv)
  unfold Oper.wp execOp
  simp only [resolve,invoke,builtin,Sem.run_bind,Sem.run_pure,Result.andThen_ok,List.map_toArray,List.map_cons,List.map_nil,hs,hx,hr]
  exact hh
end
end Go.Proofs.YtdkkdkgdaambiaaGreatDoor
