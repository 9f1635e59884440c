import Derived.Test.YtdkkdkgdaambiaaGreatDoorRows
import Derived.Test.YtdkkdkgdaambiaaGreatDoorQa00
import Derived.Deep.QuietTactic
import Derived.BigQuiet
import Derived.StillTailTactics
set_option maxRecDepth 100000
namespace Go.Proofs.YtdkkdkgdaambiaaGreatDoor
open Go Go.RowKit
theorem info_b64:(Tryz.prog.info? 104).map (fun i=>(i.zero,i.size))=some (some (.agg (u8s (List.replicate 64 0)).toArray),64):=by kernel_rfl
theorem zero_b64:∀w,(zeroValue 104).run Tryz.prog w=.ok (.agg (u8s (List.replicate 64 0)).toArray) w:=(zero_of_info info_b64).1
theorem sz_b64:(Tryz.prog.info? 104).map (·.size)=some 64:=(zero_of_info info_b64).2
theorem info_b32:(Tryz.prog.info? 60).map (fun i=>(i.zero,i.size))=some (some (.agg (u8s (List.replicate 32 0)).toArray),32):=by kernel_rfl
theorem zero_b32:∀w,(zeroValue 60).run Tryz.prog w=.ok (.agg (u8s (List.replicate 32 0)).toArray) w:=(zero_of_info info_b32).1
theorem sz_b32:(Tryz.prog.info? 60).map (·.size)=some 32:=(zero_of_info info_b32).2
theorem info_b4:(Tryz.prog.info? 78).map (fun i=>(i.zero,i.size))=some (some (.agg (u8s [0,0,0,0]).toArray),4):=by kernel_rfl
theorem zero_b4:∀w,(zeroValue 78).run Tryz.prog w=.ok (.agg (u8s [0,0,0,0]).toArray) w:=(zero_of_info info_b4).1
theorem sz_b4:(Tryz.prog.info? 78).map (·.size)=some 4:=(zero_of_info info_b4).2
theorem info_w8:(Tryz.prog.info? 227).map (fun i=>(i.zero,i.size))=some (some (.agg (u32s (List.replicate 8 0)).toArray),8):=by kernel_rfl
theorem zero_w8:∀w,(zeroValue 227).run Tryz.prog w=.ok (.agg (u32s (List.replicate 8 0)).toArray) w:=(zero_of_info info_w8).1
theorem sz_w8:(Tryz.prog.info? 227).map (·.size)=some 8:=(zero_of_info info_w8).2
theorem info_w64:(Tryz.prog.info? 244).map (fun i=>(i.zero,i.size))=some (some (.agg (u32s (List.replicate 64 0)).toArray),64):=by kernel_rfl
theorem zero_w64:∀w,(zeroValue 244).run Tryz.prog w=.ok (.agg (u32s (List.replicate 64 0)).toArray) w:=(zero_of_info info_w64).1
theorem sz_w64:(Tryz.prog.info? 244).map (·.size)=some 64:=(zero_of_info info_w64).2
theorem sz_u8:(Tryz.prog.info? 5).map (·.size)=some 1:=by kernel_rfl
theorem ag_u8:∀w,(isAgg 5).run Tryz.prog w=.ok false w:=by intro w;simp [go_sem]
theorem sz_u32:(Tryz.prog.info? 30).map (·.size)=some 1:=by kernel_rfl
theorem ag_u32:∀w,(isAgg 30).run Tryz.prog w=.ok false w:=by intro w;simp [go_sem]
theorem un_b64:Tryz.prog.underlying 104=some (.array 64 5):=Tryz.underlying104
theorem un_b32:Tryz.prog.underlying 60=some (.array 32 5):=Tryz.underlying60
theorem un_b4:Tryz.prog.underlying 78=some (.array 4 5):=Tryz.underlying78
theorem un_w8:Tryz.prog.underlying 227=some (.array 8 30):=Tryz.underlying227
theorem un_w64:Tryz.prog.underlying 244=some (.array 64 30):=Tryz.underlying244
theorem un_bs:Tryz.prog.underlying 22=some (.slice 5):=Tryz.underlying22
set_option maxHeartbeats 400000 in
theorem rotr_any (x n:Int) (w:World) (hn0:0≤n) (hn1:n<32) :
  Calls Tryz.prog 188 #[.int .u32 x,.int .i64 n] w fun e w'=>e=.returned (.int .u32 (rotr x n))∧w'=w:=by
 have hn:n % 32=n:=by omega
 go_enter Tryz.func188,Tryz.ntmps188
 go_wp2
 go_ret
 exact ⟨rfl,rfl⟩
set_option maxHeartbeats 400000 in
theorem putBig_any (x:Int) (w:World) :
  Calls Tryz.prog 64 #[.int .u32 x] w fun e w'=>e=.returned (.agg (u8s (four x)).toArray)∧Below w.heap.size w w':=by
 go_enter Tryz.func64,Tryz.ntmps64
 go_wp2
 refine bodyPost_ret (v:=.agg (u8s (four x)).toArray) (by simp [results,Tryz.results64,go_sem,u8s,four]) rfl ⟨rfl,?_⟩
 exact (Below.refl _ _).alloc (Nat.le_refl _) _
set_option maxHeartbeats 400000 in
theorem firstFour_any (b off cap:Nat) (cs:List Int) (hcs:cs.length=4) (w:World) (hc:Seg w b off cs) :
  Calls Tryz.prog 86 #[.slice (some ⟨b,off,none⟩) 4 cap] w fun e w'=>e=.returned (.agg (u8s cs).toArray)∧Below w.heap.size w w':=by
 have hm:=Mem.start w
 go_enter Tryz.func86,Tryz.ntmps86
 go_wp2_with (first
  | ((with_reducible refine at_op (some 2) (.alloc 78) ?_);refine wpl_alloc _ zero_b4 hm ?_;clear hm;intro w1 g1 hm)
  | ((with_reducible refine at_op (some 3) (.alloc 78) ?_);refine wpl_alloc _ zero_b4 hm ?_;clear hm;intro w2 g2 hm)
  | ((with_reducible refine at_op (some 6) (.call {callee:=.builtin .copy,args:=#[.tmp 4,.tmp 5],argTypes:=#[22,22]}) ?_);refine wpl_copy 0 0 4 4 ⟨b,off,none⟩ 4 cap (u8s cs) hm rfl rfl rfl _ un_bs sz_u8 (by simp [u8s_length,hcs]) (hc.mem hm (by simp)).src (by simp [u8s_length,hcs]) (u8s_one _) ?_;clear hm;intro w3 hm;rw [splice_all _ _ (by simp [u8s_length,hcs])] at hm)
  | ((with_reducible refine at_op (some 7) (.load 78 (.tmp 3)) ?_);refine wpl_ldw 0 hm rfl rfl _ un_b4 rfl 4 sz_b4 (by simp [u8s_length,hcs]) ?_)
  | ((with_reducible refine at_op none (.store 78 (.tmp 2) (.tmp 7)) ?_);refine wpl_stw 1 (u8s cs) hm rfl rfl rfl 4 sz_b4 (by simp [u8s_length]) (by simp [u8s_length,hcs]) (u8s_one _) ?_;clear hm;intro w4 hm))
 exact ret_cell 1 hm rfl Tryz.results86 rfl _ un_b4 rfl 4 sz_b4 (by simp [u8s_length,hcs]) rfl ⟨rfl,hm.below⟩
set_option maxHeartbeats 400000 in
theorem big_any (b off cap:Nat) (c0 c1 c2 c3:Int) (w:World) (hc:Seg w b off [c0,c1,c2,c3]) (h0:0≤c0∧c0<256) (h1:0≤c1∧c1<256) (h2:0≤c2∧c2<256) (h3:0≤c3∧c3<256) :
  Calls Tryz.prog 52 #[.slice (some ⟨b,off,none⟩) 4 cap] w fun e w'=>e=.returned (.int .u32 (big4 c0 c1 c2 c3))∧Below w.heap.size w w':=by
 obtain ⟨h00,h01⟩:=h0
 obtain ⟨h10,h11⟩:=h1
 obtain ⟨h20,h21⟩:=h2
 obtain ⟨h30,h31⟩:=h3
 have hm:=Mem.start w
 go_enter Tryz.func52,Tryz.ntmps52
 go_wp2_with (first
  | (go_at_call 86;refine (firstFour_any b off cap [c0,c1,c2,c3] rfl _ (hc.mem hm (by simp))).mono ?_;rintro e w1 ⟨rfl,hb⟩;replace hm:=hm.call hb;clear hb)
  | ((with_reducible refine at_op (some 3) (.alloc 78) ?_);refine wpl_alloc _ zero_b4 hm ?_;clear hm;intro w2 g2 hm)
  | ((with_reducible refine at_op none (.store 78 (.tmp 3) (.tmp 5)) ?_);refine wpl_stw 0 (u8s [c0,c1,c2,c3]) hm rfl rfl rfl 4 sz_b4 (by simp [u8s_length]) (rfl) (u8s_one _) ?_;clear hm;intro w3 hm)
  | ((with_reducible refine at_op (some 7) (.load 5 (.tmp 6)) ?_);refine wpl_ldc 0 0 (.int .u8 c0) hm rfl rfl ag_u8 (rfl) ?_)
  | ((with_reducible refine at_op (some 11) (.load 5 (.tmp 10)) ?_);refine wpl_ldc 0 1 (.int .u8 c1) hm rfl rfl ag_u8 (rfl) ?_)
  | ((with_reducible refine at_op (some 16) (.load 5 (.tmp 15)) ?_);refine wpl_ldc 0 2 (.int .u8 c2) hm rfl rfl ag_u8 (rfl) ?_)
  | ((with_reducible refine at_op (some 21) (.load 5 (.tmp 20)) ?_);refine wpl_ldc 0 3 (.int .u8 c3) hm rfl rfl ag_u8 (rfl) ?_))
 go_ret
 exact ⟨rfl,hm.below⟩
end Go.Proofs.YtdkkdkgdaambiaaGreatDoor
namespace Go.Proofs.YtdkkdkgdaambiaaGreatDoor
open Go Go.RowKit
theorem seg4 {w:World} {g:Nat} {bs:List Int} {t:TypeId} (h:Row w g (u8s bs) t) (k:Nat) (hk:4 * k+3<bs.length) :
  Seg w g (4 * k) [bs.getD (4 * k) 0,bs.getD (4 * k+1) 0,bs.getD (4 * k+2) 0,bs.getD (4 * k+3) 0]:=by
 have hs:=Seg.row h
 intro j hj
 have hj4:j<4:=by simpa using hj
 have hq:=hs (4 * k+j) (by omega)
 rw [Nat.zero_add] at hq
 rw [hq]
 match j,hj4 with
 | 0,_=>rfl
 | 1,_=>rfl
 | 2,_=>rfl
 | 3,_=>rfl
theorem spread_step {w wr:World} {g1 g2 g3:Nat} {bs z:List Int} {t t':TypeId} {m:Nat} (hm:Mem w [] wr [(g3,u32s (schedRow bs (m+16)),t),(g2,u32s z,t),(g1,u8s bs,t')]) (n:Nat) (hlt:m<48) (x:Int) (hx:x=nextW (sched bs (m+16)) (m+16)) :
  Mem w [] ((wr.drewN n).setCell ⟨g3,m+16,none⟩ (.int .u32 x)) [(g3,u32s (schedRow bs (m+1+16)),t),(g2,u32s z,t),(g1,u8s bs,t')]:=by
 have h:=(hm.drewN n).setCell 0 rfl (m+16) (.int .u32 x)
 rw [List.set_cons_zero,u32s_set,schedRow_set bs (m+16) (by omega) x (by rw [if_neg (by omega)];exact hx)] at h
 rw [show m+1+16=m+16+1 by omega]
 exact h
set_option maxHeartbeats 1000000 in
theorem spread_any (bs:List Int) (hbs:bs.length=64) (hby:∀j,0≤bs.getD j 0∧bs.getD j 0<256) (w:World) :
  Calls Tryz.prog 187 #[.agg (u8s bs).toArray] w fun e w'=>e=.returned (.agg (u32s (sched bs 64)).toArray)∧Below w.heap.size w w':=by
 have hm:=Mem.start w
 go_enter Tryz.func187,Tryz.ntmps187
 go_wp2_with (first
  | ((with_reducible refine at_op (some 1) (.box 104 (.tmp 0)) ?_);refine wpl_box (u8s bs) rfl hm ?_;clear hm;intro w1 g1 hm)
  | ((with_reducible refine at_op (some 2) (.alloc 244) ?_);refine wpl_alloc _ zero_w64 hm ?_;clear hm;intro w2 g2 hm)
  | ((with_reducible refine at_op (some 3) (.alloc 244) ?_);refine wpl_alloc _ zero_w64 hm ?_;clear hm;intro w3 g3 hm))

 go_loopw [10] (fun i wr=>∃k:Nat,k≤16∧i=.int .i64 k∧Mem w [] wr [(g3,u32s (schedRow bs k),244),(g2,u32s (List.replicate 64 0),244),(g1,u8s bs,104)]) (fun i _=>16 - (intOf i).toNat)
 case atStart=>exact ⟨0,by omega,rfl,hm⟩
 case round =>
  clear hm
  obtain ⟨k,hk,rfl,hm⟩:=hrel
  by_cases hlt:k<16
  ·have e1:4 * (k:Int)=((4 * k:Nat):Int):=by omega
   have e2:4 * ((k:Int)+1)=((4 * k+4:Nat):Int):=by omega
   have E1:Hid _:=e1
   have E2:Hid _:=e2
   clear e1 e2
   have hq:=hby (4 * k)
   have hq1:=hby (4 * k+1)
   have hq2:=hby (4 * k+2)
   have hq3:=hby (4 * k+3)
   have hsg:Seg wr g1 (4 * k) [bs.getD (4 * k) 0,bs.getD (4 * k+1) 0,bs.getD (4 * k+2) 0,bs.getD (4 * k+3) 0]:=seg4 (hm.get 2 rfl) k (by omega)
   have HQ:Hid _:=And.intro hq (And.intro hq1 (And.intro hq2 (And.intro hq3 hsg)))
   clear hq hq1 hq2 hq3 hsg hby
   go_wp2_with (first
    | ((with_reducible refine at_op (some 19) (.slice 104 (.tmp 1) (some (.tmp 15)) (some (.tmp 18)) none) ?_);refine wpl_sla 64 un_b64 sz_u8 (4 * k) 4 (by omega) (by omega) rfl (Or.inl (int_at _ rfl E1.out)) (Or.inl (int_at _ rfl E2.out)) ?_)
    | (go_at_call 52;refine (big_any _ _ _ _ _ _ _ _ HQ.out.2.2.2.2 HQ.out.1 HQ.out.2.1 HQ.out.2.2.1 HQ.out.2.2.2.1).mono ?_;rintro e w5 ⟨rfl,hb⟩;replace hm:=hm.call hb;clear hb)
    | ((with_reducible refine at_op none (.store 30 (.tmp 21) (.tmp 20)) ?_);refine wpl_stc 0 k (.int .u32 (big4 (bs.getD (4 * k) 0) (bs.getD (4 * k+1) 0) (bs.getD (4 * k+2) 0) (bs.getD (4 * k+3) 0))) hm rfl (rfl) rfl sz_u32 (by simp [u32s_length,schedRow_length _ _ (show k≤64 by omega)];omega) rfl rfl ?_;clear hm;intro w6 hm))
   have hn:Mem w [] w6 [(g3,u32s (schedRow bs (k+1)),244),(g2,u32s (List.replicate 64 0),244),(g1,u8s bs,104)]:=by
    rw [List.set_cons_zero,u32s_set,schedRow_set bs k (by omega) _ (by rw [if_pos hlt])] at hm
    exact hm
   clear hm
   go_roundw
   case rel=>exact ⟨k+1,by omega,by go_num,hn⟩
   case measure=>simp [intOf];omega
  ·have hk16:k=16:=by omega
   subst hk16
   go_wp2_with fail
   rw [show ((16:Nat):Int)=16 from rfl]
   go_loopw [5] (fun i wr=>∃m:Nat,m≤48∧i=.int .i64 (m+16:Nat)∧Mem w [] wr [(g3,u32s (schedRow bs (m+16)),244),(g2,u32s (List.replicate 64 0),244),(g1,u8s bs,104)]) (fun i _=>64 - (intOf i).toNat)
   case atStart=>exact ⟨0,by omega,rfl,hm⟩
   case round =>
    clear hm
    obtain ⟨m,hm64,rfl,hm⟩:=hrel
    by_cases hlt2:m<48
    ·have hrow:=hm.get 0 rfl
     obtain ⟨a15,ha15⟩:∃x,x=(sched bs (m+16)).getD (m+1) 0:=⟨_,rfl⟩
     obtain ⟨a2,ha2⟩:∃x,x=(sched bs (m+16)).getD (m+14) 0:=⟨_,rfl⟩
     obtain ⟨a7,ha7⟩:∃x,x=(sched bs (m+16)).getD (m+9) 0:=⟨_,rfl⟩
     obtain ⟨a16,ha16⟩:∃x,x=(sched bs (m+16)).getD m 0:=⟨_,rfl⟩
     have hc15:wr.cell? ⟨g3,m+1,none⟩=some (.int .u32 a15):=by rw [hrow.cell,u32s_get _ _ (by rw [schedRow_length _ _ (by omega)];omega),schedRow_get _ _ _ (by omega),ha15]
     have hc2:wr.cell? ⟨g3,m+14,none⟩=some (.int .u32 a2):=by rw [hrow.cell,u32s_get _ _ (by rw [schedRow_length _ _ (by omega)];omega),schedRow_get _ _ _ (by omega),ha2]
     have hc7:wr.cell? ⟨g3,m+9,none⟩=some (.int .u32 a7):=by rw [hrow.cell,u32s_get _ _ (by rw [schedRow_length _ _ (by omega)];omega),schedRow_get _ _ _ (by omega),ha7]
     have hc16:wr.cell? ⟨g3,m,none⟩=some (.int .u32 a16):=by rw [hrow.cell,u32s_get _ _ (by rw [schedRow_length _ _ (by omega)];omega),schedRow_get _ _ _ (by omega),ha16]
     have hck:wr.cell? ⟨g3,m+16,none⟩=some (.int .u32 ((schedRow bs (m+16)).getD (m+16) 0)):=by rw [hrow.cell,u32s_get _ _ (by rw [schedRow_length _ _ (by omega)];omega)]
     have hfk:wr.frozen? ⟨g3,m+16,none⟩=false:=hrow.free _
     have hnext:nextW (sched bs (m+16)) (m+16)=(sig1 a2+a7+sig0 a15+a16) % 4294967296:=by
      rw [ha15,ha2,ha7,ha16];rfl
     have HN:Hid _:=hnext
     have HM:Hid _:=hm
     clear hnext hm ha15 ha2 ha7 ha16 hrow
     go_wp2_with fail
     go_quiet (fail)
     go_wp2_with (go_at_call 188;refine (rotr_any _ _ _ (by omega) (by omega)).mono ?_;rintro e w' ⟨rfl,rfl⟩)
     go_region
     go_wp2
     go_roundw
     case rel=>exact ⟨m+1,by omega,by go_num,spread_step HM.out _ (by omega) _ HN.out.symm⟩
     case measure=>simp [intOf];omega
    ·have hm48:m=48:=by omega
     subst hm48
     rw [show 48+16=64 from rfl,schedRow_full] at hm
     go_wp2_with (first
      | ((with_reducible refine at_op (some 66) (.load 244 (.tmp 3)) ?_);refine wpl_ldw 0 hm rfl rfl _ un_w64 rfl 64 sz_w64 (by simp [u32s_length,sched_length]) ?_)
      | ((with_reducible refine at_op none (.store 244 (.tmp 2) (.tmp 66)) ?_);refine wpl_stw 1 (u32s (sched bs 64)) hm rfl rfl rfl 64 sz_w64 (by simp [u32s_length]) (by simp [u32s_length,sched_length]) (u32s_one _) ?_;clear hm;intro w8 hm))
     exact ret_cell 1 hm rfl Tryz.results187 rfl _ un_w64 rfl 64 sz_w64 (by simp [u32s_length,sched_length]) rfl ⟨rfl,hm.below⟩
end Go.Proofs.YtdkkdkgdaambiaaGreatDoor
namespace Go.Proofs.YtdkkdkgdaambiaaGreatDoor
open Go Go.RowKit
def Tab (w:World):Prop:=∀j,j<64→w.cell? ⟨1,j,none⟩=some (.int .u32 (kTab.getD j 0))
theorem Tab.lt {w:World} (h:Tab w):1<w.heap.size:=block_lt_of_cell (h 0 (by omega))
set_option maxHeartbeats 1000000 in
theorem mixed_any (ws bs:List Int) (hws:ws.length=8) (hbs:bs.length=64) (hby:∀j,0≤bs.getD j 0∧bs.getD j 0<256) (w:World) (ht:Tab w) :
  Calls Tryz.prog 179 #[.agg (u32s ws).toArray,.agg (u8s bs).toArray] w fun e w'=>e=.returned (.agg (u32s (mix ws bs)).toArray)∧Below w.heap.size w w':=by
 match ws,hws with
 | [x0,x1,x2,x3,x4,x5,x6,x7],_ =>
 have hm:=Mem.start w
 have HT:Hid _:=ht
 clear ht
 go_enter Tryz.func179,Tryz.ntmps179
 go_wp2_with (first
  | ((with_reducible refine at_op (some 2) (.box 227 (.tmp 0)) ?_);refine wpl_box (u32s [x0,x1,x2,x3,x4,x5,x6,x7]) rfl hm ?_;clear hm;intro w1 g1 hm)
  | ((with_reducible refine at_op (some 3) (.box 104 (.tmp 1)) ?_);refine wpl_box (u8s bs) rfl hm ?_;clear hm;intro w2 g2 hm)
  | ((with_reducible refine at_op (some 4) (.alloc 227) ?_);refine wpl_alloc _ zero_w8 hm ?_;clear hm;intro w3 g3 hm)
  | ((with_reducible refine at_op (some 21) (.load 104 (.tmp 3)) ?_);refine wpl_ldw 1 hm rfl rfl _ un_b64 rfl 64 sz_b64 (by simp [u8s_length,hbs]) ?_)
  | (go_at_call 187;refine (spread_any bs hbs hby _).mono ?_;rintro e w4 ⟨rfl,hb⟩;replace hm:=hm.call hb;clear hb)
  | ((with_reducible refine at_op (some 5) (.alloc 244) ?_);refine wpl_alloc _ zero_w64 hm ?_;clear hm;intro w5 g5 hm)
  | ((with_reducible refine at_op none (.store 244 (.tmp 5) (.tmp 22)) ?_);refine wpl_stw 0 (u32s (sched bs 64)) hm rfl rfl rfl 64 sz_w64 (by simp [u32s_length]) (by simp [u32s_length,sched_length]) (u32s_one _) ?_;clear hm;intro w6 hm))

 have hr:=hm.get 3 rfl
 have c0:w6.cell? ⟨g1,0,none⟩=some (.int .u32 x0):=hr.cell 0
 have c1:w6.cell? ⟨g1,1,none⟩=some (.int .u32 x1):=hr.cell 1
 have c2:w6.cell? ⟨g1,2,none⟩=some (.int .u32 x2):=hr.cell 2
 have c3:w6.cell? ⟨g1,3,none⟩=some (.int .u32 x3):=hr.cell 3
 have c4:w6.cell? ⟨g1,4,none⟩=some (.int .u32 x4):=hr.cell 4
 have c5:w6.cell? ⟨g1,5,none⟩=some (.int .u32 x5):=hr.cell 5
 have c6:w6.cell? ⟨g1,6,none⟩=some (.int .u32 x6):=hr.cell 6
 have c7:w6.cell? ⟨g1,7,none⟩=some (.int .u32 x7):=hr.cell 7
 have HM:Hid _:=hm
 clear hr hm
 go_quiet (fail)
 go_wp2_with fail
 go_quiet (fail)
 go_wp2_with fail
 clear c0 c1 c2 c3 c4 c5 c6 c7
 go_loopw [6,7,8,9,10,11,12,13,39] (fun va vb vc vd ve vf vg vh vi wr=>∃(k:Nat) (a b c d e f g h:Int),k≤64∧vi=.int .i64 k∧va=.int .u32 a∧vb=.int .u32 b∧vc=.int .u32 c∧vd=.int .u32 d∧ve=.int .u32 e∧vf=.int .u32 f∧vg=.int .u32 g∧vh=.int .u32 h ∧
   Hid (shaRounds [x0,x1,x2,x3,x4,x5,x6,x7] (sched bs 64) k=[a,b,c,d,e,f,g,h])∧Hid (Mem w [] wr [(g5,u32s (sched bs 64),244),(g3,u32s (List.replicate 8 0),227),(g2,u8s bs,104),(g1,u32s [x0,x1,x2,x3,x4,x5,x6,x7],227)]))
  (fun _ _ _ _ _ _ _ _ vi _=>64 - (intOf vi).toNat)
 case atStart=>exact ⟨0,x0,x1,x2,x3,x4,x5,x6,x7,by omega,rfl,rfl,rfl,rfl,rfl,rfl,rfl,rfl,rfl,rfl,(HM.out.drewN _).drewN _⟩
 case round =>
  clear HM
  obtain ⟨k,a,b,c,d,e,f,g,h,hk,rfl,rfl,rfl,rfl,rfl,rfl,rfl,rfl,rfl,HR,HM⟩:=hrel
  by_cases hlt:k<64
  ·obtain ⟨kk,hkk⟩:∃x,x=kTab.getD k 0:=⟨_,rfl⟩
   obtain ⟨xx,hxx⟩:∃x,x=(sched bs 64).getD k 0:=⟨_,rfl⟩
   have hcK:wr.cell? ⟨1,k,none⟩=some (.int .u32 kk):=by rw [HM.out.old (p:=⟨1,k,none⟩) (Tab.lt HT.out) (by simp),HT.out k hlt,hkk]
   have hcW:wr.cell? ⟨g5,k,none⟩=some (.int .u32 xx):=by rw [HM.out.cell 0 rfl,u32s_get _ _ (by rw [sched_length];exact hlt),hxx]
   have HK:Hid _:=hkk
   have HX:Hid _:=hxx
   clear hkk hxx
   go_wp2_with (go_at_call 188;refine (rotr_any _ _ _ (by omega) (by omega)).mono ?_;rintro e w' ⟨rfl,rfl⟩)
   go_quiet (fail)
   go_wp2_with fail
   go_roundw
   case rel=>exact ⟨k+1,_,a,b,c,_,e,f,g,by omega,by go_num,rfl,rfl,rfl,rfl,rfl,rfl,rfl,rfl,shaRounds_step HR.out HK.out HX.out,HM.out.drewN _⟩
   case measure=>simp [intOf];omega
  ·have hk64:k=64:=by omega
   subst hk64
   have hm:=HM.out
   clear HM HT
   go_wp2_with fail
   rw [show ((64:Nat):Int)=64 from rfl]
   have hv8:[a,b,c,d,e,f,g,h].length=8:=rfl
   have hx8:[x0,x1,x2,x3,x4,x5,x6,x7].length=8:=rfl
   have hfin:mix [x0,x1,x2,x3,x4,x5,x6,x7] bs=addW [x0,x1,x2,x3,x4,x5,x6,x7] [a,b,c,d,e,f,g,h]:=by unfold mix;rw [HR.out]
   have HF:Hid _:=hfin
   have HV:Hid _:=hv8
   have HX:Hid _:=hx8
   clear hfin hv8 hx8 HR
   go_loopw [113] (fun vi wr=>∃k:Nat,k≤8∧vi=.int .i64 k∧Mem w [] wr [(g5,u32s (sched bs 64),244),(g3,u32s (List.replicate 8 0),227),(g2,u8s bs,104),(g1,u32s (addUpto [x0,x1,x2,x3,x4,x5,x6,x7] [a,b,c,d,e,f,g,h] k),227)])
    (fun vi _=>8 - (intOf vi).toNat)
   case atStart=>exact ⟨0,by omega,rfl,hm⟩
   case round =>
    clear hm
    obtain ⟨k,hk8,rfl,hm⟩:=hrel
    by_cases hlt8:k<8
    ·obtain ⟨y,hy⟩:∃y,y=[a,b,c,d,e,f,g,h].getD k 0:=⟨_,rfl⟩
     obtain ⟨x,hx⟩:∃y,y=[x0,x1,x2,x3,x4,x5,x6,x7].getD k 0:=⟨_,rfl⟩
     have hvy:(u32s [a,b,c,d,e,f,g,h])[k]?=some (.int .u32 y):=by rw [u32s_get _ _ hlt8,hy]
     have hvx:(u32s (addUpto [x0,x1,x2,x3,x4,x5,x6,x7] [a,b,c,d,e,f,g,h] k))[k]?=some (.int .u32 x):=by
      rw [u32s_get _ _ (by rw [addUpto_length _ _ HX.out HV.out k hk8];exact hlt8),addUpto_get _ _ HX.out HV.out k hlt8,hx]
     have hset:(u32s (addUpto [x0,x1,x2,x3,x4,x5,x6,x7] [a,b,c,d,e,f,g,h] k)).set k (.int .u32 ((x+y) % 4294967296))=u32s (addUpto [x0,x1,x2,x3,x4,x5,x6,x7] [a,b,c,d,e,f,g,h] (k+1)):=by
      rw [u32s_set,hx,hy,addUpto_set _ _ HX.out HV.out k hlt8]
     have hlen:k<(u32s (addUpto [x0,x1,x2,x3,x4,x5,x6,x7] [a,b,c,d,e,f,g,h] k)).length:=by
      rw [u32s_length,addUpto_length _ _ HX.out HV.out k hk8];exact hlt8
     have HVY:Hid _:=hvy
     have HVX:Hid _:=hvx
     have HS:Hid _:=hset
     have HL:Hid _:=hlen
     clear hvy hvx hset hlen hy hx
     go_wp2_with (first
      | ((with_reducible refine at_op (some 116) (.index 227 (.tmp 112) (.tmp 113)) ?_);refine wpl_ixa 8 un_w8 sz_u32 ag_u32 (u32s [a,b,c,d,e,f,g,h]) k (.int .u32 y) (hlt8) rfl rfl (rfl) (HVY.out) ?_)
      | ((with_reducible refine at_op (some 119) (.load 30 (.tmp 118)) ?_);refine wpl_ldc 3 k (.int .u32 x) hm rfl rfl ag_u32 (HVX.out) ?_)
      | ((with_reducible refine at_op none (.store 30 (.tmp 122) (.tmp 121)) ?_);refine wpl_stc 3 k (.int .u32 ((x+y) % 4294967296)) hm rfl (rfl) rfl sz_u32 (HL.out) rfl rfl ?_;clear hm;intro w9 hm))

     have hn:Mem w [] w9 [(g5,u32s (sched bs 64),244),(g3,u32s (List.replicate 8 0),227),(g2,u8s bs,104),(g1,u32s (addUpto [x0,x1,x2,x3,x4,x5,x6,x7] [a,b,c,d,e,f,g,h] (k+1)),227)]:=by
      rw [HS.out] at hm
      exact hm
     clear hm
     go_roundw
     case rel=>exact ⟨k+1,by omega,by go_num,hn⟩
     case measure=>simp [intOf];omega
    ·have hk8':k=8:=by omega
     subst hk8'
     rw [addUpto_full _ _ HX.out HV.out,←HF.out] at hm
     have hln:(u32s (mix [x0,x1,x2,x3,x4,x5,x6,x7] bs)).length=8:=by rw [HF.out,u32s_length,addW_length _ _ HX.out HV.out]
     have HLN:Hid _:=hln
     clear hln
     go_wp2_with (first
      | ((with_reducible refine at_op (some 124) (.load 227 (.tmp 2)) ?_);refine wpl_ldw 3 hm rfl rfl _ un_w8 rfl 8 sz_w8 (HLN.out) ?_)
      | ((with_reducible refine at_op none (.store 227 (.tmp 4) (.tmp 124)) ?_);refine wpl_stw 1 (u32s (mix [x0,x1,x2,x3,x4,x5,x6,x7] bs)) hm rfl rfl rfl 8 sz_w8 (by simp [u32s_length]) (HLN.out) (u32s_one _) ?_;clear hm;intro w8 hm))
     exact ret_cell 1 hm rfl Tryz.results179 rfl _ un_w8 rfl 8 sz_w8 HLN.out rfl ⟨rfl,hm.below⟩
open Go Go.RowKit
theorem wrap_nat (n:Nat) (h:n<4611686018427387904):IntKind.i64.wrap (n:Int)=(n:Int):=by
 simp [IntKind.wrap,IntKind.bits,IntKind.signed]
 split<;>omega
theorem below_upd {B g:Nat} {a b c:World} (h:Below B a b) (hu:Upd g b c) (hg:B≤g) (hB:B≤b.heap.size):Below B a c :=
 h.trans ⟨hu.os,hu.tape,hu.output,hu.size,fun k hk=>hu.block k (by omega) (by omega)⟩
section
variable {P:Program}
theorem run_loadVar_seg (w:World) (g off n:Nat) (ty t:TypeId) (l:List Value) (d:TypeDesc) (hg:Row w g l t) (hu:P.underlying ty=some d)
  (hd:(match d with | .struct _ | .array _ _=>true | _=>false)=true) (hi:(P.info? ty).map (·.size)=some n) (hn:off+n≤l.length) :
  (loadVar ty ⟨g,off,none⟩).run P w=.ok (.agg ((l.drop off).take n).toArray) w:=by
 have hlen:((l.drop off).take n).length=n:=by simp;omega
 have hl:(loadCells ⟨g,off,none⟩ ((l.drop off).take n).length).run P w=.ok ((l.drop off).take n).toArray w :=
  run_loadCells_list (P:=P) w ⟨g,off,none⟩ ((l.drop off).take n) (fun j v hv=>by
   rw [add_at,hg.cell]
   have hj:j<n:=by
    rcases Nat.lt_or_ge j n with h | h
    ·exact h
    ·rw [List.getElem?_eq_none (by omega)] at hv;cases hv
   rw [List.getElem?_take,if_pos hj,List.getElem?_drop] at hv
   exact hv)
 rw [hlen] at hl
 cases hq:P.info? ty with
 | none=>simp [hq] at hi
 | some i =>
  have hs:i.size=n:=by simpa [hq] using hi
  have hagg:(isAgg ty).run P w=.ok true w:=by
   unfold isAgg
   rw [Sem.run_bind,run_underlying hu w]
   cases d<;>simp_all
  simp [loadVar,Sem.run_bind,hagg,sizeOf,typeInfo,hq,hs,hl]
theorem run_storeVar_seg (w:World) (g off:Nat) (ty t:TypeId) (l cs:List Value) (hg:Row w g l t) (hi:(P.info? ty).map (·.size)=some cs.length) (hn:off+cs.length≤l.length) (h1:∀v∈cs,v.oneCell'=true) :
  (storeVar ty ⟨g,off,none⟩ (.agg cs.toArray)).run P w=.ok () (w.setRow g (splice l off cs).toArray):=by
 have hst:=run_storeCells_at P g off t cs 0 l.toArray w hg (by simpa using hn) h1
 cases hq:P.info? ty with
 | none=>simp [hq] at hi
 | some i =>
  have hs:i.size=cs.length:=by simpa [hq] using hi
  have e:(l.take off++cs++l.drop (off+cs.length))=splice l off cs:=by simp [splice]
  simp only [Nat.add_zero,e] at hst
  simp [storeVar,sizeOf,typeInfo,hq,Value.cells,hs,hst]
end
theorem run_eqa {P:Program} (w:World) (d:Nat) (t e:TypeId) (n:Nat) (k:IntKind) (ht:P.underlying t=some (.array n e)) (he:P.underlying e=some (.int k)) (hs:(P.info? e).map (·.size)=some 1) (xs ys:List Int) (hx:xs.length=n) (hy:ys.length=n) :
  (Op.equalIn (d+2) t (.agg (xs.map (Value.int k)).toArray) (.agg (ys.map (Value.int k)).toArray)).run P w=.ok (decide (xs=ys)) w:=by
 have hsz:(sizeOf e).run P w=.ok 1 w:=by
  cases hq:P.info? e with
  | none=>simp [hq] at hs
  | some q =>
   have hs1:q.size=1:=by simpa [hq] using hs
   simp [sizeOf,typeInfo,hq,hs1]
 have hp:∀(zs:List Int) (i:Nat) (z:Int),zs[i]?=some z→(part e (zs.map (Value.int k)).toArray (i * 1)).run P w=.ok (.int k z) w:=by
  intro zs i z hz
  simp [part,isAgg,run_underlying he,hz]
 rw [Op.equalIn]
 simp only [Sem.run_bind,run_underlying ht,Result.andThen_ok,hsz,Std.Legacy.Range.forIn_eq_forIn_range',Std.Legacy.Range.size,Nat.sub_zero,Nat.add_sub_cancel,Nat.div_one]
 have hd0:decide (xs=ys)=decide (xs.drop 0=ys.drop 0):=by simp
 rw [hd0]
 obtain ⟨m,hmn⟩:∃m,m=n:=⟨n,rfl⟩
 have hle:0+m=n:=by omega
 rw [show List.range' 0 n 1=List.range' 0 m 1 by rw [hmn]]
 clear hmn hd0
 generalize 0=i at hle ⊢
 induction m generalizing i with
 | zero =>
  rw [List.drop_of_length_le (by omega),List.drop_of_length_le (by omega)]
  simp
 | succ m ih =>
  have h1:i<xs.length:=by omega
  have h2:i<ys.length:=by omega
  have hdec:xs.drop i=ys.drop i↔(xs[i]=ys[i]∧xs.drop (i+1)=ys.drop (i+1)):=by
   rw [List.drop_eq_getElem_cons h1,List.drop_eq_getElem_cons h2,List.cons.injEq]
  have hdec2:decide (xs.drop i=ys.drop i)=(decide (xs[i]=ys[i])&&decide (xs.drop (i+1)=ys.drop (i+1))):=by
   rw [Bool.eq_iff_iff,Bool.and_eq_true,decide_eq_true_iff,decide_eq_true_iff,decide_eq_true_iff]
   exact hdec
  rw [List.range'_succ,hdec2]
  simp only [List.forIn_cons,Sem.run_bind,hp xs i xs[i] (by simp [h1]),hp ys i ys[i] (by simp [h2]),run_equalIn_int w d e k k _ _ he,Result.andThen_ok]
  by_cases hb:xs[i]=ys[i]
  ·simp only [hb,beq_self_eq_true,Bool.not_true,Bool.false_eq_true,if_false,Sem.run_pure,Result.andThen_ok]
   rw [ih (i+1) (by omega)]
   simp only [decide_true,Bool.true_and]
  ·have hb':(xs[i]==ys[i])=false:=by simpa using hb
   simp only [hb',hb,decide_false,Bool.false_and,Bool.not_false,if_true,Sem.run_pure,Result.andThen_ok]
theorem run_eqla {P:Program} (w:World) (t e:TypeId) (n:Nat) (k:IntKind) (ht:P.underlying t=some (.array n e)) (he:P.underlying e=some (.int k)) (hs:(P.info? e).map (·.size)=some 1) (xs ys:List Int) (hx:xs.length=n) (hy:ys.length=n) :
  (binOp .eql t (.agg (xs.map (Value.int k)).toArray) (.agg (ys.map (Value.int k)).toArray)).run P w=.ok (.bool (decide (xs=ys))) w:=by
 rw [run_eql_struct,run_eqa w 9998 t e n k ht he hs xs ys hx hy]
 rfl
section
variable {P:Program} {ops:Array Oper} {rest:List Oper} {a:Act} {w w0:World} {Q:Exit→Act→World→Prop} {dst:Option Tmp} {typ:TypeId} {pos:String} {aft:Array Edge} {S:List Nat} {rows:List (Nat×List Value×TypeId)}
theorem wpl_lds {ty:TypeId} {x:Operand} (i:Nat) {g:Nat} {l:List Value} {t:TypeId} (off:Nat) (sub:List Value) (hm:Mem w0 S w rows) (hi:rows[i]?=some (g,l,t)) (hx:a.eval x=.pointer (some ⟨g,off,none⟩))
  (d:TypeDesc) (hu:P.underlying ty=some d) (hd:(match d with | .struct _ | .array _ _=>true | _=>false)=true) (n:Nat) (hs:(P.info? ty).map (·.size)=some n) (hn:off+n≤l.length) (hsub:(l.drop off).take n=sub)
  (h:wpList P ops Q rest (a.put dst (.agg sub.toArray)) w) :
  wpList P ops Q ({dst:=dst,op:=.load ty x,type:=typ,pos:=pos,after:=aft,guard:=none}::rest) a w:=by
 refine wpList_plain rfl fun K hK=>?_
 have hh:=hK _ _ h
 unfold Oper.wp execOp
 simp only [hx,Instr.loadAt,Instr.sureAddr,Sem.run_bind,Sem.run_pure,Result.andThen_ok,run_loadVar_seg w g off n ty t l d (hm.get i hi) hu hd hs hn,hsub]
 exact hh
theorem wpl_sts {ty:TypeId} {x y:Operand} (i:Nat) {g:Nat} {l:List Value} {t:TypeId} (off:Nat) (cs new:List Value) (hm:Mem w0 S w rows) (hi:rows[i]?=some (g,l,t)) (hx:a.eval x=.pointer (some ⟨g,off,none⟩))
  (hy:a.eval y=.agg cs.toArray) (n:Nat) (hs:(P.info? ty).map (·.size)=some n) (hn:cs.length=n) (hl:off+n≤l.length) (h1:∀v∈cs,v.oneCell'=true) (hnew:splice l off cs=new)
  (h:∀w',Mem w0 S w' (rows.set i (g,new,t))→wpList P ops Q rest a w') :
  wpList P ops Q ({dst:=none,op:=.store ty x y,type:=typ,pos:=pos,after:=aft,guard:=none}::rest) a w:=by
 refine wpList_plain rfl fun K hK=>?_
 have hr:=hm.get i hi
 subst hnew
 have hh:=hK _ _ (h _ (hm.upd i hi (Upd.setRow g w (splice l off cs).toArray) (hr.setRow _)))
 unfold Oper.wp execOp
 simp only [hx,hy,Instr.storeAt,Instr.sureAddr,Sem.run_bind,Sem.run_pure,Result.andThen_ok,run_storeVar_seg w g off ty t l cs hr (by rw [hs,hn]) (by omega) h1]
 exact hh
theorem wpl_copyN {d s:Operand} {dT sT:TypeId} (i:Nat) {g:Nat} {l:List Value} {t:TypeId} (off dLen dCap:Nat) (ad:Addr) (sLen sCap:Nat) (cs:List Value) (n:Nat) (new:List Value) (hm:Mem w0 S w rows) (hi:rows[i]?=some (g,l,t))
  (hd:a.eval d=.slice (some ⟨g,off,none⟩) dLen dCap) (hs:a.eval s=.slice (some ad) sLen sCap) (elem:TypeId) (hu:P.underlying dT=some (.slice elem)) (hsz:(P.info? elem).map (·.size)=some 1)
  (hcn:cs.length=n) (hn:n=Nat.min sLen dLen) (hsrc:∀j v,cs[j]?=some v→w.cell? (ad.add j)=some v) (hfit:off+n≤l.length) (h1:∀v∈cs,v.oneCell'=true) (hnew:splice l off cs=new)
  (h:∀w',Mem w0 S w' (rows.set i (g,new,t))→wpList P ops Q rest (a.put dst (.int .i64 n)) w') :
  wpList P ops Q ({dst:=dst,op:=.call {callee:=.builtin .copy,args:=#[d,s],argTypes:=#[dT,sT]},type:=typ,pos:=pos,after:=aft,guard:=none}::rest) a w:=by
 subst hcn hnew
 exact wpl_copy i off dLen dCap ad sLen sCap cs hm hi hd hs elem hu hsz hn hsrc hfit h1 h
theorem wpl_sls {ty:TypeId} {x lo:Operand} (elem:TypeId) (hu:P.underlying ty=some (.slice elem)) (hs:(P.info? elem).map (·.size)=some 1) {p:Option Addr} {len cap:Nat} (n:Nat) {i:Int} (hx:a.eval x=.slice p len cap) (hlo:a.eval lo=.int .i64 i) (hi:i=(n:Int)) (hn:n≤len)
  (h:∀p',p'=(if cap=n then p else p.map (·.add n))→wpList P ops Q rest (a.put dst (.slice p' (len - n) (cap - n))) w) :
  wpList P ops Q ({dst:=dst,op:=.slice ty x (some lo) none none,type:=typ,pos:=pos,after:=aft,guard:=none}::rest) a w:=by
 subst hi
 refine wpList_plain rfl fun K hK=>?_
 have hh:=hK _ _ (h _ rfl)
 have hr:(Instr.sliceAt ty (.slice p len cap) (some (.int .i64 (n:Int))) none none).run P w=.ok (.slice (if cap=n then p else p.map (·.add n)) (len - n) (cap - n)) w:=by
  cases hq:P.info? elem with
  | none=>simp [hq] at hs
  | some q =>
   have hs1:q.size=1:=by simpa [hq] using hs
   have hsz:(sizeOf elem).run P w=.ok 1 w:=by simp [sizeOf,typeInfo,hq,hs1]
   have hb:(Instr.sliceBounds true len cap (some (.int .i64 (n:Int))) none none).run P w=.ok (n,len,cap) w:=by
    have:=run_sliceBound (P:=P) w .i64 (n:Int) len .sliceB (by omega) (by omega)
    simp [Instr.sliceBounds,this]
   simp [Instr.sliceAt,Instr.slice,run_underlying hu,hb,hsz]
 unfold Oper.wp execOp
 simp only [hx,hlo,Option.map_some,Option.map_none,hr,Sem.run_bind,Sem.run_pure,Result.andThen_ok]
 exact hh
theorem wpl_build {ty:TypeId} {pl:List (Nat×Operand)} (l:List Value) (ps:List (Nat×Value)) (hps:(pl.map fun p=>(p.1,a.eval p.2))=ps) (hb:P.built ty ps=some l.toArray)
  (h:wpList P ops Q rest (a.put dst (.agg l.toArray)) w) :
  wpList P ops Q ({dst:=dst,op:=.build ty pl.toArray,type:=typ,pos:=pos,after:=aft,guard:=none}::rest) a w:=by
 refine wpList_plain rfl fun K hK=>?_
 have hh:=hK _ _ h
 have e:(pl.toArray.map fun (i,x)=>(i,a.eval x)).toList=pl.map fun p=>(p.1,a.eval p.2):=by simp
 refine wp_build ty pl.toArray rfl (by rw [e,hps,hb];rfl) ?_
 rw [e,hps,hb]
 exact hh
theorem wpl_make {ty:TypeId} {x y:Operand} (elem:TypeId) (hu:P.underlying ty=some (.slice elem)) (z:Value) (hi:(P.info? elem).map (fun i=>(i.zero,i.size,i.bytes))=some (some z,1,1)) (hz:z.cells=#[z]) (n:Nat) {i j:Int} (hx:a.eval x=.int .i64 i) (hxi:i=(n:Int)) (hy:a.eval y=.int .i64 j) (hyj:j=(n:Int)) (hn:n≤65536) (hm:Mem w0 S w rows)
  (h:∀w' g,Mem w0 S w' ((g,List.replicate n z,elem)::rows)→wpList P ops Q rest (a.put dst (.slice (some ⟨g,0,none⟩) n n)) w') :
  wpList P ops Q ({dst:=dst,op:=.makeSlice ty x y,type:=typ,pos:=pos,after:=aft,guard:=none}::rest) a w:=by
 subst hxi hyj
 refine wpList_plain rfl fun K hK=>?_
 have hh:=hK _ _ (h _ _ (hm.alloc (List.replicate n z) elem))
 have hr:(Instr.makeSlice ty (.int .i64 (n:Int)) (.int .i64 (n:Int))).run P w=.ok (.slice (some ⟨w.heap.size,0,none⟩) n n) (w.alloc (.cells (List.replicate n z).toArray elem)):=by
  cases hq:P.info? elem with
  | none=>simp [hq] at hi
  | some q =>
   simp only [hq,Option.map_some,Option.some.injEq,Prod.mk.injEq] at hi
   obtain ⟨h0,h1,h2⟩:=hi
   have:=run_makeSlice (P:=P) w ty elem q z hu hq h0 .i64 .i64 (n:Int) (n:Int) (by omega) (by omega) (by rw [h1];simp;omega) (by rw [h2];simp;omega) (by omega)
   rw [this,h1,hz]
   have e:madeCells #[z] ((n:Int).toNat * 1)=(List.replicate n z).toArray:=by
    unfold madeCells
    apply Array.ext
    ·simp
    ·intro k h1 h2
     simp [Nat.mod_one]
   rw [e]
   simp
 unfold Oper.wp execOp
 simp only [hx,hy,Sem.run_bind,Sem.run_pure,Result.andThen_ok,hr]
 exact hh
end
section
variable {P:Program} {ops:Array Oper} {rest:List Oper} {a:Act} {w w0:World} {Q:Act→Prop} {dst:Option Tmp} {typ:TypeId} {pos:String} {aft:Array Edge} {S:List Nat} {rows:List (Nat×List Value×TypeId)}
theorem wps_run {o:Oper} (hg:o.guard=none) (v:Value) (hr:(execOp a.eval o).run P w=.ok (.value v) w) (h:wpStill P ops w Q rest (a.put o.dst v)):wpStill P ops w Q (o::rest) a:=by
 refine wpStill_step fun K hK=>?_
 rw [if_pos (by simp [Region.wanted,hg])]
 unfold Oper.still
 rw [hr]
 exact ⟨rfl,hK _ h⟩
theorem wps_sla {ty:TypeId} {x:Operand} {lo hi:Option Operand} (n:Nat) {elem:TypeId} (hu:P.underlying ty=some (.array n elem)) (hs:(P.info? elem).map (·.size)=some 1) {g o:Nat} (l m:Nat) (hlm:l+m≤n) (hln:l<n) (hx:a.eval x=.pointer (some ⟨g,o,none⟩))
  (hlo:lo.map a.eval=some (.int .i64 l)∨(lo.map a.eval=none∧l=0)) (hhi:hi.map a.eval=some (.int .i64 (l+m:Nat))∨(hi.map a.eval=none∧l+m=n))
  (h:wpStill P ops w Q rest (a.put dst (.slice (some ⟨g,o+l,none⟩) m (n - l)))) :
  wpStill P ops w Q ({dst:=dst,op:=.slice ty x lo hi none,type:=typ,pos:=pos,after:=aft,guard:=none}::rest) a:=by
 have hr:=run_sla (P:=P) w hu hs g o l m hlm hln (lo.map a.eval) (hi.map a.eval) hlo hhi
 refine wps_run rfl _ ?_ h
 unfold execOp
 simp only [hx,Option.map_none,hr,Sem.run_bind,Sem.run_pure,Result.andThen_ok]
theorem wps_lds {ty:TypeId} {x:Operand} (i:Nat) {g:Nat} {l:List Value} {t:TypeId} (off:Nat) (sub:List Value) (hm:Mem w0 S w rows) (hi:rows[i]?=some (g,l,t)) (hx:a.eval x=.pointer (some ⟨g,off,none⟩))
  (d:TypeDesc) (hu:P.underlying ty=some d) (hd:(match d with | .struct _ | .array _ _=>true | _=>false)=true) (n:Nat) (hs:(P.info? ty).map (·.size)=some n) (hn:off+n≤l.length) (hsub:(l.drop off).take n=sub)
  (h:wpStill P ops w Q rest (a.put dst (.agg sub.toArray))) :
  wpStill P ops w Q ({dst:=dst,op:=.load ty x,type:=typ,pos:=pos,after:=aft,guard:=none}::rest) a:=by
 refine wps_run rfl _ ?_ h
 unfold execOp
 simp only [hx,Instr.loadAt,Instr.sureAddr,Sem.run_bind,Sem.run_pure,Result.andThen_ok,run_loadVar_seg w g off n ty t l d (hm.get i hi) hu hd hs hn,hsub]
end
theorem wp_tail {P:Program} {id:Nat} {Q:Exit→Act→World→Prop} {a:Act} {w w0:World} {S:List Nat} {rows:List (Nat×List Value×TypeId)} {l:List Oper} (n:Nat) (hmix:P.follows .mixedOrders=true) (hB:Region.lexTailB .any l.toArray n=true) (hm:Mem w0 S w rows)
  (h:∀w',Mem w0 S w' rows→wpStill P l.toArray w' (fun a'=>wpList P l.toArray Q (l.drop n) a' w') (l.take n) a):(Code.region id l.toArray true).wp P Q a w :=
 wp_region_still_tail n hmix hB (h _ hm.drew)
def Sl (w:World) (g:Nat) (v:Value) (cs:List Int):Prop :=
 ∃p cap,v=.slice p cs.length cap∧cs.length≤cap∧(0<cs.length→∃b off,p=some ⟨b,off,none⟩∧b≠g∧Seg w b off cs)
def slLen:Value→Nat
 | .slice _ n _=>n
 | _=>0
theorem sl_drop {w:World} {g b off cap n:Nat} {cs:List Int} {p:Option Addr} (hc:cs.length≤cap) (hn:n≤cs.length) (hne:b≠g) (hs:Seg w b off cs) (hp:p=(if cap=n then some ⟨b,off,none⟩ else (some (⟨b,off,none⟩:Addr)).map (·.add n))) :
  Sl w g (.slice p (cs.length - n) (cap - n)) (cs.drop n):=by
 refine ⟨p,cap - n,by simp,by simp;omega,fun h=>?_⟩
 have hlt:n<cs.length:=by simp at h;omega
 rw [if_neg (by omega)] at hp
 exact ⟨b,off+n,by rw [hp];simp [add_at],hne,hs.drop n⟩
open Go Go.RowKit
def Bytes (l:List Int):Prop:=∀x∈l,0≤x∧x<256
theorem Bytes.get {l:List Int} (h:Bytes l) (j:Nat):0≤l.getD j 0∧l.getD j 0<256:=by
 rcases Nat.lt_or_ge j l.length with hj | hj
 ·have:=h l[j] (List.getElem_mem hj)
  simpa [hj] using this
 ·simp [List.getElem?_eq_none hj]
theorem Bytes.append {l l':List Int} (h:Bytes l) (h':Bytes l'):Bytes (l++l'):=by
 intro x hx
 rcases List.mem_append.1 hx with hx | hx
 ·exact h x hx
 ·exact h' x hx
theorem Bytes.take {l:List Int} (h:Bytes l) (n:Nat):Bytes (l.take n):=fun x hx=>h x (List.mem_of_mem_take hx)
theorem Bytes.drop {l:List Int} (h:Bytes l) (n:Nat):Bytes (l.drop n):=fun x hx=>h x (List.mem_of_mem_drop hx)
theorem Bytes.zeros (n:Nat):Bytes (List.replicate n 0):=by
 intro x hx
 have:=List.eq_of_mem_replicate hx
 omega
theorem Bytes.splice {l cs:List Int} (h:Bytes l) (hc:Bytes cs) (off:Nat):Bytes (Go.splice l off cs) :=
 (h.take _).append (hc.append (h.drop _))
theorem Bytes.set {l:List Int} (h:Bytes l) (i:Nat) (x:Int) (hx:0≤x∧x<256):Bytes (l.set i x):=by
 intro y hy
 rcases List.mem_or_eq_of_mem_set hy with hy | rfl
 ·exact h y hy
 ·exact hx
def firstW:List Int:=[1779033703,3144134277,1013904242,2773480762,1359893119,2600822924,528734635,1541459225]
theorem rnd_length (k x:Int) (l:List Int) (h:l.length=8):(rnd k x l).length=8:=by
 match l,h with
 | [a,b,c,d,e,f,g,h],_=>rfl
theorem shaRounds_length (ws W:List Int) (h:ws.length=8) (k:Nat):(shaRounds ws W k).length=8:=by
 induction k with
 | zero=>exact h
 | succ k ih=>exact rnd_length _ _ _ ih
theorem mix_length (ws bs:List Int) (h:ws.length=8):(mix ws bs).length=8:=addW_length _ _ h (shaRounds_length _ _ h _)
def absorb (m:List Int):Nat→List Int
 | 0=>firstW
 | k+1=>mix (absorb m k) ((m.drop (64 * k)).take 64)
theorem absorb_length (m:List Int) (k:Nat):(absorb m k).length=8:=by
 induction k with
 | zero=>rfl
 | succ k ih=>exact mix_length _ _ ih
theorem absorb_append (m d:List Int) (k:Nat) (h:64 * k≤m.length):absorb (m++d) k=absorb m k:=by
 induction k with
 | zero=>rfl
 | succ k ih =>
  have e:((m++d).drop (64 * k)).take 64=(m.drop (64 * k)).take 64:=by
   rw [List.drop_append_of_le_length (by omega),List.take_append_of_le_length (by simp;omega)]
  rw [absorb,absorb,ih (by omega),e]
def wsOf (m:List Int):List Int:=absorb m (m.length / 64)
def tailOf (m:List Int):List Int:=m.drop (64 * (m.length / 64))
def restOf (m:List Int):List Int:=tailOf m++List.replicate (64 - m.length % 64) 0
theorem wsOf_length (m:List Int):(wsOf m).length=8:=absorb_length _ _
theorem tailOf_length (m:List Int):(tailOf m).length=m.length % 64:=by simp [tailOf];omega
theorem restOf_length (m:List Int):(restOf m).length=64:=by simp [restOf,tailOf_length];omega
theorem restOf_bytes {m:List Int} (h:Bytes m):Bytes (restOf m):=(h.drop _).append (Bytes.zeros _)
theorem wsOf_small (m:List Int) (h:m.length<64):wsOf m=firstW:=by
 have e:m.length / 64=0:=by omega
 rw [wsOf,e];rfl
theorem splice_rest (m d:List Int) (h:m.length % 64+d.length≤64):splice (restOf m) (m.length % 64) d=tailOf m++d++List.replicate (64 - (m.length % 64+d.length)) 0:=by
 have hl:=tailOf_length m
 have e1:(restOf m).take (m.length % 64)=tailOf m:=by
  unfold restOf
  rw [List.take_append_of_le_length (by omega),List.take_of_length_le (by omega)]
 have e2:(restOf m).drop (m.length % 64+d.length)=List.replicate (64 - (m.length % 64+d.length)) 0:=by
  unfold restOf
  rw [List.drop_append,List.drop_of_length_le (by omega),hl,List.nil_append,List.drop_replicate]
  congr 1
  omega
 unfold splice
 rw [e1,e2,List.append_assoc]
theorem more_ws (m d:List Int) (h:m.length % 64+d.length<64):wsOf (m++d)=wsOf m:=by
 have e:(m++d).length / 64=m.length / 64:=by simp;omega
 rw [wsOf,e,absorb_append m d _ (by omega),wsOf]
theorem more_rest (m d:List Int) (h:m.length % 64+d.length<64):restOf (m++d)=splice (restOf m) (m.length % 64) d:=by
 have e:(m++d).length / 64=m.length / 64:=by simp;omega
 have e2:(m++d).length % 64=m.length % 64+d.length:=by simp;omega
 rw [splice_rest m d (by omega),restOf,tailOf,e,e2,List.drop_append_of_le_length (by omega),tailOf]
theorem full_ws (m d:List Int) (h:m.length % 64+d.length=64):wsOf (m++d)=mix (wsOf m) (splice (restOf m) (m.length % 64) d):=by
 have e:(m++d).length / 64=m.length / 64+1:=by simp;omega
 have e3:((m++d).drop (64 * (m.length / 64))).take 64=tailOf m++d:=by
  rw [List.drop_append_of_le_length (by omega),List.take_of_length_le (by have:=tailOf_length m;unfold tailOf at this;simp at this ⊢;omega),tailOf]
 rw [splice_rest m d (by omega),wsOf,e,absorb,absorb_append m d _ (by omega),e3,h]
 simp [wsOf]
theorem full_rest (m d:List Int) (h:m.length % 64+d.length=64):restOf (m++d)=List.replicate 64 0:=by
 have e:(m++d).length % 64=0:=by simp;omega
 have hl:=tailOf_length (m++d)
 rw [e] at hl
 rw [restOf,List.eq_nil_of_length_eq_zero hl,e]
 rfl
def hrow (ws rest:List Int) (n:Int):List Value:=u32s ws++(u8s rest++[.int .i64 n])
theorem hrow_length (ws rest:List Int) (n:Int) (h:ws.length=8) (h':rest.length=64):(hrow ws rest n).length=73:=by simp [hrow,u32s_length,u8s_length,h,h']
theorem hrow_rest (ws rest:List Int) (n:Int) (h:ws.length=8) (h':rest.length=64):((hrow ws rest n).drop 8).take 64=u8s rest:=by
 rw [hrow,List.drop_append,List.drop_of_length_le (by rw [u32s_length];omega),u32s_length,h,List.nil_append,Nat.sub_self,List.drop_zero,List.take_append_of_le_length (by rw [u8s_length];omega),List.take_of_length_le (by rw [u8s_length];omega)]
theorem hrow_size (ws rest:List Int) (n:Int) (h:ws.length=8) (h':rest.length=64):(hrow ws rest n)[72]?=some (.int .i64 n):=by
 rw [hrow,List.getElem?_append_right (by rw [u32s_length];omega),List.getElem?_append_right (by rw [u8s_length,u32s_length];omega),u8s_length,u32s_length,h,h']
 rfl
theorem hrow_setSize (ws rest:List Int) (n n':Int) (h:ws.length=8) (h':rest.length=64):(hrow ws rest n).set 72 (.int .i64 n')=hrow ws rest n':=by
 rw [hrow,List.set_append_right _ _ (by rw [u32s_length];omega),List.set_append_right _ _ (by rw [u8s_length,u32s_length];omega),u8s_length,u32s_length,h,h']
 rfl
theorem hrow_setWords (ws ws' rest:List Int) (n:Int) (h:ws.length=8) (h':ws'.length=8):splice (hrow ws rest n) 0 (u32s ws')=hrow ws' rest n:=by
 unfold splice hrow
 rw [List.take_zero,List.nil_append,u32s_length,h',Nat.zero_add,List.drop_append,List.drop_of_length_le (by rw [u32s_length];omega),u32s_length,h]
 rfl
theorem hrow_setRest (ws rest:List Int) (n:Int) (off:Nat) (cs:List Int) (h:ws.length=8) (h':rest.length=64) (hc:off+cs.length≤64):splice (hrow ws rest n) (8+off) (u8s cs)=hrow ws (splice rest off cs) n:=by
 unfold splice hrow
 rw [u8s_length,List.take_append,List.take_of_length_le (by rw [u32s_length];omega),u32s_length,h,List.drop_append,List.drop_of_length_le (by rw [u32s_length];omega),u32s_length,h,
  show 8+off - 8=off by omega,show 8+off+cs.length - 8=off+cs.length by omega,List.take_append_of_le_length (by rw [u8s_length];omega),List.drop_append_of_le_length (by rw [u8s_length];omega)]
 simp [u8s]
def be8 (n:Int):List Int :=
 [n / 256 / 256 / 256 / 256 / 256 / 256 / 256 % 256,n / 256 / 256 / 256 / 256 / 256 / 256 % 256,n / 256 / 256 / 256 / 256 / 256 % 256,n / 256 / 256 / 256 / 256 % 256,n / 256 / 256 / 256 % 256,n / 256 / 256 % 256,n / 256 % 256,n % 256]
theorem be8_bytes (n:Int):Bytes (be8 n):=by
 intro x hx
 simp only [be8,List.mem_cons,List.not_mem_nil,or_false] at hx
 rcases hx with rfl | rfl | rfl | rfl | rfl | rfl | rfl | rfl<;>omega
def fin (ws rest:List Int) (n:Nat):List Int :=
 if 56≤n % 64 then mix (mix ws (rest.set (n % 64) 128)) (splice (List.replicate 64 0) 56 (be8 (n * 8)))
 else mix ws (splice (rest.set (n % 64) 128) 56 (be8 (n * 8)))
theorem fin_length (ws rest:List Int) (n:Nat) (h:ws.length=8):(fin ws rest n).length=8:=by
 unfold fin;split
 ·exact mix_length _ _ (mix_length _ _ h)
 ·exact mix_length _ _ h
def asB (ws:List Int):List Int:=ws.flatMap four
theorem asB_length (ws:List Int) (h:ws.length=8):(asB ws).length=32:=by
 match ws,h with
 | [a,b,c,d,e,f,g,h],_=>rfl
theorem four_bytes (x:Int):Bytes (four x):=by
 intro y hy
 simp only [four,List.mem_cons,List.not_mem_nil,or_false] at hy
 rcases hy with rfl | rfl | rfl | rfl<;>omega
theorem asB_bytes (ws:List Int):Bytes (asB ws):=by
 intro y hy
 obtain ⟨x,_,hx⟩:=List.mem_flatMap.1 hy
 exact four_bytes x y hx
def asRow (ws:List Int) (k:Nat):List Int:=asB (ws.take k)++List.replicate (32 - 4 * k) 0
theorem asB_take_length (ws:List Int) (h:ws.length=8) (k:Nat) (hk:k≤8):(asB (ws.take k)).length=4 * k:=by
 have:∀l:List Int,(asB l).length=4 * l.length:=by
  intro l
  induction l with
  | nil=>rfl
  | cons x l ih=>simp [asB,four] at ih ⊢;omega
 rw [this]
 simp
 omega
theorem asRow_length (ws:List Int) (h:ws.length=8) (k:Nat) (hk:k≤8):(asRow ws k).length=32:=by simp [asRow,asB_take_length ws h k hk];omega
theorem asRow_full (ws:List Int) (h:ws.length=8):asRow ws 8=asB ws:=by
 unfold asRow
 rw [List.take_of_length_le (by omega)]
 simp
theorem asRow_step (ws:List Int) (h:ws.length=8) (k:Nat) (hk:k<8):splice (asRow ws k) (4 * k) (four (ws.getD k 0))=asRow ws (k+1):=by
 have hl:=asB_take_length ws h k (by omega)
 have h4:(four (ws.getD k 0)).length=4:=rfl
 have e1:(asRow ws k).take (4 * k)=asB (ws.take k):=by
  unfold asRow
  rw [List.take_append_of_le_length (by omega),List.take_of_length_le (by omega)]
 have e2:(asRow ws k).drop (4 * k+4)=List.replicate (32 - 4 * (k+1)) 0:=by
  unfold asRow
  rw [List.drop_append,List.drop_of_length_le (by omega),hl,List.nil_append,List.drop_replicate]
  congr 1
  omega
 have e3:asB (ws.take (k+1))=asB (ws.take k)++four (ws.getD k 0):=by
  have hg:ws.getD k 0=ws[k]'(by omega):=by simp [show k<ws.length by omega]
  unfold asB
  rw [List.take_succ_eq_append_getElem (by omega),List.flatMap_append,hg,List.flatMap_cons,List.flatMap_nil,List.append_nil]
 unfold splice
 rw [h4,e1,e2,asRow,e3,List.append_assoc]
def shaOf (m:List Int):List Int:=asB (fin (wsOf m) (restOf m) m.length)
theorem shaOf_length (m:List Int):(shaOf m).length=32:=asB_length _ (fin_length _ _ _ (wsOf_length m))
theorem shaOf_bytes (m:List Int):Bytes (shaOf m):=asB_bytes _
def hexDigit (x:Int):Int:=[48,49,50,51,52,53,54,55,56,57,97,98,99,100,101,102].getD x.toNat 0
def hexOf (l:List Int):List Int:=l.flatMap fun c=>[hexDigit (c / 16),hexDigit (c % 16)]
end Go.Proofs.YtdkkdkgdaambiaaGreatDoor
