import Derived.Test.YtlpnafdkhoimhaaGreatDoorQr39
set_option maxRecDepth 100000
set_option maxHeartbeats 4000000
namespace Go.Proofs.YtlpnafdkhoimhaaGreatDoor
open Go Go.RowKit Go.Sort Go.Maps
theorem iQ (p:Pls) (ks:List ByteArray) (h:ks=[]):takE p true ks=110:=by subst h;simp [takE]
theorem keyV_path (held:Nat→Option Ent) (p:Pls) (root:List Int) (ks:List ByteArray):keyV held p root false ks=(zero32,110):=rfl
theorem paths_0 {w0 w:World} {g mb:Nat} {kv:Value} {sb hb:Nat} {d:Dk} {t:Slt} {k rb m c:Nat} {rows:List (Nat×List Value×TypeId)} {root:List Int} (h:Rv w0 w g mb kv sb hb d t k rb m c root [] rows) (hcc:c≤90000) :
  Calls Tryz.prog 11 #[.pointer (some ⟨rb,0,none⟩)] w fun e w'=>∃pp cap,e=.returned (.slice pp 0 cap)∧Rv w0 w' g mb kv sb hb d t k rb m c root [] rows :=
 (paths_v h hcc (by decide)).mono (fun _ _ hh=>by
  obtain ⟨v,L,h1,h2,h3,h4,_⟩:=hh
  have hl:L.length=0:=isU_all PlsOk.nil h3
  obtain ⟨pp,cap,hv⟩:=iX h2
  rw [hl] at hv
  exact ⟨pp,cap,by rw [h1,hv],h4⟩)
theorem root_walk (kk:List Int) (mt:ByteArray) (hkl:kk.length=32) (w:World) (ht:Tab w) (hq:QTab w) (hM:MaxL w) :
  Calls Tryz.prog 7 #[.agg (u8s kk).toArray,.string mt] w fun e w'=>e=.returned (.bool true)∧Below w.heap.size w w':=by
 have HT:Hid (Tab w):=ht
 have HQ:Hid (QTab w):=hq
 have HX:Hid (MaxL w):=hM
 have hm:=Mem.start w
 have HKL:Hid (∀_:Unit,kk.length=32):=fun _=>hkl
 by_cases hbig:60<mt.size
 ·have hb1:decide ((60:Int)<(mt.size:Int))=true:=decide_eq_true (by omega)
  have hb2:(60:Int)<(mt.size:Int):=by omega
  clear ht hq hM hkl hbig
  go_enter Tryz.func7,Tryz.ntmps7
  go_wp2_with (first
   | ((with_reducible refine ae (some 2) (.box 43 (.tmp 0)) ?_);go_must (refine az (u8s kk) rfl hm ?_);clear hm;intro wx2 q2 hm)
   | (go_at_call 8;refine (cQ _ (Tab.mem HT.out hm (by simp)) (QTab.mem HQ.out hm (by simp)) (HX.out.below hm.below)).mono ?_;rintro e w1 ⟨rfl,hb1⟩;replace hm:=hm.call hb1;clear hb1;have HT1:Hid (Tab w1):=Tab.mem HT.out hm (by simp);have HQ1:Hid (QTab w1):=QTab.mem HQ.out hm (by simp);have HX1:Hid (MaxL w1):=HX.out.below hm.below;have HBW:Hid (Below w.heap.size w w1):=hm.below;clear HT HQ HX))
  go_ret
  exact ⟨rfl,hm.below⟩
 ·have hb1:decide ((60:Int)<(mt.size:Int))=false:=decide_eq_false (by omega)
  have hb2:¬(60:Int)<(mt.size:Int):=by omega
  have HSZ:Hid (mt.size≤1000):=by show _≤_;omega
  obtain ⟨lb,hlb⟩:∃lb,lb=mntL++mt:=⟨_,rfl⟩
  have HLB:Hid (∀_:Unit,lb=mntL++mt):=fun _=>hlb
  have HLS:Hid (lb.size≤50000):=by show _≤_;rw [hlb,ByteArray.size_append];have:mntL.size=6:=rfl;omega
  have HS9:Hid (∀_:Unit,mntL.size+mt.size≤1000000000):=fun _=>by have:mntL.size=6:=rfl;omega
  obtain ⟨M,hMM⟩:∃M,M=mntOf (keyB13 0) mt:=⟨_,rfl⟩
  have HML:Hid (∀_:Unit,M.length=32):=fun _=>by rw [hMM];exact bk _ _ _
  have HMN:Hid (∀_:Unit,M=if (0:Int)=0 then mntOf (keyB13 0) mt else zero32):=fun _=>by rw [if_pos rfl];exact hMM
  have HMM:Hid (∀_:Unit,deriveOf (keyB13 0) (strB lb) 0=M):=fun _=>by rw [hMM,hlb];rfl
  have tk1:Nat:=0
  clear ht hq hM hkl hbig hlb hMM
  go_enter Tryz.func7,Tryz.ntmps7
  go_wp2_with (first
   | ((with_reducible refine ae (some 2) (.box 43 (.tmp 0)) ?_);go_must (refine az (u8s kk) rfl hm ?_);clear hm;intro wx2 q2 hm)
   | (go_at_call 8;refine (cQ _ (Tab.mem HT.out hm (by simp)) (QTab.mem HQ.out hm (by simp)) (HX.out.below hm.below)).mono ?_;rintro e w1 ⟨rfl,hb1⟩;replace hm:=hm.call hb1;clear hb1;have HT1:Hid (Tab w1):=Tab.mem HT.out hm (by simp);have HQ1:Hid (QTab w1):=QTab.mem HQ.out hm (by simp);have HX1:Hid (MaxL w1):=HX.out.below hm.below;have HBW:Hid (Below w.heap.size w w1):=hm.below;have HR2:Hid (Row w1 q2 (u8s kk) 43):=hm.get 0 rfl;clear HT HQ HX)
   | (go_at_call 9;clear hm;go_must (refine (iu _ HT1.out HQ1.out).mono ?_);rintro e w2 ⟨g,mb,kv,sb,hb,d0,rb,m,rfl,st⟩)
   | (go_at_call 12;(first|(clear tk1;go_must (refine (key_root st HT1.out HQ1.out HX1.out).mono ?_);rintro e wp ⟨rfl,st9⟩;replace st:=st9;clear st9)|(go_must (refine (key_v st HT1.out HQ1.out HX1.out ⟨#[97,47,47,98]⟩ (by decide) zero32 110 (keyV_path _ _ _ _)).mono ?_);rintro e wp ⟨rfl,st9⟩;replace st:=st9;clear st9)))
   | (go_at_call 22;go_must (refine (mount_v st HT1.out HQ1.out HX1.out ⟨#[]⟩ (by decide) mt HSZ.out (keyB13 0) 0 (keyV_root _ _ _ _ iN) (aJ 0) (bO (by omega)) M (HMN.out ())).mono ?_);rintro e wp ⟨rfl,st9⟩;replace st:=st9;clear st9)
   | (go_at_call 26;refine (dM _ _).mono ?_;rintro e wk ⟨rfl,hbk⟩;replace st:=st.below hbk;clear hbk)
   | ((with_reducible refine ae (some 38) (.binOp .add 9 (.const (.string {data:=#[109,111,117,110,116,47]})) (.tmp 37) 9) ?_);go_must (refine aj (.string lb) rfl (exec_addS mntL mt lb (HLB.out ()) rfl rfl (HS9.out ())) ?_))
   | (go_at_call 25;refine (gL (keyB13 0) lb 0 (aJ 0) (bO (by omega)) HLS.out (by omega) _).mono ?_;rintro e wk ⟨he,hbk⟩;rw [HMM.out ()] at he;subst he;replace st:=st.below hbk;clear hbk)
   | ((with_reducible refine ae (some 8) (.alloc 43) ?_);go_must (refine aY _ aD ?_);intro wa q8 hba hqa hra;replace st:=st.add hba hra hqa;clear hba hqa hra)
   | ((with_reducible refine ae none (.store 43 (.tmp 8) (.tmp 28)) ?_);go_must (refine bH (u8s (keyB13 0)) (st.sv.mem.get 0 rfl) rfl rfl 32 aq (by simp [aa]) (by rw [aa,aJ]) (ai _) ?_);intro wb hub hrb;replace st:=st.updR 0 rfl hub hrb;clear hub hrb)
   | ((with_reducible refine ae (some 10) (.alloc 43) ?_);go_must (refine aY _ aD ?_);intro wa q10 hba hqa hra;replace st:=st.add hba hra hqa;clear hba hqa hra)
   | ((with_reducible refine ae none (.store 43 (.tmp 10) (.tmp 34)) ?_);go_must (refine bH (u8s M) (st.sv.mem.get 0 rfl) rfl rfl 32 aq (by simp [aa]) (by rw [aa,HML.out ()]) (ai _) ?_);intro wb hub hrb;replace st:=st.updR 0 rfl hub hrb;clear hub hrb)
   | ((with_reducible refine ae (some 12) (.alloc 43) ?_);go_must (refine aY _ aD ?_);intro wa q12 hba hqa hra;replace st:=st.add hba hra hqa;clear hba hqa hra)
   | ((with_reducible refine ae none (.store 43 (.tmp 12) (.tmp 39)) ?_);go_must (refine bH (u8s M) (st.sv.mem.get 0 rfl) rfl rfl 32 aq (by simp [aa]) (by rw [aa,HML.out ()]) (ai _) ?_);intro wb hub hrb;replace st:=st.updR 0 rfl hub hrb;clear hub hrb)
   | ((with_reducible refine ae (some 13) (.alloc 43) ?_);go_must (refine aY _ aD ?_);intro wa q13 hba hqa hra;replace st:=st.add hba hra hqa;clear hba hqa hra)
   | ((with_reducible refine ae none (.store 43 (.tmp 13) (.tmp 43)) ?_);go_must (refine bH (u8s zero32) (st.sv.mem.get 0 rfl) rfl rfl 32 aq (by simp [aa]) (by simp [aa,zero32]) (ai _) ?_);intro wb hub hrb;replace st:=st.updR 0 rfl hub hrb;clear hub hrb))
  refine aA ?_
  refine aC (T:=fun W=>(Row W q2 (u8s kk) 43∧Row W q8 (u8s (keyB13 0)) 43∧Row W q10 (u8s M) 43∧Row W q12 (u8s M) 43)) (by kernel_rfl) st.sv.mem ?_
  intro wz hbz hmz
  replace st:=st.below hbz
  have HTW:Hid (Row wz q2 (u8s kk) 43∧Row wz q8 (u8s (keyB13 0)) 43∧Row wz q10 (u8s M) 43∧Row wz q12 (u8s M) 43):=⟨Row.bel HR2.out st.sv.mem.below,st.sv.mem.get 3 rfl,st.sv.mem.get 2 rfl,st.sv.mem.get 1 rfl⟩
  clear hbz hmz
  refine aT 0 (v:=.bool true) rfl (by kernel_rfl) rfl (fun W _=>by go_simp) HTW.out ?_
  go_simp
  refine aT 1 (v:=.bool true) rfl (by kernel_rfl) rfl (fun W _=>by go_simp) HTW.out ?_
  go_simp
  refine aG 2 (v:=.int .i64 0) rfl (by kernel_rfl) rfl (fun W _=>by go_simp) HTW.out ?_
  go_simp
  refine aG 3 (v:=.bool true) rfl (by kernel_rfl) rfl (fun W _=>by go_simp) HTW.out ?_
  go_simp
  refine aT 4 (v:=.bool true) rfl (by kernel_rfl) rfl (fun W _=>by go_simp) HTW.out ?_
  go_simp
  refine aT 5 (v:=.bool true) rfl (by kernel_rfl) rfl (fun W _=>by go_simp) HTW.out ?_
  go_simp
  refine aG 6 (v:=.agg (u8s (keyB13 0)).toArray) rfl (by kernel_rfl) rfl (fun W hW=>au 0 _ hW.2.1 rfl _ aw rfl 32 aq (by rw [aa,aJ];omega) (by rw [List.drop_zero,List.take_of_length_le (by rw [aa,aJ];omega)])) HTW.out ?_
  go_simp
  refine aO 7 (by kernel_rfl) rfl rfl ?_
  intro K hK
  go_wp2_with ((go_at_call 26;refine (dM _ _).mono ?_;rintro e wk ⟨rfl,hbk⟩;replace st:=st.below hbk;clear hbk;have HTW':Hid (Row wk q2 (u8s kk) 43∧Row wk q8 (u8s (keyB13 0)) 43∧Row wk q10 (u8s M) 43∧Row wk q12 (u8s M) 43):=⟨Row.bel HR2.out st.sv.mem.below,st.sv.mem.get 3 rfl,st.sv.mem.get 2 rfl,st.sv.mem.get 1 rfl⟩;clear HTW;have HTW:=HTW';clear HTW'))
  refine hK _ _ HTW.out ?_
  clear hK K
  go_simp
  refine aG 8 (v:=.bool true) rfl (by kernel_rfl) rfl (fun W hW=>eC 5 32 .u8 (keyB13 0) rfl rfl aw b7 aQ eu (aJ 0)) HTW.out ?_
  go_simp
  refine aT 9 (v:=.bool true) rfl (by kernel_rfl) rfl (fun W _=>by go_simp) HTW.out ?_
  go_simp
  refine aT 10 (v:=.bool true) rfl (by kernel_rfl) rfl (fun W _=>by go_simp) HTW.out ?_
  go_simp
  refine aG 11 (v:=.int .i64 0) rfl (by kernel_rfl) rfl (fun W _=>by go_simp) HTW.out ?_
  go_simp
  refine aG 12 (v:=.bool true) rfl (by kernel_rfl) rfl (fun W _=>by go_simp) HTW.out ?_
  go_simp
  refine aT 13 (v:=.bool true) rfl (by kernel_rfl) rfl (fun W _=>by go_simp) HTW.out ?_
  go_simp
  refine aT 14 (v:=.bool true) rfl (by kernel_rfl) rfl (fun W _=>by go_simp) HTW.out ?_
  go_simp
  refine aG 15 (v:=.agg (u8s M).toArray) rfl (by kernel_rfl) rfl (fun W hW=>au 0 _ hW.2.2.1 rfl _ aw rfl 32 aq (by rw [aa,HML.out ()];omega) (by rw [List.drop_zero,List.take_of_length_le (by rw [aa,HML.out ()];omega)])) HTW.out ?_
  go_simp
  refine aG 16 (v:=.agg (u8s M).toArray) rfl (by kernel_rfl) rfl (fun W hW=>au 0 _ hW.2.2.2 rfl _ aw rfl 32 aq (by rw [aa,HML.out ()];omega) (by rw [List.drop_zero,List.take_of_length_le (by rw [aa,HML.out ()];omega)])) HTW.out ?_
  go_simp
  refine aG 17 (v:=.bool true) rfl (by kernel_rfl) rfl (fun W hW=>eC 5 32 .u8 M rfl rfl aw b7 aQ eu (HML.out ())) HTW.out ?_
  go_simp
  refine aT 18 (v:=.bool true) rfl (by kernel_rfl) rfl (fun W _=>by go_simp) HTW.out ?_
  go_simp
  refine aT 19 (v:=.bool true) rfl (by kernel_rfl) rfl (fun W _=>by go_simp) HTW.out ?_
  go_simp
  refine aG 20 (v:=.int .i64 110) rfl (by kernel_rfl) rfl (fun W _=>by go_simp) HTW.out ?_
  go_simp
  refine aG 21 (v:=.bool true) rfl (by kernel_rfl) rfl (fun W _=>by go_simp) HTW.out ?_
  go_simp
  refine aT 22 (v:=.bool true) rfl (by kernel_rfl) rfl (fun W _=>by go_simp) HTW.out ?_
  go_simp
  refine aT 23 (v:=.bool true) rfl (by kernel_rfl) rfl (fun W _=>by go_simp) HTW.out ?_
  go_simp
  refine aG 24 (v:=.pointer (some ⟨rb,0,none⟩)) rfl (by kernel_rfl) rfl (fun W _=>by go_simp) HTW.out ?_
  go_simp
  refine aG 25 (v:=.agg (u8s kk).toArray) rfl (by kernel_rfl) rfl (fun W hW=>au 0 _ hW.1 rfl _ aw rfl 32 aq (by rw [aa,HKL.out ()];omega) (by rw [List.drop_zero,List.take_of_length_le (by rw [aa,HKL.out ()];omega)])) HTW.out ?_
  go_simp
  refine aO 26 (by kernel_rfl) rfl rfl ?_
  intro K hK
  go_wp2_with ((go_at_call 14;go_must (refine (gG st HX1.out ⟨#[]⟩ (by decide) 1 kk 110 (kg _ _ iN) (by decide)).mono ?_);rintro e wc ⟨rfl,st9⟩;have HTW':Hid (Row wc q2 (u8s kk) 43∧Row wc q8 (u8s (keyB13 0)) 43∧Row wc q10 (u8s M) 43∧Row wc q12 (u8s M) 43):=⟨Row.bel HR2.out st9.sv.mem.below,st9.sv.mem.get 3 rfl,st9.sv.mem.get 2 rfl,st9.sv.mem.get 1 rfl⟩;clear HTW;have HTW:=HTW';clear HTW';replace st:=st9;clear st9))
  refine hK _ _ HTW.out ?_
  clear hK K
  go_simp
  refine aG 27 (v:=.bool true) rfl (by kernel_rfl) rfl (fun W _=>by go_simp) HTW.out ?_
  go_simp
  refine aT 28 (v:=.bool true) rfl (by kernel_rfl) rfl (fun W _=>by go_simp) HTW.out ?_
  go_simp
  refine aT 29 (v:=.bool true) rfl (by kernel_rfl) rfl (fun W _=>by go_simp) HTW.out ?_
  go_simp
  refine aG 30 (v:=.pointer (some ⟨rb,0,none⟩)) rfl (by kernel_rfl) rfl (fun W _=>by go_simp) HTW.out ?_
  go_simp
  refine aO 31 (by kernel_rfl) rfl rfl ?_
  intro K hK
  go_wp2_with ((go_at_call 16;go_must (refine (attach_no st HX1.out (by omega) ⟨#[]⟩ (by decide) 1 110 (kg _ _ iN) (by decide)).mono ?_);rintro e wd ⟨rfl,st9⟩;have HTW':Hid (Row wd q2 (u8s kk) 43∧Row wd q8 (u8s (keyB13 0)) 43∧Row wd q10 (u8s M) 43∧Row wd q12 (u8s M) 43):=⟨Row.bel HR2.out st9.sv.mem.below,st9.sv.mem.get 3 rfl,st9.sv.mem.get 2 rfl,st9.sv.mem.get 1 rfl⟩;clear HTW;have HTW:=HTW';clear HTW';replace st:=st9;clear st9))
  refine hK _ _ HTW.out ?_
  clear hK K
  go_simp
  refine aG 32 (v:=.bool true) rfl (by kernel_rfl) rfl (fun W _=>by go_simp) HTW.out ?_
  go_simp
  refine aT 33 (v:=.bool true) rfl (by kernel_rfl) rfl (fun W _=>by go_simp) HTW.out ?_
  go_simp
  refine aT 34 (v:=.bool true) rfl (by kernel_rfl) rfl (fun W _=>by go_simp) HTW.out ?_
  go_simp
  refine aG 35 (v:=.pointer (some ⟨rb,0,none⟩)) rfl (by kernel_rfl) rfl (fun W _=>by go_simp) HTW.out ?_
  go_simp
  refine aO 36 (by kernel_rfl) rfl rfl ?_
  intro K hK
  go_wp2_with ((go_at_call 23;go_must (refine (fe st HX1.out (by omega) (by decide) ⟨#[]⟩ (by decide) 110 (iQ _ _ iN) (by decide)).mono ?_);rintro e we ⟨rfl,st9⟩;have HTW':Hid (Row we q2 (u8s kk) 43∧Row we q8 (u8s (keyB13 0)) 43∧Row we q10 (u8s M) 43∧Row we q12 (u8s M) 43):=⟨Row.bel HR2.out st9.sv.mem.below,st9.sv.mem.get 3 rfl,st9.sv.mem.get 2 rfl,st9.sv.mem.get 1 rfl⟩;clear HTW;have HTW:=HTW';clear HTW';replace st:=st9;clear st9))
  refine hK _ _ HTW.out ?_
  clear hK K
  go_simp
  refine aG 37 (v:=.bool true) rfl (by kernel_rfl) rfl (fun W _=>by go_simp) HTW.out ?_
  go_simp
  refine aT 38 (v:=.bool true) rfl (by kernel_rfl) rfl (fun W _=>by go_simp) HTW.out ?_
  go_simp
  refine aT 39 (v:=.bool true) rfl (by kernel_rfl) rfl (fun W _=>by go_simp) HTW.out ?_
  go_simp
  refine aG 40 (v:=.pointer (some ⟨rb,0,none⟩)) rfl (by kernel_rfl) rfl (fun W _=>by go_simp) HTW.out ?_
  go_simp
  refine aO 41 (by kernel_rfl) rfl rfl ?_
  intro K hK
  go_wp2_with ((go_at_call 15;go_must (refine (erase_nr st HX1.out ⟨#[]⟩ (by decide) 110 (iQ _ _ iN) (by decide)).mono ?_);rintro e wf ⟨rfl,st9⟩;have HTW':Hid (Row wf q2 (u8s kk) 43∧Row wf q8 (u8s (keyB13 0)) 43∧Row wf q10 (u8s M) 43∧Row wf q12 (u8s M) 43):=⟨Row.bel HR2.out st9.sv.mem.below,st9.sv.mem.get 3 rfl,st9.sv.mem.get 2 rfl,st9.sv.mem.get 1 rfl⟩;clear HTW;have HTW:=HTW';clear HTW';replace st:=st9;clear st9))
  refine hK _ _ HTW.out ?_
  clear hK K
  go_simp
  refine aG 42 (v:=.bool true) rfl (by kernel_rfl) rfl (fun W _=>by go_simp) HTW.out ?_
  go_simp
  refine aT 43 (v:=.bool true) rfl (by kernel_rfl) rfl (fun W _=>by go_simp) HTW.out ?_
  go_simp
  refine aT 44 (v:=.bool true) rfl (by kernel_rfl) rfl (fun W _=>by go_simp) HTW.out ?_
  go_simp
  refine aG 45 (v:=.pointer (some ⟨rb,0,none⟩)) rfl (by kernel_rfl) rfl (fun W _=>by go_simp) HTW.out ?_
  go_simp
  refine aO 46 (by kernel_rfl) rfl rfl ?_
  intro K hK
  go_wp2_with ((go_at_call 11;go_must (refine (paths_0 st (by omega)).mono ?_);rintro e wg ⟨pp,cap,rfl,st9⟩;have HTW':Hid (Row wg q2 (u8s kk) 43∧Row wg q8 (u8s (keyB13 0)) 43∧Row wg q10 (u8s M) 43∧Row wg q12 (u8s M) 43):=⟨Row.bel HR2.out st9.sv.mem.below,st9.sv.mem.get 3 rfl,st9.sv.mem.get 2 rfl,st9.sv.mem.get 1 rfl⟩;clear HTW;have HTW:=HTW';clear HTW';replace st:=st9;clear st9))
  refine hK _ _ HTW.out ?_
  clear hK K
  go_simp
  refine aG 47 (v:=.int .i64 0) rfl (by kernel_rfl) rfl (fun W _=>by go_simp) HTW.out ?_
  go_simp
  refine aG 48 (v:=.bool true) rfl (by kernel_rfl) rfl (fun W _=>by go_simp) HTW.out ?_
  go_simp
  refine aT 49 (v:=.bool true) rfl (by kernel_rfl) rfl (fun W _=>by go_simp) HTW.out ?_
  go_simp
  refine aT 50 (v:=.bool true) rfl (by kernel_rfl) rfl (fun W _=>by go_simp) HTW.out ?_
  go_simp
  refine wpAnyH_done (by kernel_rfl) ?_ _
  simp only [endsIn]
  go_wp2_with fail
  go_ret
  exact ⟨rfl,cA HBW.out HBW.out.size st.sv.mem.below⟩
end Go.Proofs.YtlpnafdkhoimhaaGreatDoor
