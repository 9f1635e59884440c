import Derived.Test.YtlpnafdkhoimhaaGreatDoorQr33
import Derived.Test.YtlpnafdkhoimhaaGreatDoorQr38
set_option maxRecDepth 100000
set_option maxHeartbeats 4000000
namespace Go.Proofs.YtlpnafdkhoimhaaGreatDoor
open Go Go.RowKit Go.Sort Go.Maps
theorem cQ (w:World) (ht:Tab w) (hq:QTab w) (hM:MaxL w) :
  Calls Tryz.prog 8 #[] w fun e w'=>e=.returned (.bool true)∧Below w.heap.size w w':=by
 have HT:Hid (Tab w):=ht
 have HQ:Hid (QTab w):=hq
 have HX:Hid (MaxL w):=hM
 obtain ⟨M,hMM⟩:∃M,M=mntOf (keyB13 1) ⟨#[107,118]⟩:=⟨_,rfl⟩
 have HML:Hid (∀_:Unit,M.length=32):=fun _=>by rw [hMM];exact bk _ _ _
 have HMN:Hid (∀_:Unit,M=mntOf (keyB13 1) ⟨#[107,118]⟩):=fun _=>hMM
 have HMM:Hid (∀_:Unit,deriveOf (keyB13 1) (strB ⟨#[109,111,117,110,116,47,107,118]⟩) 0=M):=fun _=>by rw [hMM];rfl
 have tk1:Nat:=0
 have tk2:Nat:=0
 have tk3:Nat:=0
 have tk4:Nat:=0
 have tk5:Nat:=0
 have tk6:Nat:=0
 have tk7:Nat:=0
 have tk8:Nat:=0
 have tk9:Nat:=0
 clear ht hq hM hMM
 go_enter Tryz.func8,Tryz.ntmps8
 go_wp2_with (first
  | (go_at_call 9;go_must (refine (iu _ HT.out HQ.out).mono ?_);rintro e w1 ⟨g,mb,kv,sb,hb,d0,rb,m,rfl,st⟩)
  | (go_at_call 26;refine (dM _ _).mono ?_;rintro e wk ⟨rfl,hbk⟩;replace st:=st.below hbk;clear hbk)
  | (go_at_call 14;(first|(clear tk1;go_must (refine (mk_a st HT.out HQ.out HX.out (by omega) (keyB13 1) (aJ 1) (bO (by omega))).mono ?_);rintro e wp ⟨rfl,d1,st9⟩;replace st:=st9;clear st9)|(clear tk2;go_must (refine (mk_ab st HT.out HQ.out HX.out (by omega) (aJ 1) (bO (by omega)) (keyB13 2) (aJ 2) (bO (by omega))).mono ?_);rintro e wp ⟨rfl,d2,st9⟩;replace st:=st9;clear st9)|(clear tk3;go_must (refine (gG st HX.out ⟨#[97]⟩ (by decide) 3 (keyB13 3) 101 vac_twice (by decide)).mono ?_);rintro e wp ⟨rfl,st9⟩;replace st:=st9;clear st9)|(clear tk4;go_must (refine (gG st HX.out ⟨#[120,47,121]⟩ (by decide) 3 (keyB13 3) 100 vac_xy (by decide)).mono ?_);rintro e wp ⟨rfl,st9⟩;replace st:=st9;clear st9)|(go_must (refine (gG st HX.out ⟨#[]⟩ (by decide) 3 (keyB13 3) 110 (kg _ _ iN) (by decide)).mono ?_);rintro e wp ⟨rfl,st9⟩;replace st:=st9;clear st9)))
  | (go_at_call 12;(first|(clear tk5;go_must (refine (key_ab2 st HT.out HQ.out HX.out (aJ 1) (bO (by omega)) (aJ 2) (bO (by omega))).mono ?_);rintro e wp ⟨rfl,st9⟩;replace st:=st9;clear st9)|(clear tk6;go_must (refine (key_root st HT.out HQ.out HX.out).mono ?_);rintro e wp ⟨rfl,st9⟩;replace st:=st9;clear st9)|(clear tk7;go_must (refine (key_gone st HT.out HQ.out HX.out HG.out).mono ?_);rintro e wp ⟨rfl,st9⟩;replace st:=st9;clear st9)|(go_must (refine (key_q st HT.out HQ.out HX.out).mono ?_);rintro e wp ⟨rfl,st9⟩;replace st:=st9;clear st9)))
  | (go_at_call 22;go_must (refine (mnt_a st HT.out HQ.out HX.out (aJ 1) (bO (by omega)) M (HMN.out ())).mono ?_);rintro e wp ⟨rfl,st9⟩;replace st:=st9;clear st9)
  | (go_at_call 15;go_must (refine (era_a st HX.out (by omega) (by omega)).mono ?_);rintro e wp ⟨rfl,d3,t3,k3,st9,hg3,hk3⟩;have HG:Hid (t3.held 1=none):=hg3;clear hg3;replace st:=st9;clear st9)
  | (go_at_call 16;(first|(clear tk8;go_must (refine (att_a st HX.out (by omega)).mono ?_);rintro e wp ⟨rfl,st9⟩;replace st:=st9;clear st9)|(go_must (refine (att_ab st HX.out (by omega)).mono ?_);rintro e wp ⟨rfl,st9⟩;replace st:=st9;clear st9)))
  | ((with_reducible refine ae (some 4) (.alloc 43) ?_);go_must (refine aY _ aD ?_);intro wa q4 hba hqa hra;replace st:=st.add hba hra hqa;clear hba hqa hra)
  | ((with_reducible refine ae none (.store 43 (.tmp 4) (.tmp 54)) ?_);go_must (refine bH (u8s (keyB13 2)) (st.sv.mem.get 0 rfl) rfl rfl 32 aq (by simp [aa]) (by rw [aa,aJ]) (ai _) ?_);intro wb hub hrb;replace st:=st.updR 0 rfl hub hrb;clear hub hrb)
  | ((with_reducible refine ae (some 6) (.alloc 43) ?_);go_must (refine aY _ aD ?_);intro wa q6 hba hqa hra;replace st:=st.add hba hra hqa;clear hba hqa hra)
  | ((with_reducible refine ae none (.store 43 (.tmp 6) (.tmp 59)) ?_);go_must (refine bH (u8s (keyB13 0)) (st.sv.mem.get 0 rfl) rfl rfl 32 aq (by simp [aa]) (by rw [aa,aJ]) (ai _) ?_);intro wb hub hrb;replace st:=st.updR 0 rfl hub hrb;clear hub hrb)
  | ((with_reducible refine ae (some 8) (.alloc 43) ?_);go_must (refine aY _ aD ?_);intro wa q8 hba hqa hra;replace st:=st.add hba hra hqa;clear hba hqa hra)
  | ((with_reducible refine ae none (.store 43 (.tmp 8) (.tmp 64)) ?_);go_must (refine bH (u8s M) (st.sv.mem.get 0 rfl) rfl rfl 32 aq (by simp [aa]) (by rw [aa,HML.out ()]) (ai _) ?_);intro wb hub hrb;replace st:=st.updR 0 rfl hub hrb;clear hub hrb)
  | ((with_reducible refine ae (some 10) (.alloc 43) ?_);go_must (refine aY _ aD ?_);intro wa q10 hba hqa hra;replace st:=st.add hba hra hqa;clear hba hqa hra)
  | ((with_reducible refine ae none (.store 43 (.tmp 10) (.tmp 82)) ?_);go_must (refine bH (u8s zero32) (st.sv.mem.get 0 rfl) rfl rfl 32 aq (by simp [aa]) (by simp [aa,zero32]) (ai _) ?_);intro wb hub hrb;replace st:=st.updR 0 rfl hub hrb;clear hub hrb)
  | ((with_reducible refine ae (some 12) (.alloc 43) ?_);go_must (refine aY _ aD ?_);intro wa q12 hba hqa hra;replace st:=st.add hba hra hqa;clear hba hqa hra)
  | ((with_reducible refine ae none (.store 43 (.tmp 12) (.tmp 87)) ?_);go_must (refine bH (u8s zero32) (st.sv.mem.get 0 rfl) rfl rfl 32 aq (by simp [aa]) (by simp [aa,zero32]) (ai _) ?_);intro wb hub hrb;replace st:=st.updR 0 rfl hub hrb;clear hub hrb))
 refine aA ?_
 refine aC (T:=fun W=>(Row W q4 (u8s (keyB13 2)) 43∧Row W q6 (u8s (keyB13 0)) 43∧Row W q8 (u8s M) 43)) (by kernel_rfl) st.sv.mem ?_
 intro wz hbz hmz
 have HTW:Hid (Row wz q4 (u8s (keyB13 2)) 43∧Row wz q6 (u8s (keyB13 0)) 43∧Row wz q8 (u8s M) 43):=⟨hmz.get 4 rfl,hmz.get 3 rfl,hmz.get 2 rfl⟩
 replace st:=st.below hbz
 clear hbz hmz
 refine aT 0 (v:=.int .i64 0) rfl (by kernel_rfl) rfl (fun W _=>by go_simp) HTW.out ?_
 go_simp
 refine aT 1 (v:=.bool true) rfl (by kernel_rfl) rfl (fun W _=>by go_simp) HTW.out ?_
 go_simp
 refine aT 2 (v:=.bool true) rfl (by kernel_rfl) rfl (fun W _=>by go_simp) HTW.out ?_
 go_simp
 refine aG 3 (v:=.agg (u8s (keyB13 2)).toArray) rfl (by kernel_rfl) rfl (fun W hW=>au 0 _ hW.1 rfl _ aw rfl 32 aq (by rw [aa,aJ];omega) (by rw [List.drop_zero,List.take_of_length_le (by rw [aa,aJ];omega)])) HTW.out ?_
 go_simp
 refine aO 4 (by kernel_rfl) rfl rfl ?_
 intro K hK
 go_wp2_with ((go_at_call 26;refine (dM _ _).mono ?_;rintro e wk ⟨rfl,hbk⟩;have HTW':Hid (Row wk q4 (u8s (keyB13 2)) 43∧Row wk q6 (u8s (keyB13 0)) 43∧Row wk q8 (u8s M) 43):=⟨Row.bel HTW.out.1 hbk,Row.bel HTW.out.2.1 hbk,Row.bel HTW.out.2.2 hbk⟩;replace st:=st.below hbk;clear hbk HTW;have HTW:=HTW';clear HTW'))
 refine hK _ _ HTW.out ?_
 clear hK K
 go_simp
 refine aG 5 (v:=.bool true) rfl (by kernel_rfl) rfl (fun W hW=>eC 5 32 .u8 (keyB13 2) rfl rfl aw b7 aQ eu (aJ 2)) HTW.out ?_
 go_simp
 refine aT 6 (v:=.bool true) rfl (by kernel_rfl) rfl (fun W _=>by go_simp) HTW.out ?_
 go_simp
 refine aT 7 (v:=.bool true) rfl (by kernel_rfl) rfl (fun W _=>by go_simp) HTW.out ?_
 go_simp
 refine aG 8 (v:=.int .i64 0) rfl (by kernel_rfl) rfl (fun W _=>by go_simp) HTW.out ?_
 go_simp
 refine aG 9 (v:=.bool true) rfl (by kernel_rfl) rfl (fun W _=>by go_simp) HTW.out ?_
 go_simp
 refine aT 10 (v:=.bool true) rfl (by kernel_rfl) rfl (fun W _=>by go_simp) HTW.out ?_
 go_simp
 refine aT 11 (v:=.bool true) rfl (by kernel_rfl) rfl (fun W _=>by go_simp) HTW.out ?_
 go_simp
 refine aG 12 (v:=.agg (u8s (keyB13 0)).toArray) rfl (by kernel_rfl) rfl (fun W hW=>au 0 _ hW.2.1 rfl _ aw rfl 32 aq (by rw [aa,aJ];omega) (by rw [List.drop_zero,List.take_of_length_le (by rw [aa,aJ];omega)])) HTW.out ?_
 go_simp
 refine aO 13 (by kernel_rfl) rfl rfl ?_
 intro K hK
 go_wp2_with ((go_at_call 26;refine (dM _ _).mono ?_;rintro e wk ⟨rfl,hbk⟩;have HTW':Hid (Row wk q4 (u8s (keyB13 2)) 43∧Row wk q6 (u8s (keyB13 0)) 43∧Row wk q8 (u8s M) 43):=⟨Row.bel HTW.out.1 hbk,Row.bel HTW.out.2.1 hbk,Row.bel HTW.out.2.2 hbk⟩;replace st:=st.below hbk;clear hbk HTW;have HTW:=HTW';clear HTW'))
 refine hK _ _ HTW.out ?_
 clear hK K
 go_simp
 refine aG 14 (v:=.bool true) rfl (by kernel_rfl) rfl (fun W hW=>eC 5 32 .u8 (keyB13 0) rfl rfl aw b7 aQ eu (aJ 0)) HTW.out ?_
 go_simp
 refine aT 15 (v:=.bool true) rfl (by kernel_rfl) rfl (fun W _=>by go_simp) HTW.out ?_
 go_simp
 refine aT 16 (v:=.bool true) rfl (by kernel_rfl) rfl (fun W _=>by go_simp) HTW.out ?_
 go_simp
 refine aG 17 (v:=.int .i64 0) rfl (by kernel_rfl) rfl (fun W _=>by go_simp) HTW.out ?_
 go_simp
 refine aG 18 (v:=.bool true) rfl (by kernel_rfl) rfl (fun W _=>by go_simp) HTW.out ?_
 go_simp
 refine aT 19 (v:=.bool true) rfl (by kernel_rfl) rfl (fun W _=>by go_simp) HTW.out ?_
 go_simp
 refine aT 20 (v:=.bool true) rfl (by kernel_rfl) rfl (fun W _=>by go_simp) HTW.out ?_
 go_simp
 refine aG 21 (v:=.agg (u8s M).toArray) rfl (by kernel_rfl) rfl (fun W hW=>au 0 _ hW.2.2 rfl _ aw rfl 32 aq (by rw [aa,HML.out ()];omega) (by rw [List.drop_zero,List.take_of_length_le (by rw [aa,HML.out ()];omega)])) HTW.out ?_
 go_simp
 refine aO 22 (by kernel_rfl) rfl rfl ?_
 intro K hK
 go_wp2_with ((go_at_call 26;refine (dM _ _).mono ?_;rintro e wk ⟨rfl,hbk⟩;have HTW':Hid (Row wk q4 (u8s (keyB13 2)) 43∧Row wk q6 (u8s (keyB13 0)) 43∧Row wk q8 (u8s M) 43):=⟨Row.bel HTW.out.1 hbk,Row.bel HTW.out.2.1 hbk,Row.bel HTW.out.2.2 hbk⟩;replace st:=st.below hbk;clear hbk HTW;have HTW:=HTW';clear HTW'))
 refine hK _ _ HTW.out ?_
 clear hK K
 go_simp
 refine aO 23 (by kernel_rfl) rfl rfl ?_
 intro K hK
 go_wp2_with ((go_at_call 25;refine (gL (keyB13 1) _ 0 (aJ 1) (bO (by omega)) (by decide) (by omega) _).mono ?_;rintro e wk ⟨he,hbk⟩;rw [HMM.out ()] at he;subst he;have HTW':Hid (Row wk q4 (u8s (keyB13 2)) 43∧Row wk q6 (u8s (keyB13 0)) 43∧Row wk q8 (u8s M) 43):=⟨Row.bel HTW.out.1 hbk,Row.bel HTW.out.2.1 hbk,Row.bel HTW.out.2.2 hbk⟩;replace st:=st.below hbk;clear hbk HTW;have HTW:=HTW';clear HTW'))
 refine hK _ _ HTW.out ?_
 clear hK K
 go_simp
 refine aG 24 (v:=.bool true) rfl (by kernel_rfl) rfl (fun W hW=>eC 5 32 .u8 M rfl rfl aw b7 aQ eu (HML.out ())) HTW.out ?_
 go_simp
 refine aT 25 (v:=.bool true) rfl (by kernel_rfl) rfl (fun W _=>by go_simp) HTW.out ?_
 go_simp
 refine aT 26 (v:=.bool true) rfl (by kernel_rfl) rfl (fun W _=>by go_simp) HTW.out ?_
 go_simp
 refine aG 27 (v:=.int .i64 120) rfl (by kernel_rfl) rfl (fun W _=>by go_simp) HTW.out ?_
 go_simp
 refine aG 28 (v:=.bool true) rfl (by kernel_rfl) rfl (fun W _=>by go_simp) HTW.out ?_
 go_simp
 refine aT 29 (v:=.bool true) rfl (by kernel_rfl) rfl (fun W _=>by go_simp) HTW.out ?_
 go_simp
 refine aT 30 (v:=.bool true) rfl (by kernel_rfl) rfl (fun W _=>by go_simp) HTW.out ?_
 go_simp
 refine aG 31 (v:=.int .i64 100) rfl (by kernel_rfl) rfl (fun W _=>by go_simp) HTW.out ?_
 go_simp
 refine aG 32 (v:=.bool true) rfl (by kernel_rfl) rfl (fun W _=>by go_simp) HTW.out ?_
 go_simp
 refine aT 33 (v:=.bool true) rfl (by kernel_rfl) rfl (fun W _=>by go_simp) HTW.out ?_
 go_simp
 refine aT 34 (v:=.bool true) rfl (by kernel_rfl) rfl (fun W _=>by go_simp) HTW.out ?_
 go_simp
 refine aG 35 (v:=.pointer (some ⟨rb,0,none⟩)) rfl (by kernel_rfl) rfl (fun W _=>by go_simp) HTW.out ?_
 go_simp
 refine aO 36 (by kernel_rfl) rfl rfl ?_
 intro K hK
 go_wp2_with ((go_at_call 11;go_must (refine (paths_2 st (by omega)).mono ?_);rintro e wu ⟨pp,cap,rfl,st9⟩;have HTW':Hid (Row wu q4 (u8s (keyB13 2)) 43∧Row wu q6 (u8s (keyB13 0)) 43∧Row wu q8 (u8s M) 43):=⟨st9.sv.mem.get 4 rfl,st9.sv.mem.get 3 rfl,st9.sv.mem.get 2 rfl⟩;replace st:=st9;clear st9 HTW;have HTW:=HTW';clear HTW'))
 refine hK _ _ HTW.out ?_
 clear hK K
 go_simp
 refine aG 37 (v:=.int .i64 2) rfl (by kernel_rfl) rfl (fun W _=>by go_simp) HTW.out ?_
 go_simp
 refine aG 38 (v:=.bool true) rfl (by kernel_rfl) rfl (fun W _=>by go_simp) HTW.out ?_
 go_simp
 refine aT 39 (v:=.bool true) rfl (by kernel_rfl) rfl (fun W _=>by go_simp) HTW.out ?_
 go_simp
 refine aT 40 (v:=.bool true) rfl (by kernel_rfl) rfl (fun W _=>by go_simp) HTW.out ?_
 go_simp
 refine wpAnyH_done (by kernel_rfl) ?_ _
 simp only [endsIn]
 go_wp2_with fail
 go_ret
 exact ⟨rfl,st.sv.mem.below⟩
end Go.Proofs.YtlpnafdkhoimhaaGreatDoor
