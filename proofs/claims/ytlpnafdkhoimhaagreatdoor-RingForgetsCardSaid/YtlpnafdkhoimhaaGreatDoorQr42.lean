import Derived.Test.YtlpnafdkhoimhaaGreatDoorQr40
set_option maxRecDepth 100000
set_option maxHeartbeats 4000000
namespace Go.Proofs.YtlpnafdkhoimhaaGreatDoor
open Go Go.RowKit Go.Sort Go.Maps
theorem lk_AA:lkp pA [kA,kB]=none:=lk_AAB
theorem tak_q:takE pAB true [⟨#[113]⟩]=100:=by simp [takE,hasB,lk_q]
theorem used_t2 (a b:List Int):(usedL (t2 a b).held 24).length=2:=by
 have h:∀j,((t2 a b).held j).isSome=(decide (j=1)||decide (j=2)):=by
  intro j
  by_cases h2:j=2
  ·subst h2;rw [show (t2 a b).held 2=some (entN (t1 a) 2 a b) from bo (t1 a).held 2 (some (entN (t1 a) 2 a b))];rfl
  ·rw [show (t2 a b).held j=(t1 a).held j from aN _ _ h2]
   by_cases h1:j=1
   ·subst h1;rw [show (t1 a).held 1=some (entN newS 1 (keyB13 0) a) from bo newS.held 1 (some (entN newS 1 (keyB13 0) a))];rfl
   ·rw [show (t1 a).held j=none from aN _ _ h1];simp [h1,h2]
 unfold usedL
 rw [show (fun j=>((t2 a b).held j).isSome)=fun j=>(decide (j=1)||decide (j=2)) from funext h]
 decide
section
variable {w0 w:World} {g mb:Nat} {kv:Value} {sb hb:Nat} {d:Dk} {t:Slt} {k rb m c:Nat} {rows:List (Nat×List Value×TypeId)} {a b:List Int}
theorem forg_ab (h:Rv w0 w g mb kv sb hb d t k rb m c (keyB13 0) pAB rows) (hM:MaxL w0) (hcc:c≤90000) :
  Calls Tryz.prog 23 #[.pointer (some ⟨rb,0,none⟩),.string ⟨#[97,47,98]⟩] w fun e w'=>e=.returned (.int .i64 0)∧Rv w0 w' g mb kv sb hb d t k rb m c (keyB13 0) pA rows :=
 (forget_ok h hM hcc (by decide) ⟨#[97,47,98]⟩ (by decide) tak_ab).mono (fun _ _ hh=>by
  obtain ⟨h1,L,hL,hr⟩:=hh
  have i1:inL L [kA,kB]=true:=iJ.2 ((hL.mem _).2 ⟨eK ⟨#[97,47,98]⟩ [kA,kB] rfl,by rw [gY];rfl,rfl⟩)
  have i2:inL L [kA]=false:=by
   cases hc:inL L [kA] with
   | false=>rfl
   | true =>
    have h9:List.take 2 [kA]=[kA,kB]:=((hL.mem _).1 (iJ.1 hc)).2.2
    cases h9
  have hd:delAll pAB L=pA:=by simp [delAll,pAB,pA,i1,i2]
  rw [hd] at hr
  exact ⟨h1,hr⟩)
theorem forg_a (h:Rv w0 w g mb kv sb hb d t k rb m c (keyB13 0) pAB rows) (hM:MaxL w0) (hcc:c≤90000) :
  Calls Tryz.prog 23 #[.pointer (some ⟨rb,0,none⟩),.string ⟨#[97]⟩] w fun e w'=>e=.returned (.int .i64 0)∧Rv w0 w' g mb kv sb hb d t k rb m c (keyB13 0) [] rows :=
 (forget_ok h hM hcc (by decide) ⟨#[97]⟩ (by decide) tak_a).mono (fun _ _ hh=>by
  obtain ⟨h1,L,hL,hr⟩:=hh
  have hd:delAll pAB L=[]:=del_all (fun x hx=>by
   simp only [pAB,List.mem_cons,List.not_mem_nil,or_false] at hx
   rcases hx with rfl|rfl
   ·exact (hL.mem _).2 ⟨eK ⟨#[97,47,98]⟩ [kA,kB] rfl,by rw [gY];rfl,rfl⟩
   ·exact (hL.mem _).2 ⟨eK ⟨#[97]⟩ [kA] rfl,by rw [fS];rfl,rfl⟩)
  rw [hd] at hr
  exact ⟨h1,hr⟩)
theorem used_2 {p:Pls} (h:Rv w0 w g mb kv sb hb d (t2 a b) k rb m c (keyB13 0) p rows) :
  Calls Tryz.prog 24 #[.pointer (some ⟨sb,0,none⟩)] w fun e w'=>∃pp cap,e=.returned (.slice pp 2 cap)∧Rv w0 w' g mb kv sb hb d (t2 a b) k rb m c (keyB13 0) p rows :=
 (used_v h.sv).mono (fun _ _ hh=>by
  obtain ⟨v,h1,h2,_,h4⟩:=hh
  obtain ⟨pp,cap,hv,_⟩:=h2
  rw [used_t2] at hv
  exact ⟨pp,cap,by rw [h1,hv],h.below h4⟩)
theorem key_a1 {p:Pls} (h:Rv w0 w g mb kv sb hb d (t2 a b) k rb m c (keyB13 0) p rows) (ht:Tab w0) (hq:QTab w0) (hM:MaxL w0) (hl:lkp p [kA]=some 1) (hal:a.length=32) (hab:Bytes a) :
  Calls Tryz.prog 12 #[.pointer (some ⟨rb,0,none⟩),.string ⟨#[97]⟩] w fun e w'=>e=.returned (.tuple #[.agg (u8s a).toArray,.int .i64 0])∧Rv w0 w' g mb kv sb hb d (t2 a b) k rb m c (keyB13 0) p rows :=
 key_v h ht hq hM ⟨#[97]⟩ (by decide) a 0 (keyV_one hl (get_2a hal hab))
theorem kq {p:Pls} (h:Rv w0 w g mb kv sb hb d t k rb m c (keyB13 0) p rows) (ht:Tab w0) (hq:QTab w0) (hM:MaxL w0) (s:ByteArray) (hs:s.size≤1000) (hp:isP (bs s)=true) (hl:lkp p (segsB s)=none) (hne:segsB s≠[]) :
  Calls Tryz.prog 12 #[.pointer (some ⟨rb,0,none⟩),.string s] w fun e w'=>e=.returned (.tuple #[.agg (u8s zero32).toArray,.int .i64 100])∧Rv w0 w' g mb kv sb hb d t k rb m c (keyB13 0) p rows :=
 key_v h ht hq hM s hs zero32 100 (by rw [hp];exact keyV_no hl hne)
end
theorem forgets_t (a b:List Int) (hal:a.length=32) (hab:Bytes a) (hbl:b.length=32) (hbb:Bytes b) (w:World) (ht:Tab w) (hq:QTab w) (hM:MaxL w) :
  Calls Tryz.prog 6 #[.agg (u8s a).toArray,.agg (u8s b).toArray,.bool true] w fun e w'=>e=.returned (.bool true)∧Below w.heap.size w w':=by
 have HT:Hid (Tab w):=ht
 have HQ:Hid (QTab w):=hq
 have HX:Hid (MaxL w):=hM
 have hm:=Mem.start w
 have HAL:Hid (∀_:Unit,a.length=32):=fun _=>hal
 have HAB:Hid (Bytes a):=hab
 have HBL:Hid (∀_:Unit,b.length=32):=fun _=>hbl
 have HBB:Hid (Bytes b):=hbb
 have tk1:Nat:=0
 have tk2:Nat:=0
 have tk3:Nat:=0
 have tk4:Nat:=0
 have tk5:Nat:=0
 clear ht hq hM hal hab hbl hbb
 go_enter Tryz.func6,Tryz.ntmps6
 go_wp2_with (first
  | ((with_reducible refine ae (some 3) (.box 43 (.tmp 0)) ?_);go_must (refine az (u8s a) rfl hm ?_);clear hm;intro wx3 q3 hm)
  | ((with_reducible refine ae (some 4) (.box 43 (.tmp 1)) ?_);go_must (refine az (u8s b) rfl hm ?_);clear hm;intro wx4 q4 hm)
  | (go_at_call 8;refine (cQ _ (Tab.mem HT.out hm (by simp)) (QTab.mem HQ.out hm (by simp)) (HX.out.below hm.below)).mono ?_;rintro e w1 ⟨rfl,hb1⟩;replace hm:=hm.call hb1;clear hb1;have HT1:Hid (Tab w1):=Tab.mem HT.out hm (by simp);have HQ1:Hid (QTab w1):=QTab.mem HQ.out hm (by simp);have HX1:Hid (MaxL w1):=HX.out.below hm.below;have HBW:Hid (Below w.heap.size w w1):=hm.below;have HR3:Hid (Row w1 q3 (u8s a) 43):=hm.get 1 rfl;have HR4:Hid (Row w1 q4 (u8s b) 43):=hm.get 0 rfl;clear HT HQ HX)
  | (go_at_call 9;clear hm;go_must (refine (iu _ HT1.out HQ1.out).mono ?_);rintro e w2 ⟨g,mb,kv,sb,hb,d0,rb,m,rfl,st⟩)
  | ((with_reducible refine bA (some 28) (.load 43 (.tmp 3)) (some (2,false)) ?_);go_must (refine aj (.agg (u8s a).toArray) rfl (au 0 (u8s a) (Row.bel HR3.out st.sv.mem.below) rfl _ aw rfl 32 aq (by rw [aa,HAL.out ()];omega) (by rw [List.drop_zero,List.take_of_length_le (by rw [aa,HAL.out ()];omega)])) ?_))
  | ((with_reducible refine bA (some 34) (.load 43 (.tmp 4)) (some (8,false)) ?_);go_must (refine aj (.agg (u8s b).toArray) rfl (au 0 (u8s b) (Row.bel HR4.out st.sv.mem.below) rfl _ aw rfl 32 aq (by rw [aa,HBL.out ()];omega) (by rw [List.drop_zero,List.take_of_length_le (by rw [aa,HBL.out ()];omega)])) ?_))
  | (go_at_call 14;(first|(clear tk1;go_must (refine (mk_a st HT1.out HQ1.out HX1.out (by omega) a (HAL.out ()) HAB.out).mono ?_);rintro e wp ⟨rfl,d1,st9⟩;replace st:=st9;clear st9)|(go_must (refine (mk_ab st HT1.out HQ1.out HX1.out (by omega) (HAL.out ()) HAB.out b (HBL.out ()) HBB.out).mono ?_);rintro e wp ⟨rfl,d2,st9⟩;replace st:=st9;clear st9)))
  | (go_at_call 23;(first|(clear tk2;go_must (refine (forg_ab st HX1.out (by omega)).mono ?_);rintro e wp ⟨rfl,st9⟩;replace st:=st9;clear st9)|(clear tk3;go_must (refine (fe st HX1.out (by omega) (by decide) ⟨#[]⟩ (by decide) 110 (iQ _ _ iN) (by decide)).mono ?_);rintro e wp ⟨rfl,st9⟩;replace st:=st9;clear st9)|(go_must (refine (fe st HX1.out (by omega) (by decide) ⟨#[113]⟩ (by decide) 100 tak_q (by decide)).mono ?_);rintro e wp ⟨rfl,st9⟩;replace st:=st9;clear st9)))
  | (go_at_call 24;go_must (refine (used_2 st).mono ?_);rintro e wu ⟨pp,cap,rfl,st9⟩;replace st:=st9;clear st9)
  | (go_at_call 12;(first|(clear tk4;go_must (refine (kq st HT1.out HQ1.out HX1.out ⟨#[97,47,98]⟩ (by decide) rfl lk_AA (fun h=>by cases h)).mono ?_);rintro e wp ⟨rfl,st9⟩;replace st:=st9;clear st9)|(clear tk5;go_must (refine (key_a1 st HT1.out HQ1.out HX1.out lk_A (HAL.out ()) HAB.out).mono ?_);rintro e wp ⟨rfl,st9⟩;replace st:=st9;clear st9)|(go_must (refine (key_ab2 st HT1.out HQ1.out HX1.out (HAL.out ()) HAB.out (HBL.out ()) HBB.out).mono ?_);rintro e wp ⟨rfl,st9⟩;replace st:=st9;clear st9)))
  | (go_at_call 16;(go_must (refine (att_ab st HX1.out (by omega)).mono ?_);rintro e wp ⟨rfl,st9⟩;replace st:=st9;clear st9))
  | ((with_reducible refine ae (some 11) (.alloc 43) ?_);go_must (refine aY _ aD ?_);intro wa q11 hba hqa hra;replace st:=st.add hba hra hqa;clear hba hqa hra)
  | ((with_reducible refine ae none (.store 43 (.tmp 11) (.tmp 52)) ?_);go_must (refine bH (u8s zero32) (st.sv.mem.get 0 rfl) rfl rfl 32 aq (by simp [aa]) (by simp [aa,zero32]) (ai _) ?_);intro wb hub hrb;replace st:=st.updR 0 rfl hub hrb;clear hub hrb)
  | ((with_reducible refine ae (some 13) (.alloc 43) ?_);go_must (refine aY _ aD ?_);intro wa q13 hba hqa hra;replace st:=st.add hba hra hqa;clear hba hqa hra)
  | ((with_reducible refine ae none (.store 43 (.tmp 13) (.tmp 57)) ?_);go_must (refine bH (u8s a) (st.sv.mem.get 0 rfl) rfl rfl 32 aq (by simp [aa]) (by rw [aa,HAL.out ()]) (ai _) ?_);intro wb hub hrb;replace st:=st.updR 0 rfl hub hrb;clear hub hrb)
  | ((with_reducible refine ae (some 15) (.alloc 43) ?_);go_must (refine aY _ aD ?_);intro wa q15 hba hqa hra;replace st:=st.add hba hra hqa;clear hba hqa hra)
  | ((with_reducible refine ae none (.store 43 (.tmp 15) (.tmp 96)) ?_);go_must (refine bH (u8s b) (st.sv.mem.get 0 rfl) rfl rfl 32 aq (by simp [aa]) (by rw [aa,HBL.out ()]) (ai _) ?_);intro wb hub hrb;replace st:=st.updR 0 rfl hub hrb;clear hub hrb)
  | ((with_reducible refine bA (some 67) (.load 43 (.tmp 13)) (some (7,false)) ?_);go_must (refine aj (.agg (u8s a).toArray) rfl (au 0 (u8s a) (st.sv.mem.get 0 rfl) rfl _ aw rfl 32 aq (by rw [aa,HAL.out ()];omega) (by rw [List.drop_zero,List.take_of_length_le (by rw [aa,HAL.out ()];omega)])) ?_))
  | ((with_reducible refine bA (some 68) (.load 43 (.tmp 3)) (some (7,false)) ?_);go_must (refine aj (.agg (u8s a).toArray) rfl (au 0 (u8s a) (Row.bel HR3.out st.sv.mem.below) rfl _ aw rfl 32 aq (by rw [aa,HAL.out ()];omega) (by rw [List.drop_zero,List.take_of_length_le (by rw [aa,HAL.out ()];omega)])) ?_))
  | ((with_reducible refine bA (some 69) (.binOp .neq 43 (.tmp 67) (.tmp 68) 43) (some (7,false)) ?_);go_must (refine aj (.bool false) rfl (iT 5 32 .u8 a rfl rfl aw b7 aQ eu (HAL.out ())) ?_))
  | ((with_reducible refine bA (some 101) (.load 43 (.tmp 15)) (some (2,true)) ?_);go_must (refine aj (.agg (u8s b).toArray) rfl (au 0 (u8s b) (st.sv.mem.get 0 rfl) rfl _ aw rfl 32 aq (by rw [aa,HBL.out ()];omega) (by rw [List.drop_zero,List.take_of_length_le (by rw [aa,HBL.out ()];omega)])) ?_))
  | ((with_reducible refine bA (some 102) (.load 43 (.tmp 4)) (some (2,true)) ?_);go_must (refine aj (.agg (u8s b).toArray) rfl (au 0 (u8s b) (Row.bel HR4.out st.sv.mem.below) rfl _ aw rfl 32 aq (by rw [aa,HBL.out ()];omega) (by rw [List.drop_zero,List.take_of_length_le (by rw [aa,HBL.out ()];omega)])) ?_))
  | ((with_reducible refine bA (some 103) (.binOp .eql 43 (.tmp 101) (.tmp 102) 43) (some (2,true)) ?_);go_must (refine aj (.bool true) rfl (eC 5 32 .u8 b rfl rfl aw b7 aQ eu (HBL.out ())) ?_)))
 go_ret
 exact ⟨rfl,cA HBW.out HBW.out.size st.sv.mem.below⟩
theorem forgets_f (a b:List Int) (hal:a.length=32) (hab:Bytes a) (hbl:b.length=32) (hbb:Bytes b) (w:World) (ht:Tab w) (hq:QTab w) (hM:MaxL w) :
  Calls Tryz.prog 6 #[.agg (u8s a).toArray,.agg (u8s b).toArray,.bool false] w fun e w'=>e=.returned (.bool true)∧Below w.heap.size w w':=by
 have HT:Hid (Tab w):=ht
 have HQ:Hid (QTab w):=hq
 have HX:Hid (MaxL w):=hM
 have hm:=Mem.start w
 have HAL:Hid (∀_:Unit,a.length=32):=fun _=>hal
 have HAB:Hid (Bytes a):=hab
 have HBL:Hid (∀_:Unit,b.length=32):=fun _=>hbl
 have HBB:Hid (Bytes b):=hbb
 have tk1:Nat:=0
 have tk2:Nat:=0
 have tk3:Nat:=0
 have tk4:Nat:=0
 have tk5:Nat:=0
 have tk6:Nat:=0
 clear ht hq hM hal hab hbl hbb
 go_enter Tryz.func6,Tryz.ntmps6
 go_wp2_with (first
  | ((with_reducible refine ae (some 3) (.box 43 (.tmp 0)) ?_);go_must (refine az (u8s a) rfl hm ?_);clear hm;intro wx3 q3 hm)
  | ((with_reducible refine ae (some 4) (.box 43 (.tmp 1)) ?_);go_must (refine az (u8s b) rfl hm ?_);clear hm;intro wx4 q4 hm)
  | (go_at_call 8;refine (cQ _ (Tab.mem HT.out hm (by simp)) (QTab.mem HQ.out hm (by simp)) (HX.out.below hm.below)).mono ?_;rintro e w1 ⟨rfl,hb1⟩;replace hm:=hm.call hb1;clear hb1;have HT1:Hid (Tab w1):=Tab.mem HT.out hm (by simp);have HQ1:Hid (QTab w1):=QTab.mem HQ.out hm (by simp);have HX1:Hid (MaxL w1):=HX.out.below hm.below;have HBW:Hid (Below w.heap.size w w1):=hm.below;have HR3:Hid (Row w1 q3 (u8s a) 43):=hm.get 1 rfl;have HR4:Hid (Row w1 q4 (u8s b) 43):=hm.get 0 rfl;clear HT HQ HX)
  | (go_at_call 9;clear hm;go_must (refine (iu _ HT1.out HQ1.out).mono ?_);rintro e w2 ⟨g,mb,kv,sb,hb,d0,rb,m,rfl,st⟩)
  | ((with_reducible refine bA (some 28) (.load 43 (.tmp 3)) (some (2,false)) ?_);go_must (refine aj (.agg (u8s a).toArray) rfl (au 0 (u8s a) (Row.bel HR3.out st.sv.mem.below) rfl _ aw rfl 32 aq (by rw [aa,HAL.out ()];omega) (by rw [List.drop_zero,List.take_of_length_le (by rw [aa,HAL.out ()];omega)])) ?_))
  | ((with_reducible refine bA (some 34) (.load 43 (.tmp 4)) (some (8,false)) ?_);go_must (refine aj (.agg (u8s b).toArray) rfl (au 0 (u8s b) (Row.bel HR4.out st.sv.mem.below) rfl _ aw rfl 32 aq (by rw [aa,HBL.out ()];omega) (by rw [List.drop_zero,List.take_of_length_le (by rw [aa,HBL.out ()];omega)])) ?_))
  | (go_at_call 14;(first|(clear tk1;go_must (refine (mk_a st HT1.out HQ1.out HX1.out (by omega) a (HAL.out ()) HAB.out).mono ?_);rintro e wp ⟨rfl,d1,st9⟩;replace st:=st9;clear st9)|(go_must (refine (mk_ab st HT1.out HQ1.out HX1.out (by omega) (HAL.out ()) HAB.out b (HBL.out ()) HBB.out).mono ?_);rintro e wp ⟨rfl,d2,st9⟩;replace st:=st9;clear st9)))
  | (go_at_call 23;(first|(clear tk2;go_must (refine (forg_a st HX1.out (by omega)).mono ?_);rintro e wp ⟨rfl,st9⟩;replace st:=st9;clear st9)|(clear tk3;go_must (refine (fe st HX1.out (by omega) (by decide) ⟨#[]⟩ (by decide) 110 (iQ _ _ iN) (by decide)).mono ?_);rintro e wp ⟨rfl,st9⟩;replace st:=st9;clear st9)|(go_must (refine (fe st HX1.out (by omega) (by decide) ⟨#[113]⟩ (by decide) 100 tak_q (by decide)).mono ?_);rintro e wp ⟨rfl,st9⟩;replace st:=st9;clear st9)))
  | (go_at_call 24;go_must (refine (used_2 st).mono ?_);rintro e wu ⟨pp,cap,rfl,st9⟩;replace st:=st9;clear st9)
  | (go_at_call 12;(first|(clear tk4;go_must (refine (kq st HT1.out HQ1.out HX1.out ⟨#[97,47,98]⟩ (by decide) rfl rfl (fun h=>by cases h)).mono ?_);rintro e wp ⟨rfl,st9⟩;replace st:=st9;clear st9)|(clear tk5;go_must (refine (kq st HT1.out HQ1.out HX1.out ⟨#[97]⟩ (by decide) rfl rfl (fun h=>by cases h)).mono ?_);rintro e wp ⟨rfl,st9⟩;replace st:=st9;clear st9)|(go_must (refine (key_ab2 st HT1.out HQ1.out HX1.out (HAL.out ()) HAB.out (HBL.out ()) HBB.out).mono ?_);rintro e wp ⟨rfl,st9⟩;replace st:=st9;clear st9)))
  | (go_at_call 16;(first|(clear tk6;go_must (refine (att_a st HX1.out (by omega)).mono ?_);rintro e wp ⟨rfl,st9⟩;replace st:=st9;clear st9)|(go_must (refine (att_ab st HX1.out (by omega)).mono ?_);rintro e wp ⟨rfl,st9⟩;replace st:=st9;clear st9)))
  | ((with_reducible refine ae (some 11) (.alloc 43) ?_);go_must (refine aY _ aD ?_);intro wa q11 hba hqa hra;replace st:=st.add hba hra hqa;clear hba hqa hra)
  | ((with_reducible refine ae none (.store 43 (.tmp 11) (.tmp 52)) ?_);go_must (refine bH (u8s zero32) (st.sv.mem.get 0 rfl) rfl rfl 32 aq (by simp [aa]) (by simp [aa,zero32]) (ai _) ?_);intro wb hub hrb;replace st:=st.updR 0 rfl hub hrb;clear hub hrb)
  | ((with_reducible refine ae (some 13) (.alloc 43) ?_);go_must (refine aY _ aD ?_);intro wa q13 hba hqa hra;replace st:=st.add hba hra hqa;clear hba hqa hra)
  | ((with_reducible refine ae none (.store 43 (.tmp 13) (.tmp 57)) ?_);go_must (refine bH (u8s zero32) (st.sv.mem.get 0 rfl) rfl rfl 32 aq (by simp [aa]) (by simp [aa,zero32]) (ai _) ?_);intro wb hub hrb;replace st:=st.updR 0 rfl hub hrb;clear hub hrb)
  | ((with_reducible refine ae (some 15) (.alloc 43) ?_);go_must (refine aY _ aD ?_);intro wa q15 hba hqa hra;replace st:=st.add hba hra hqa;clear hba hqa hra)
  | ((with_reducible refine ae none (.store 43 (.tmp 15) (.tmp 96)) ?_);go_must (refine bH (u8s b) (st.sv.mem.get 0 rfl) rfl rfl 32 aq (by simp [aa]) (by rw [aa,HBL.out ()]) (ai _) ?_);intro wb hub hrb;replace st:=st.updR 0 rfl hub hrb;clear hub hrb)
  | ((with_reducible refine bA (some 101) (.load 43 (.tmp 15)) (some (2,true)) ?_);go_must (refine aj (.agg (u8s b).toArray) rfl (au 0 (u8s b) (st.sv.mem.get 0 rfl) rfl _ aw rfl 32 aq (by rw [aa,HBL.out ()];omega) (by rw [List.drop_zero,List.take_of_length_le (by rw [aa,HBL.out ()];omega)])) ?_))
  | ((with_reducible refine bA (some 102) (.load 43 (.tmp 4)) (some (2,true)) ?_);go_must (refine aj (.agg (u8s b).toArray) rfl (au 0 (u8s b) (Row.bel HR4.out st.sv.mem.below) rfl _ aw rfl 32 aq (by rw [aa,HBL.out ()];omega) (by rw [List.drop_zero,List.take_of_length_le (by rw [aa,HBL.out ()];omega)])) ?_))
  | ((with_reducible refine bA (some 103) (.binOp .eql 43 (.tmp 101) (.tmp 102) 43) (some (2,true)) ?_);go_must (refine aj (.bool true) rfl (eC 5 32 .u8 b rfl rfl aw b7 aQ eu (HBL.out ())) ?_)))
 go_ret
 exact ⟨rfl,cA HBW.out HBW.out.size st.sv.mem.below⟩
theorem forgets_walk (a b:List Int) (c:Bool) (hal:a.length=32) (hab:Bytes a) (hbl:b.length=32) (hbb:Bytes b) (w:World) (ht:Tab w) (hq:QTab w) (hM:MaxL w) :
  Calls Tryz.prog 6 #[.agg (u8s a).toArray,.agg (u8s b).toArray,.bool c] w fun e w'=>e=.returned (.bool true)∧Below w.heap.size w w':=by
 cases c with
 | true=>exact forgets_t a b hal hab hbl hbb w ht hq hM
 | false=>exact forgets_f a b hal hab hbl hbb w ht hq hM
end Go.Proofs.YtlpnafdkhoimhaaGreatDoor
