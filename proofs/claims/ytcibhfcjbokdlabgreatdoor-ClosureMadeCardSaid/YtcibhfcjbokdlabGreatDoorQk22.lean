import Derived.Deep.LoopGhost
import Derived.Test.YtcibhfcjbokdlabGreatDoorQk21
set_option maxRecDepth 100000
set_option maxHeartbeats 4000000
namespace Go.Proofs.YtcibhfcjbokdlabGreatDoor
open Go Go.RowKit Classical
theorem made_ft {F G H:Nat→Prop} (bl:List Tm) (ta tb:Tm) (bv sa sb:Value) (n:Int) (bn:0≤n∧n≤255) (w:World) (hY:Rdy w) (hbs:SlT F w bv bl) (hlen:bl.length≤maxLen) (ha:SlT G w sa ta.l) (hb:SlT H w sb tb.l) (hfew:Few bl) (hf2:Few [ta,tb]) (hia:isT ta=true) (hib:isT tb=true) (hx:decide (Kn bl ta)=false) (hy:decide (Kn bl tb)=true) :
  Calls Tryz.prog 3 #[bv,.agg (tcs ta sa).toArray,.agg (tcs tb sb).toArray,.int .u8 n] w fun e w'=>e=.returned (.bool true)∧Below w.heap.size w w':=by
 obtain ⟨pv,cv,rfl,hcv⟩:=hbs.len
 obtain ⟨lv,hlv⟩:∃l,l=bl.length:=⟨_,rfl⟩
 rw [←hlv] at hbs hcv ⊢
 obtain ⟨pa,ca,rfl,_⟩:=ha.len
 obtain ⟨ma,hma⟩:∃m,m=ta.l.length:=⟨_,rfl⟩
 rw [←hma] at ha ⊢
 obtain ⟨pb,cb,rfl,_⟩:=hb.len
 obtain ⟨mb,hmb⟩:∃m,m=tb.l.length:=⟨_,rfl⟩
 rw [←hmb] at hb ⊢
 have HY0:Hid (Rdy w):=hY
 have HBS0:Hid (SlT (fun b=>b<w.heap.size) w (.slice pv lv cv) bl):=hbs.lt
 have HSA0:Hid (SlT (fun b=>b<w.heap.size) w (.slice pa ma ca) ta.l):=ha.lt
 have HSB0:Hid (SlT (fun b=>b<w.heap.size) w (.slice pb mb cb) tb.l):=hb.lt
 have HLV:Hid (∀_:Unit,lv=bl.length):=fun _=>hlv
 have HLM:Hid (lv≤maxLen):=by show _≤_;rw [hlv];exact hlen
 have hlv9:lv≤9223372036854775807:=by have:=HLM.out;unfold maxLen at this;omega
 have tkk:Nat:=0
 have tf1:Nat:=0
 have ti1:Nat:=0
 clear hY hbs ha hb hma hmb hcv hlen hlv
 have hm:=Mem.start w
 go_enter Tryz.func3,Tryz.ntmps3
 go_wp2_with (first
  | ((with_reducible refine af (some 5) (.box 24 (.tmp 1)) ?_);go_must (refine ax (tcs ta (.slice pa ma ca)) rfl hm ?_);clear hm;intro w0 g5 hm)
  | ((with_reducible refine af (some 6) (.box 24 (.tmp 2)) ?_);go_must (refine ax (tcs tb (.slice pb mb cb)) rfl hm ?_);clear hm;intro w1 g6 hm))
 have HB1:Hid (Below w.heap.size w w1):=hm.below
 have HR5:Hid (Row w1 g5 (tcs ta (.slice pa ma ca)) 24):=hm.get 1 rfl
 have HR6:Hid (Row w1 g6 (tcs tb (.slice pb mb cb)) 24):=hm.get 0 rfl
 have HY:Hid (Rdy w1):=HY0.out.below HB1.out
 have HBS:Hid (SlT (fun b=>b<w1.heap.size) w1 (.slice pv lv cv) bl):=(HBS0.out.below HB1.out).weak fun b hb=>Nat.lt_of_lt_of_le hb HB1.out.size
 have HSA:Hid (SlT (fun b=>b<w1.heap.size) w1 (.slice pa ma ca) ta.l):=(HSA0.out.below HB1.out).weak fun b hb=>Nat.lt_of_lt_of_le hb HB1.out.size
 have HSB:Hid (SlT (fun b=>b<w1.heap.size) w1 (.slice pb mb cb) tb.l):=(HSB0.out.below HB1.out).weak fun b hb=>Nat.lt_of_lt_of_le hb HB1.out.size
 clear hm HY0 HBS0 HSA0 HSB0
 have hm:=Mem.start w1
 have HPF:Hid (Few bl∧cnt ta≤20∧cnt tb≤20∧isT ta=true∧isT tb=true):=⟨hfew,(cg.1 hf2).1,(cg.1 hf2).2,hia,hib⟩
 have HF2:Hid (Few [ta,tb]):=hf2
 have HX:Hid (decide (Kn bl ta)=false):=hx
 have HYK:Hid (decide (Kn bl tb)=true):=hy
 have HN:Hid (0≤n % 100∧n % 100≤99):=⟨by omega,by omega⟩
 have HF1:Hid (∀W,Below w1.heap.size w1 W→Calls Tryz.prog 5 #[.slice pv lv cv] W fun e w'=>e=.returned (.bool true)∧Below W.heap.size W w'):=fun W hW=>bp bl pv lv cv W true (⟨fun _=>HPF.out.1,fun _=>rfl⟩) (HLV.out ()) HLM.out (HBS.out.below hW)
 have HIA:Hid (∀W,Below w1.heap.size w1 W→Calls Tryz.prog 6 #[.agg (tcs ta (.slice pa ma ca)).toArray] W fun e w'=>e=.returned (.bool true)∧Below W.heap.size W w'):=fun W hW=>by have h9:=bJ ta _ W (HSA.out.below hW);rw [hia] at h9;exact h9
 have HIB:Hid (∀W,Below w1.heap.size w1 W→Calls Tryz.prog 6 #[.agg (tcs tb (.slice pb mb cb)).toArray] W fun e w'=>e=.returned (.bool true)∧Below W.heap.size W w'):=fun W hW=>by have h9:=bJ tb _ W (HSB.out.below hW);rw [hib] at h9;exact h9
 clear hfew hf2 hia hib hx hy
 go_wp2_with (first
  | (clear tkk;go_at_call 4;go_must (refine (a6 _ (HY.out.below hm.below)).mono ?_);rintro e wk ⟨he,hb⟩;subst he;replace hm:=hm.call hb;clear hb)
  | (clear tf1;go_at_call 5;go_must (refine (HF1.out _ hm.below).mono ?_);rintro e wf ⟨he,hb⟩;subst he;replace hm:=hm.call hb;clear hb)
  | ((with_reducible refine ay (some 20) (.load 24 (.tmp 5)) (some (3,false)) ?_);go_must (refine aa (.agg (tcs ta (.slice pa ma ca)).toArray) rfl (ak 0 (tcs ta (.slice pa ma ca)) (HR5.out.below' hm.below) rfl _ Tryz.underlying24 rfl 3 ag (Nat.le_refl _) rfl) ?_))
  | ((with_reducible refine ay (some 21) (.load 24 (.tmp 6)) (some (3,false)) ?_);go_must (refine aa (.agg (tcs tb (.slice pb mb cb)).toArray) rfl (ak 0 (tcs tb (.slice pb mb cb)) (HR6.out.below' hm.below) rfl _ Tryz.underlying24 rfl 3 ag (Nat.le_refl _) rfl) ?_))
  | ((with_reducible refine ay (some 22) (.buildSlice 22 2 #[(0,.tmp 20),(1,.tmp 21)]) (some (3,false)) ?_);go_must (refine aQ ta tb (.slice pa ma ca) (.slice pb mb cb) rfl rfl rfl hm ?_);clear hm;intro w22 g22 hb hg hm;have H22:Hid (SlT (fun _=>True) w22 (.slice (some ⟨g22,0,none⟩) 2 2) [ta,tb]):=a7 (hm.get 0 rfl) ((HSA.out.below hm.below).weak (fun _ _=>trivial)) ((HSB.out.below hm.below).weak (fun _ _=>trivial)) trivial;clear hb hg;replace hm:=hm.tail)
  | (go_at_call 5;go_must (refine (bp [ta,tb] (some ⟨g22,0,none⟩) 2 2 _ true (⟨fun _=>HF2.out,fun _=>rfl⟩) rfl (by unfold maxLen;omega) H22.out).mono ?_);rintro e wf2 ⟨he,hb⟩;subst he;replace hm:=hm.call hb;clear hb)
  | ((with_reducible refine ay (some 27) (.load 24 (.tmp 5)) (some (10,false)) ?_);go_must (refine aa (.agg (tcs ta (.slice pa ma ca)).toArray) rfl (ak 0 (tcs ta (.slice pa ma ca)) (HR5.out.below' hm.below) rfl _ Tryz.underlying24 rfl 3 ag (Nat.le_refl _) rfl) ?_))
  | (clear ti1;go_at_call 6;go_must (refine (HIA.out _ hm.below).mono ?_);rintro e wi1 ⟨he,hb⟩;subst he;replace hm:=hm.call hb;clear hb)
  | ((with_reducible refine ay (some 32) (.load 24 (.tmp 6)) (some (15,false)) ?_);go_must (refine aa (.agg (tcs tb (.slice pb mb cb)).toArray) rfl (ak 0 (tcs tb (.slice pb mb cb)) (HR6.out.below' hm.below) rfl _ Tryz.underlying24 rfl 3 ag (Nat.le_refl _) rfl) ?_))
  | (go_at_call 6;go_must (refine (HIB.out _ hm.below).mono ?_);rintro e wi2 ⟨he,hb⟩;subst he;replace hm:=hm.call hb;clear hb)
  | ((with_reducible refine af (some 36) (.load 24 (.tmp 5)) ?_);go_must (refine aa (.agg (tcs ta (.slice pa ma ca)).toArray) rfl (ak 0 (tcs ta (.slice pa ma ca)) (HR5.out.below' hm.below) rfl _ Tryz.underlying24 rfl 3 ag (Nat.le_refl _) rfl) ?_))
  | ((with_reducible refine af (some 37) (.load 24 (.tmp 6)) ?_);go_must (refine aa (.agg (tcs tb (.slice pb mb cb)).toArray) rfl (ak 0 (tcs tb (.slice pb mb cb)) (HR6.out.below' hm.below) rfl _ Tryz.underlying24 rfl 3 ag (Nat.le_refl _) rfl) ?_))
  | ((with_reducible refine af (some 38) (.buildSlice 22 2 #[(0,.tmp 36),(1,.tmp 37)]) ?_);go_must (refine aQ ta tb (.slice pa ma ca) (.slice pb mb cb) rfl rfl rfl hm ?_);clear hm;intro w38 g38 hb hg hm;clear hb hg)
  | ((with_reducible refine af (some 9) (.alloc 24) ?_);go_must (refine aj _ aq hm ?_);clear hm;intro w39 g9 hm)
  | ((with_reducible refine af none (.store 24 (.tmp 9) (.tmp 39)) ?_);go_must (refine am 0 (tcs (mkT 4 0 [ta,tb]) (.slice (some ⟨g38,0,none⟩) 2 2)) hm rfl rfl rfl 3 ag rfl rfl (aM _ _ _ _) ?_);clear hm;intro w40 hm)
  | ((with_reducible refine af (some 40) (.load 24 (.tmp 5)) ?_);go_must (refine aa (.agg (tcs ta (.slice pa ma ca)).toArray) rfl (ak 0 (tcs ta (.slice pa ma ca)) (HR5.out.below' hm.below) rfl _ Tryz.underlying24 rfl 3 ag (Nat.le_refl _) rfl) ?_))
  | ((with_reducible refine af (some 41) (.load 24 (.tmp 6)) ?_);go_must (refine aa (.agg (tcs tb (.slice pb mb cb)).toArray) rfl (ak 0 (tcs tb (.slice pb mb cb)) (HR6.out.below' hm.below) rfl _ Tryz.underlying24 rfl 3 ag (Nat.le_refl _) rfl) ?_))
  | ((with_reducible refine af (some 42) (.buildSlice 22 2 #[(0,.tmp 40),(1,.tmp 41)]) ?_);go_must (refine aQ ta tb (.slice pa ma ca) (.slice pb mb cb) rfl rfl rfl hm ?_);clear hm;intro w42 g42 hb hg hm;clear hb hg)
  | ((with_reducible refine af (some 10) (.alloc 24) ?_);go_must (refine aj _ aq hm ?_);clear hm;intro w43 g10 hm)
  | ((with_reducible refine af none (.store 24 (.tmp 10) (.tmp 43)) ?_);go_must (refine am 0 (tcs (mkT 3 0 [ta,tb]) (.slice (some ⟨g42,0,none⟩) 2 2)) hm rfl rfl rfl 3 ag rfl rfl (aM _ _ _ _) ?_);clear hm;intro w44 hm)
  | ((with_reducible refine af (some 47) (.load 24 (.tmp 5)) ?_);go_must (refine aa (.agg (tcs ta (.slice pa ma ca)).toArray) rfl (ak 0 (tcs ta (.slice pa ma ca)) (HR5.out.below' hm.below) rfl _ Tryz.underlying24 rfl 3 ag (Nat.le_refl _) rfl) ?_))
  | ((with_reducible refine af (some 48) (.buildSlice 22 1 #[(0,.tmp 47)]) ?_);go_must (refine dz (ta) (.slice pa ma ca) rfl rfl hm ?_);clear hm;intro w48 g48 hb hg hm;clear hb hg)
  | ((with_reducible refine af (some 11) (.alloc 24) ?_);go_must (refine aj _ aq hm ?_);clear hm;intro w49 g11 hm)
  | ((with_reducible refine af none (.store 24 (.tmp 11) (.tmp 49)) ?_);go_must (refine am 0 (tcs (mkT 5 (n % 100) [ta]) (.slice (some ⟨g48,0,none⟩) 1 1)) hm rfl rfl rfl 3 ag rfl rfl (aM _ _ _ _) ?_);clear hm;intro w50 hm))
 have HBX:Hid (Below w1.heap.size w1 w50):=hm.below
 have H5X:Hid (Row w50 g5 (tcs ta (.slice pa ma ca)) 24):=HR5.out.below' hm.below
 have H6X:Hid (Row w50 g6 (tcs tb (.slice pb mb cb)) 24):=HR6.out.below' hm.below
 have HBSX:Hid (SlT (fun b=>b<w1.heap.size) w50 (.slice pv lv cv) bl):=HBS.out.below hm.below
 have HSAX:Hid (SlT (fun _=>True) w50 (.slice pa ma ca) ta.l):=(HSA.out.below hm.below).weak fun _ _=>trivial
 have HSBX:Hid (SlT (fun _=>True) w50 (.slice pb mb cb) tb.l):=(HSB.out.below hm.below).weak fun _ _=>trivial
 have HRF:Hid (Row w50 g11 (tcs (mkT 5 (n % 100) [ta]) (.slice (some ⟨g48,0,none⟩) 1 1)) 24∧SlT (fun _=>True) w50 (.slice (some ⟨g48,0,none⟩) 1 1) (mkT 5 (n % 100) [ta]).l):=⟨hm.get 0 rfl,by rw [aC];exact dS (hm.get 1 rfl) HSAX.out trivial⟩
 have HRS:Hid (Row w50 g10 (tcs (mkT 3 0 [ta,tb]) (.slice (some ⟨g42,0,none⟩) 2 2)) 24∧SlT (fun _=>True) w50 (.slice (some ⟨g42,0,none⟩) 2 2) (mkT 3 0 [ta,tb]).l):=⟨hm.get 2 rfl,by rw [aC];exact a7 (hm.get 3 rfl) HSAX.out HSBX.out trivial⟩
 have HRP:Hid (Row w50 g9 (tcs (mkT 4 0 [ta,tb]) (.slice (some ⟨g38,0,none⟩) 2 2)) 24∧SlT (fun _=>True) w50 (.slice (some ⟨g38,0,none⟩) 2 2) (mkT 4 0 [ta,tb]).l):=⟨hm.get 4 rfl,by rw [aC];exact a7 (hm.get 5 rfl) HSAX.out HSBX.out trivial⟩
 have HKP:Hid (decide (Kn bl (mkT 4 0 [ta,tb]))=false):=by
  have e:Kn bl (mkT 4 0 [ta,tb])↔Kn bl ta∧Kn bl tb:=⟨fun h=>⟨⟨HPF.out.2.2.2.1,(a8.1 h.2).1⟩,⟨HPF.out.2.2.2.2,(a8.1 h.2).2⟩⟩,fun h=>⟨dw (Or.inr rfl) HPF.out.2.2.2.1 HPF.out.2.2.2.2 HPF.out.2.1 HPF.out.2.2.1,a8.2 ⟨h.1.2,h.2.2⟩⟩⟩
  show decide _=_
  exact decide_eq_false fun h=>absurd (e.1 h).1 (of_decide_eq_false HX.out)
 clear hm HR5 HR6 HBS HSA HSB HIA HIB HF1
 have hm:=Mem.start w50
 refine av ?_
 refine ap (T:=fun W=>Mem w50 [] W []) (by kernel_rfl) hm ?_
 intro wc hbw hmw
 replace hm:Mem w50 [] wc []:=hmw
 clear hbw hmw
 refine aT 0 (v:=.slice pv lv cv) rfl (by kernel_rfl) rfl (fun W _=>by go_simp) hm ?_
 go_simp
 refine aT 1 (v:=.agg (tcs ta (.slice pa ma ca)).toArray) rfl (by kernel_rfl) rfl (fun W hW=>ak 0 (tcs ta (.slice pa ma ca)) (H5X.out.below' hW.below) rfl _ Tryz.underlying24 rfl 3 ag (Nat.le_refl _) rfl) hm ?_
 go_simp
 refine aT 3 (v:=.slice pv lv cv) rfl (by kernel_rfl) rfl (fun W _=>by go_simp) hm ?_
 go_simp
 refine aT 4 (v:=.agg (tcs tb (.slice pb mb cb)).toArray) rfl (by kernel_rfl) rfl (fun W hW=>ak 0 (tcs tb (.slice pb mb cb)) (H6X.out.below' hW.below) rfl _ Tryz.underlying24 rfl 3 ag (Nat.le_refl _) rfl) hm ?_
 go_simp
 refine aO 2 (by kernel_rfl) rfl rfl ?_
 intro K hK
 go_wp2_with (go_at_call 7;refine (aU HX.out (HBSX.out.below hm.below) (HSAX.out.below hm.below) (bA (bz HPF.out.1 (Nat.le_trans HPF.out.2.1 (by omega)))) (Nat.le_trans HPF.out.1.1 (by omega))).mono ?_;rintro e w52 ⟨he,hb⟩;subst he;replace hm:=hm.call hb;clear hb)
 refine hK _ _ hm ?_
 clear hK K
 go_simp
 refine aO 5 (by kernel_rfl) rfl rfl ?_
 intro K hK
 go_wp2_with (go_at_call 7;refine (aU HYK.out (HBSX.out.below hm.below) (HSBX.out.below hm.below) (bA (bz HPF.out.1 (Nat.le_trans HPF.out.2.2.1 (by omega)))) (Nat.le_trans HPF.out.1.1 (by omega))).mono ?_;rintro e w55 ⟨he,hb⟩;subst he;replace hm:=hm.call hb;clear hb)
 refine hK _ _ hm ?_
 clear hK K
 go_simp
 refine aT 6 (v:=.bool false) rfl (by kernel_rfl) rfl (fun W _=>by go_simp) hm ?_
 go_simp
 refine aT 7 (v:=.bool true) rfl (by kernel_rfl) rfl (fun W _=>by go_simp) hm ?_
 go_simp
 refine wpAnyH_done (by kernel_rfl) ?_ _
 simp only [endsIn]
 have HRP1:Hid (Row w50 g9 (tcs (mkT 4 0 [ta,tb]) (.slice (some ⟨g38,0,none⟩) 2 2)) 24):=HRP.out.1
 have HRS1:Hid (Row w50 g10 (tcs (mkT 3 0 [ta,tb]) (.slice (some ⟨g42,0,none⟩) 2 2)) 24):=HRS.out.1
 have HRF1:Hid (Row w50 g11 (tcs (mkT 5 (n % 100) [ta]) (.slice (some ⟨g48,0,none⟩) 1 1)) 24):=HRF.out.1
 have tn1:Nat:=0
 have tn2:Nat:=0
 have tn3:Nat:=0
 go_wp2_with (first
  | ((with_reducible refine af (some 57) (.load 24 (.tmp 9)) ?_);go_must (refine aa (.agg (tcs (mkT 4 0 [ta,tb]) (.slice (some ⟨g38,0,none⟩) 2 2)).toArray) rfl (ak 0 (tcs (mkT 4 0 [ta,tb]) (.slice (some ⟨g38,0,none⟩) 2 2)) (HRP1.out.below' hm.below) rfl _ Tryz.underlying24 rfl 3 ag (Nat.le_refl _) rfl) ?_))
  | (clear tn1;go_at_call 7;refine (aU HKP.out (HBSX.out.below hm.below) (HRP.out.2.below hm.below) (bA (bz HPF.out.1 (cnt_m2 HPF.out.2.1 HPF.out.2.2.1))) (Nat.le_trans HPF.out.1.1 (by omega))).mono ?_;rintro e w58 ⟨he,hb⟩;subst he;replace hm:=hm.call hb;clear hb))
 go_ret
 exact ⟨rfl,HB1.out.trans ((HBX.out.trans (hm.below.mono HBX.out.size)).mono HB1.out.size)⟩
open Go Go.RowKit Classical
theorem made_ff {F G H:Nat→Prop} (bl:List Tm) (ta tb:Tm) (bv sa sb:Value) (n:Int) (bn:0≤n∧n≤255) (w:World) (hY:Rdy w) (hbs:SlT F w bv bl) (hlen:bl.length≤maxLen) (ha:SlT G w sa ta.l) (hb:SlT H w sb tb.l) (hfew:Few bl) (hf2:Few [ta,tb]) (hia:isT ta=true) (hib:isT tb=true) (hx:decide (Kn bl ta)=false) (hy:decide (Kn bl tb)=false) :
  Calls Tryz.prog 3 #[bv,.agg (tcs ta sa).toArray,.agg (tcs tb sb).toArray,.int .u8 n] w fun e w'=>e=.returned (.bool true)∧Below w.heap.size w w':=by
 obtain ⟨pv,cv,rfl,hcv⟩:=hbs.len
 obtain ⟨lv,hlv⟩:∃l,l=bl.length:=⟨_,rfl⟩
 rw [←hlv] at hbs hcv ⊢
 obtain ⟨pa,ca,rfl,_⟩:=ha.len
 obtain ⟨ma,hma⟩:∃m,m=ta.l.length:=⟨_,rfl⟩
 rw [←hma] at ha ⊢
 obtain ⟨pb,cb,rfl,_⟩:=hb.len
 obtain ⟨mb,hmb⟩:∃m,m=tb.l.length:=⟨_,rfl⟩
 rw [←hmb] at hb ⊢
 have HY0:Hid (Rdy w):=hY
 have HBS0:Hid (SlT (fun b=>b<w.heap.size) w (.slice pv lv cv) bl):=hbs.lt
 have HSA0:Hid (SlT (fun b=>b<w.heap.size) w (.slice pa ma ca) ta.l):=ha.lt
 have HSB0:Hid (SlT (fun b=>b<w.heap.size) w (.slice pb mb cb) tb.l):=hb.lt
 have HLV:Hid (∀_:Unit,lv=bl.length):=fun _=>hlv
 have HLM:Hid (lv≤maxLen):=by show _≤_;rw [hlv];exact hlen
 have hlv9:lv≤9223372036854775807:=by have:=HLM.out;unfold maxLen at this;omega
 have tkk:Nat:=0
 have tf1:Nat:=0
 have ti1:Nat:=0
 clear hY hbs ha hb hma hmb hcv hlen hlv
 have hm:=Mem.start w
 go_enter Tryz.func3,Tryz.ntmps3
 go_wp2_with (first
  | ((with_reducible refine af (some 5) (.box 24 (.tmp 1)) ?_);go_must (refine ax (tcs ta (.slice pa ma ca)) rfl hm ?_);clear hm;intro w0 g5 hm)
  | ((with_reducible refine af (some 6) (.box 24 (.tmp 2)) ?_);go_must (refine ax (tcs tb (.slice pb mb cb)) rfl hm ?_);clear hm;intro w1 g6 hm))
 have HB1:Hid (Below w.heap.size w w1):=hm.below
 have HR5:Hid (Row w1 g5 (tcs ta (.slice pa ma ca)) 24):=hm.get 1 rfl
 have HR6:Hid (Row w1 g6 (tcs tb (.slice pb mb cb)) 24):=hm.get 0 rfl
 have HY:Hid (Rdy w1):=HY0.out.below HB1.out
 have HBS:Hid (SlT (fun b=>b<w1.heap.size) w1 (.slice pv lv cv) bl):=(HBS0.out.below HB1.out).weak fun b hb=>Nat.lt_of_lt_of_le hb HB1.out.size
 have HSA:Hid (SlT (fun b=>b<w1.heap.size) w1 (.slice pa ma ca) ta.l):=(HSA0.out.below HB1.out).weak fun b hb=>Nat.lt_of_lt_of_le hb HB1.out.size
 have HSB:Hid (SlT (fun b=>b<w1.heap.size) w1 (.slice pb mb cb) tb.l):=(HSB0.out.below HB1.out).weak fun b hb=>Nat.lt_of_lt_of_le hb HB1.out.size
 clear hm HY0 HBS0 HSA0 HSB0
 have hm:=Mem.start w1
 have HPF:Hid (Few bl∧cnt ta≤20∧cnt tb≤20∧isT ta=true∧isT tb=true):=⟨hfew,(cg.1 hf2).1,(cg.1 hf2).2,hia,hib⟩
 have HF2:Hid (Few [ta,tb]):=hf2
 have HX:Hid (decide (Kn bl ta)=false):=hx
 have HYK:Hid (decide (Kn bl tb)=false):=hy
 have HN:Hid (0≤n % 100∧n % 100≤99):=⟨by omega,by omega⟩
 have HF1:Hid (∀W,Below w1.heap.size w1 W→Calls Tryz.prog 5 #[.slice pv lv cv] W fun e w'=>e=.returned (.bool true)∧Below W.heap.size W w'):=fun W hW=>bp bl pv lv cv W true (⟨fun _=>HPF.out.1,fun _=>rfl⟩) (HLV.out ()) HLM.out (HBS.out.below hW)
 have HIA:Hid (∀W,Below w1.heap.size w1 W→Calls Tryz.prog 6 #[.agg (tcs ta (.slice pa ma ca)).toArray] W fun e w'=>e=.returned (.bool true)∧Below W.heap.size W w'):=fun W hW=>by have h9:=bJ ta _ W (HSA.out.below hW);rw [hia] at h9;exact h9
 have HIB:Hid (∀W,Below w1.heap.size w1 W→Calls Tryz.prog 6 #[.agg (tcs tb (.slice pb mb cb)).toArray] W fun e w'=>e=.returned (.bool true)∧Below W.heap.size W w'):=fun W hW=>by have h9:=bJ tb _ W (HSB.out.below hW);rw [hib] at h9;exact h9
 clear hfew hf2 hia hib hx hy
 go_wp2_with (first
  | (clear tkk;go_at_call 4;go_must (refine (a6 _ (HY.out.below hm.below)).mono ?_);rintro e wk ⟨he,hb⟩;subst he;replace hm:=hm.call hb;clear hb)
  | (clear tf1;go_at_call 5;go_must (refine (HF1.out _ hm.below).mono ?_);rintro e wf ⟨he,hb⟩;subst he;replace hm:=hm.call hb;clear hb)
  | ((with_reducible refine ay (some 20) (.load 24 (.tmp 5)) (some (3,false)) ?_);go_must (refine aa (.agg (tcs ta (.slice pa ma ca)).toArray) rfl (ak 0 (tcs ta (.slice pa ma ca)) (HR5.out.below' hm.below) rfl _ Tryz.underlying24 rfl 3 ag (Nat.le_refl _) rfl) ?_))
  | ((with_reducible refine ay (some 21) (.load 24 (.tmp 6)) (some (3,false)) ?_);go_must (refine aa (.agg (tcs tb (.slice pb mb cb)).toArray) rfl (ak 0 (tcs tb (.slice pb mb cb)) (HR6.out.below' hm.below) rfl _ Tryz.underlying24 rfl 3 ag (Nat.le_refl _) rfl) ?_))
  | ((with_reducible refine ay (some 22) (.buildSlice 22 2 #[(0,.tmp 20),(1,.tmp 21)]) (some (3,false)) ?_);go_must (refine aQ ta tb (.slice pa ma ca) (.slice pb mb cb) rfl rfl rfl hm ?_);clear hm;intro w22 g22 hb hg hm;have H22:Hid (SlT (fun _=>True) w22 (.slice (some ⟨g22,0,none⟩) 2 2) [ta,tb]):=a7 (hm.get 0 rfl) ((HSA.out.below hm.below).weak (fun _ _=>trivial)) ((HSB.out.below hm.below).weak (fun _ _=>trivial)) trivial;clear hb hg;replace hm:=hm.tail)
  | (go_at_call 5;go_must (refine (bp [ta,tb] (some ⟨g22,0,none⟩) 2 2 _ true (⟨fun _=>HF2.out,fun _=>rfl⟩) rfl (by unfold maxLen;omega) H22.out).mono ?_);rintro e wf2 ⟨he,hb⟩;subst he;replace hm:=hm.call hb;clear hb)
  | ((with_reducible refine ay (some 27) (.load 24 (.tmp 5)) (some (10,false)) ?_);go_must (refine aa (.agg (tcs ta (.slice pa ma ca)).toArray) rfl (ak 0 (tcs ta (.slice pa ma ca)) (HR5.out.below' hm.below) rfl _ Tryz.underlying24 rfl 3 ag (Nat.le_refl _) rfl) ?_))
  | (clear ti1;go_at_call 6;go_must (refine (HIA.out _ hm.below).mono ?_);rintro e wi1 ⟨he,hb⟩;subst he;replace hm:=hm.call hb;clear hb)
  | ((with_reducible refine ay (some 32) (.load 24 (.tmp 6)) (some (15,false)) ?_);go_must (refine aa (.agg (tcs tb (.slice pb mb cb)).toArray) rfl (ak 0 (tcs tb (.slice pb mb cb)) (HR6.out.below' hm.below) rfl _ Tryz.underlying24 rfl 3 ag (Nat.le_refl _) rfl) ?_))
  | (go_at_call 6;go_must (refine (HIB.out _ hm.below).mono ?_);rintro e wi2 ⟨he,hb⟩;subst he;replace hm:=hm.call hb;clear hb)
  | ((with_reducible refine af (some 36) (.load 24 (.tmp 5)) ?_);go_must (refine aa (.agg (tcs ta (.slice pa ma ca)).toArray) rfl (ak 0 (tcs ta (.slice pa ma ca)) (HR5.out.below' hm.below) rfl _ Tryz.underlying24 rfl 3 ag (Nat.le_refl _) rfl) ?_))
  | ((with_reducible refine af (some 37) (.load 24 (.tmp 6)) ?_);go_must (refine aa (.agg (tcs tb (.slice pb mb cb)).toArray) rfl (ak 0 (tcs tb (.slice pb mb cb)) (HR6.out.below' hm.below) rfl _ Tryz.underlying24 rfl 3 ag (Nat.le_refl _) rfl) ?_))
  | ((with_reducible refine af (some 38) (.buildSlice 22 2 #[(0,.tmp 36),(1,.tmp 37)]) ?_);go_must (refine aQ ta tb (.slice pa ma ca) (.slice pb mb cb) rfl rfl rfl hm ?_);clear hm;intro w38 g38 hb hg hm;clear hb hg)
  | ((with_reducible refine af (some 9) (.alloc 24) ?_);go_must (refine aj _ aq hm ?_);clear hm;intro w39 g9 hm)
  | ((with_reducible refine af none (.store 24 (.tmp 9) (.tmp 39)) ?_);go_must (refine am 0 (tcs (mkT 4 0 [ta,tb]) (.slice (some ⟨g38,0,none⟩) 2 2)) hm rfl rfl rfl 3 ag rfl rfl (aM _ _ _ _) ?_);clear hm;intro w40 hm)
  | ((with_reducible refine af (some 40) (.load 24 (.tmp 5)) ?_);go_must (refine aa (.agg (tcs ta (.slice pa ma ca)).toArray) rfl (ak 0 (tcs ta (.slice pa ma ca)) (HR5.out.below' hm.below) rfl _ Tryz.underlying24 rfl 3 ag (Nat.le_refl _) rfl) ?_))
  | ((with_reducible refine af (some 41) (.load 24 (.tmp 6)) ?_);go_must (refine aa (.agg (tcs tb (.slice pb mb cb)).toArray) rfl (ak 0 (tcs tb (.slice pb mb cb)) (HR6.out.below' hm.below) rfl _ Tryz.underlying24 rfl 3 ag (Nat.le_refl _) rfl) ?_))
  | ((with_reducible refine af (some 42) (.buildSlice 22 2 #[(0,.tmp 40),(1,.tmp 41)]) ?_);go_must (refine aQ ta tb (.slice pa ma ca) (.slice pb mb cb) rfl rfl rfl hm ?_);clear hm;intro w42 g42 hb hg hm;clear hb hg)
  | ((with_reducible refine af (some 10) (.alloc 24) ?_);go_must (refine aj _ aq hm ?_);clear hm;intro w43 g10 hm)
  | ((with_reducible refine af none (.store 24 (.tmp 10) (.tmp 43)) ?_);go_must (refine am 0 (tcs (mkT 3 0 [ta,tb]) (.slice (some ⟨g42,0,none⟩) 2 2)) hm rfl rfl rfl 3 ag rfl rfl (aM _ _ _ _) ?_);clear hm;intro w44 hm)
  | ((with_reducible refine af (some 47) (.load 24 (.tmp 5)) ?_);go_must (refine aa (.agg (tcs ta (.slice pa ma ca)).toArray) rfl (ak 0 (tcs ta (.slice pa ma ca)) (HR5.out.below' hm.below) rfl _ Tryz.underlying24 rfl 3 ag (Nat.le_refl _) rfl) ?_))
  | ((with_reducible refine af (some 48) (.buildSlice 22 1 #[(0,.tmp 47)]) ?_);go_must (refine dz (ta) (.slice pa ma ca) rfl rfl hm ?_);clear hm;intro w48 g48 hb hg hm;clear hb hg)
  | ((with_reducible refine af (some 11) (.alloc 24) ?_);go_must (refine aj _ aq hm ?_);clear hm;intro w49 g11 hm)
  | ((with_reducible refine af none (.store 24 (.tmp 11) (.tmp 49)) ?_);go_must (refine am 0 (tcs (mkT 5 (n % 100) [ta]) (.slice (some ⟨g48,0,none⟩) 1 1)) hm rfl rfl rfl 3 ag rfl rfl (aM _ _ _ _) ?_);clear hm;intro w50 hm))
 have HBX:Hid (Below w1.heap.size w1 w50):=hm.below
 have H5X:Hid (Row w50 g5 (tcs ta (.slice pa ma ca)) 24):=HR5.out.below' hm.below
 have H6X:Hid (Row w50 g6 (tcs tb (.slice pb mb cb)) 24):=HR6.out.below' hm.below
 have HBSX:Hid (SlT (fun b=>b<w1.heap.size) w50 (.slice pv lv cv) bl):=HBS.out.below hm.below
 have HSAX:Hid (SlT (fun _=>True) w50 (.slice pa ma ca) ta.l):=(HSA.out.below hm.below).weak fun _ _=>trivial
 have HSBX:Hid (SlT (fun _=>True) w50 (.slice pb mb cb) tb.l):=(HSB.out.below hm.below).weak fun _ _=>trivial
 have HRF:Hid (Row w50 g11 (tcs (mkT 5 (n % 100) [ta]) (.slice (some ⟨g48,0,none⟩) 1 1)) 24∧SlT (fun _=>True) w50 (.slice (some ⟨g48,0,none⟩) 1 1) (mkT 5 (n % 100) [ta]).l):=⟨hm.get 0 rfl,by rw [aC];exact dS (hm.get 1 rfl) HSAX.out trivial⟩
 have HRS:Hid (Row w50 g10 (tcs (mkT 3 0 [ta,tb]) (.slice (some ⟨g42,0,none⟩) 2 2)) 24∧SlT (fun _=>True) w50 (.slice (some ⟨g42,0,none⟩) 2 2) (mkT 3 0 [ta,tb]).l):=⟨hm.get 2 rfl,by rw [aC];exact a7 (hm.get 3 rfl) HSAX.out HSBX.out trivial⟩
 have HRP:Hid (Row w50 g9 (tcs (mkT 4 0 [ta,tb]) (.slice (some ⟨g38,0,none⟩) 2 2)) 24∧SlT (fun _=>True) w50 (.slice (some ⟨g38,0,none⟩) 2 2) (mkT 4 0 [ta,tb]).l):=⟨hm.get 4 rfl,by rw [aC];exact a7 (hm.get 5 rfl) HSAX.out HSBX.out trivial⟩
 have HKP:Hid (decide (Kn bl (mkT 4 0 [ta,tb]))=false):=by
  have e:Kn bl (mkT 4 0 [ta,tb])↔Kn bl ta∧Kn bl tb:=⟨fun h=>⟨⟨HPF.out.2.2.2.1,(a8.1 h.2).1⟩,⟨HPF.out.2.2.2.2,(a8.1 h.2).2⟩⟩,fun h=>⟨dw (Or.inr rfl) HPF.out.2.2.2.1 HPF.out.2.2.2.2 HPF.out.2.1 HPF.out.2.2.1,a8.2 ⟨h.1.2,h.2.2⟩⟩⟩
  show decide _=_
  exact decide_eq_false fun h=>absurd (e.1 h).1 (of_decide_eq_false HX.out)
 clear hm HR5 HR6 HBS HSA HSB HIA HIB HF1
 have hm:=Mem.start w50
 refine av ?_
 refine ap (T:=fun W=>Mem w50 [] W []) (by kernel_rfl) hm ?_
 intro wc hbw hmw
 replace hm:Mem w50 [] wc []:=hmw
 clear hbw hmw
 refine aT 0 (v:=.slice pv lv cv) rfl (by kernel_rfl) rfl (fun W _=>by go_simp) hm ?_
 go_simp
 refine aT 1 (v:=.agg (tcs ta (.slice pa ma ca)).toArray) rfl (by kernel_rfl) rfl (fun W hW=>ak 0 (tcs ta (.slice pa ma ca)) (H5X.out.below' hW.below) rfl _ Tryz.underlying24 rfl 3 ag (Nat.le_refl _) rfl) hm ?_
 go_simp
 refine aT 3 (v:=.slice pv lv cv) rfl (by kernel_rfl) rfl (fun W _=>by go_simp) hm ?_
 go_simp
 refine aT 4 (v:=.agg (tcs tb (.slice pb mb cb)).toArray) rfl (by kernel_rfl) rfl (fun W hW=>ak 0 (tcs tb (.slice pb mb cb)) (H6X.out.below' hW.below) rfl _ Tryz.underlying24 rfl 3 ag (Nat.le_refl _) rfl) hm ?_
 go_simp
 refine aO 2 (by kernel_rfl) rfl rfl ?_
 intro K hK
 go_wp2_with (go_at_call 7;refine (aU HX.out (HBSX.out.below hm.below) (HSAX.out.below hm.below) (bA (bz HPF.out.1 (Nat.le_trans HPF.out.2.1 (by omega)))) (Nat.le_trans HPF.out.1.1 (by omega))).mono ?_;rintro e w52 ⟨he,hb⟩;subst he;replace hm:=hm.call hb;clear hb)
 refine hK _ _ hm ?_
 clear hK K
 go_simp
 refine aO 5 (by kernel_rfl) rfl rfl ?_
 intro K hK
 go_wp2_with (go_at_call 7;refine (aU HYK.out (HBSX.out.below hm.below) (HSBX.out.below hm.below) (bA (bz HPF.out.1 (Nat.le_trans HPF.out.2.2.1 (by omega)))) (Nat.le_trans HPF.out.1.1 (by omega))).mono ?_;rintro e w55 ⟨he,hb⟩;subst he;replace hm:=hm.call hb;clear hb)
 refine hK _ _ hm ?_
 clear hK K
 go_simp
 refine aT 6 (v:=.bool false) rfl (by kernel_rfl) rfl (fun W _=>by go_simp) hm ?_
 go_simp
 refine aT 7 (v:=.bool false) rfl (by kernel_rfl) rfl (fun W _=>by go_simp) hm ?_
 go_simp
 refine wpAnyH_done (by kernel_rfl) ?_ _
 simp only [endsIn]
 have HRP1:Hid (Row w50 g9 (tcs (mkT 4 0 [ta,tb]) (.slice (some ⟨g38,0,none⟩) 2 2)) 24):=HRP.out.1
 have HRS1:Hid (Row w50 g10 (tcs (mkT 3 0 [ta,tb]) (.slice (some ⟨g42,0,none⟩) 2 2)) 24):=HRS.out.1
 have HRF1:Hid (Row w50 g11 (tcs (mkT 5 (n % 100) [ta]) (.slice (some ⟨g48,0,none⟩) 1 1)) 24):=HRF.out.1
 have tn1:Nat:=0
 have tn2:Nat:=0
 have tn3:Nat:=0
 go_wp2_with (first
  | ((with_reducible refine af (some 57) (.load 24 (.tmp 9)) ?_);go_must (refine aa (.agg (tcs (mkT 4 0 [ta,tb]) (.slice (some ⟨g38,0,none⟩) 2 2)).toArray) rfl (ak 0 (tcs (mkT 4 0 [ta,tb]) (.slice (some ⟨g38,0,none⟩) 2 2)) (HRP1.out.below' hm.below) rfl _ Tryz.underlying24 rfl 3 ag (Nat.le_refl _) rfl) ?_))
  | (clear tn1;go_at_call 7;refine (aU HKP.out (HBSX.out.below hm.below) (HRP.out.2.below hm.below) (bA (bz HPF.out.1 (cnt_m2 HPF.out.2.1 HPF.out.2.2.1))) (Nat.le_trans HPF.out.1.1 (by omega))).mono ?_;rintro e w58 ⟨he,hb⟩;subst he;replace hm:=hm.call hb;clear hb))
 go_ret
 exact ⟨rfl,HB1.out.trans ((HBX.out.trans (hm.below.mono HBX.out.size)).mono HB1.out.size)⟩
open Go Go.RowKit Classical
theorem made_walk {F G H:Nat→Prop} (bl:List Tm) (ta tb:Tm) (bv sa sb:Value) (n:Int) (bn:0≤n∧n≤255) (w:World) (hY:Rdy w) (hbs:SlT F w bv bl) (hlen:bl.length≤maxLen) (ha:SlT G w sa ta.l) (hb:SlT H w sb tb.l) :
  Calls Tryz.prog 3 #[bv,.agg (tcs ta sa).toArray,.agg (tcs tb sb).toArray,.int .u8 n] w fun e w'=>e=.returned (.bool true)∧Below w.heap.size w w':=by
 by_cases h:Few bl∧Few [ta,tb]∧isT ta=true∧isT tb=true
 ·obtain ⟨h1,h2,h3,h4⟩:=h
  cases hx:decide (Kn bl ta) with
  | true =>
   cases hy:decide (Kn bl tb) with
   | true=>exact made_tt bl ta tb bv sa sb n bn w hY hbs hlen ha hb h1 h2 h3 h4 hx hy
   | false=>exact made_tf bl ta tb bv sa sb n bn w hY hbs hlen ha hb h1 h2 h3 h4 hx hy
  | false =>
   cases hy:decide (Kn bl tb) with
   | true=>exact made_ft bl ta tb bv sa sb n bn w hY hbs hlen ha hb h1 h2 h3 h4 hx hy
   | false=>exact made_ff bl ta tb bv sa sb n bn w hY hbs hlen ha hb h1 h2 h3 h4 hx hy
 ·exact made_out bl ta tb bv sa sb n w hY hbs hlen ha hb h
end Go.Proofs.YtcibhfcjbokdlabGreatDoor
