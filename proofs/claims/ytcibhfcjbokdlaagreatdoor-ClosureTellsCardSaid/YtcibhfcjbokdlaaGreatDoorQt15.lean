import Derived.Test.YtcibhfcjbokdlaaGreatDoorQt06
set_option maxRecDepth 100000
set_option maxHeartbeats 4000000
namespace Go.Proofs.YtcibhfcjbokdlaaGreatDoor
open Go Go.RowKit
def TermYes (f:Nat):Prop:=∀(g room:Nat) (R:List UInt8) (w:World),R.length≤100000→room≤100→room≤f→Esx w→10≤g→Row w g (rdv R room) 80→∀t R1 r1,rdT f room R=some (t,R1,r1) →
 Calls Tryz.prog 51 #[.pointer (some ⟨g,0,none⟩)] w fun e w'=>∃s,e=.returned (.tuple #[.agg (tcs t s).toArray,.bool true])∧SlT (FN w.heap.size w'.heap.size) w' s t.l∧Row w' g (rdv R1 r1) 80∧Upd g w w'
def TermNo (f:Nat):Prop:=∀(g room:Nat) (R:List UInt8) (w:World),R.length≤100000→room≤100→room≤f→Esx w→10≤g→Row w g (rdv R room) 80→rdT f room R=none →
 Calls Tryz.prog 51 #[.pointer (some ⟨g,0,none⟩)] w fun e w'=>e=.returned (.tuple #[.agg [.int .i64 0,.int .i64 0,.slice none 0 0].toArray,.bool false])∧(∃R1 r1,Row w' g (rdv R1 r1) 80)∧Upd g w w'
/-- What one more kid leaves. -/
theorem pushed {g:Nat} {w wr w5 w6 w9 w10:World} {vb v9 s6:Value} {i:Nat} {cs:List Value} {l':List Tm} {t:Tm} {R2:List UInt8} {r2:Int} (hgl:g<w.heap.size) (hu:Upd g w wr) (ho:wr.ownsRow w.heap.size 24 3 vb i cs) (htc:TC (FF w.heap.size wr vb) wr l' cs) (hu5:Upd g wr w5)
  (hs6:SlT (FN w5.heap.size w6.heap.size) w6 s6 t.l) (h69:Below w6.heap.size w6 w9∧Upd g wr w9) (hg9:w9.grownBy w10 vb.ownBlock) (hl9:v9.ownBlock=vb.ownBlock∨v9.ownBlock=some w9.heap.size) (hr:Row w9 g (rdv R2 r2) 80) :
  TC (FF w.heap.size w10 v9) w10 (l'++[t]) (cs++tcs t s6)∧Row w10 g (rdv R2 r2) 80∧Upd g w w10:=by
 have ho9:=eF ho h69.2 hgl
 have k1:TC (FF w.heap.size w9 vb) w9 l' cs:=htc.keeps (ff_upd h69.2 hgl)
 have k2:SlT (FF w.heap.size w9 vb) w9 s6 t.l:=(hs6.below h69.1).weak (ff_of ho (Nat.le_trans hu.size hu5.size) hu5.size h69.1.size)
 have k3:=(k1.snoc ((bH t s6).2 k2)).keeps (ff_push hg9 hl9)
 exact ⟨k3,row_grown hr hgl ho9 hg9,upd_grown (hu.trans h69.2) (Nat.le_refl _) ho9 hg9⟩
theorem ej {f:Nat} (HT:TermYes f) (n:Nat) (hn:n≤100) (g room:Nat) (R:List UInt8) (w:World) (hRl:R.length≤100000) (hrm:room≤100) (hrf:room≤f) (hE:Esx w) (hg:10≤g) (hr:Row w g (rdv R room) 80) (l:List Tm) (R1:List UInt8) (r1:Nat) (hk:rdK (rdT f) n 40 R room=some (l,R1,r1)) :
  Calls Tryz.prog 63 #[.pointer (some ⟨g,0,none⟩),.int .i64 (n:Int)] w fun e w'=>∃v,e=.returned (.tuple #[v,.bool (Lib.hasPrefix R1 [41])])∧SlT (FN w.heap.size w'.heap.size) w' v l∧Row w' g (rdv (Lib.trimPrefix R1 [41]) r1) 80∧Upd g w w':=by
 have HTY:Hid (TermYes f):=HT
 have HES:Hid (Esx w):=hE
 have HGL:Hid (g<w.heap.size):=hr.lt
 have HR0:Hid (Row w g (rdv R room) 80):=hr
 have HRD:Hid (∀_:Unit,rdK (rdT f) n 40 R room=some (l,R1,r1)):=fun _=>hk
 clear hE hr hk HT
 go_enter Tryz.func63,Tryz.ntmps63
 go_wp2_with (first
  | ((with_reducible refine af (some 11) (.makeSlice 22 (.const (.int .i64 0)) (.tmp 10)) ?_);go_must (refine wpl_makeT rfl n rfl rfl hn (Nat.le_refl w.heap.size) ?_);intro w1 g1 ho1 hb1))
 have HU1:Hid (Upd g w w1):=Upd.of_below hb1
 have HO1:Hid (w1.ownsRow w.heap.size 24 3 (.slice (some ⟨g1,0,none⟩) 0 n) 0 []):=ho1
 have HR1:Hid (Row w1 g (rdv R room) 80):=HR0.out.below' hb1
 clear ho1 hb1
 go_loopw [13,6,7] (fun vi vm vk wr=>∃(i r':Nat) (R':List UInt8) (l' l2:List Tm) (cs:List Value) (vb:Value),i≤n∧vi=.int .i64 (i:Int)∧vm=.string (mkS [mkn i])∧vb=vk∧Hid (wr.ownsRow w.heap.size 24 3 vb i cs)∧Hid (TC (FF w.heap.size wr vb) wr l' cs)∧l'.length=i∧Hid (Row wr g (rdv R' r') 80)∧Hid (Upd g w wr)∧R'.length≤R.length∧r'≤room∧Hid (∀_:Unit,l=l'++l2∧rdK (rdT f) (n - i) (mkn i) R' r'=some (l2,R1,r1))) (fun vi _ _ _=>n - (intOf vi).toNat)
 case atStart=>exact ⟨0,room,R,[],l,[],_,by omega,rfl,rfl,rfl,HO1.out,rfl,rfl,HR1.out,HU1.out,Nat.le_refl _,Nat.le_refl _,fun _=>⟨rfl,HRD.out ()⟩⟩
 case round =>
  clear HO1 HR1 HU1
  obtain ⟨i,r',R',l',l2,cs,vb,hi,rfl,rfl,hvb,HO,HTC,HLI,HRW,HU,hRle,hrle,HQ0⟩:=hrel
  subst hvb
  by_cases hlt:i<n
  ·have hki:(i:Int)<(n:Int):=by omega
   have hi3:i≤100000:=by omega
   obtain ⟨j,hj⟩:∃j,n - i=j+1:=⟨n - i - 1,by omega⟩
   have hq:=(HQ0.out ()).2
   rw [hj,rdK] at hq
   have hm:=Mem.enter HRW.out
   have HR1l:Hid (R'.length≤100000):=by show _≤_;omega
   have HMK:Hid (∀_:Unit,mkn (i+1)=44∧n - (i+1)=j):=fun _=>⟨if_neg (by omega),by omega⟩
   have HLI1:Hid (∀_:Unit,(l'.length=i)):=fun _=>HLI
   split at hq
   ·rename_i hp
    split at hq
    ·cases hq
    ·rename_i t R2 r2 h3
     split at hq
     ·cases hq
     ·rename_i l3 R4 r4 h4
      simp only [Option.some.injEq,Prod.mk.injEq] at hq
      obtain ⟨hq1,hq2,hq3⟩:=hq
      have HNX:Hid (∀_:Unit,l=(l'++[t])++l3∧rdK (rdT f) j 44 R2 r2=some (l3,R1,r1)):=fun _=>⟨by rw [(HQ0.out ()).1,←hq1];simp,by rw [h4,hq2,hq3]⟩
      clear hq1 hq2 hq3 h4 HLI hj
      have HSK:Hid (∀W,Row W g (rdv R' (r':Int)) 80→Calls Tryz.prog 77 #[.pointer (some ⟨g,0,none⟩),.string (mkS [mkn i])] W fun e w'=>e=.returned (.bool true)∧Row w' g (rdv (R'.drop 1) (r':Int)) 80∧Upd g W w'):=fun W hW=>dq hp r' g W hW
      have hdl:(R'.drop 1).length≤R'.length:=by rw [List.length_drop];omega
      have hle:=rdT_le h3
      have HTM:Hid (∀W,Upd g wr W→Row W g (rdv (R'.drop 1) r') 80→Calls Tryz.prog 51 #[.pointer (some ⟨g,0,none⟩)] W fun e w'=>∃s,e=.returned (.tuple #[.agg (tcs t s).toArray,.bool true])∧SlT (FN W.heap.size w'.heap.size) w' s t.l∧Row w' g (rdv R2 r2) 80∧Upd g W w'):=fun W hW hr=>HTY.out g r' (R'.drop 1) W (by have:=HR1l.out;omega) (by omega) (by omega) ((HES.out.upd HU.out hg).upd hW hg) hg hr t R2 r2 h3
      have HLE:Hid (∀_:Unit,R2.length≤R.length∧r2≤room):=fun _=>by omega
      clear hp h3 hdl hle
      go_wp2_with (first
       | (go_at_call 77;go_must (refine (HSK.out _ (hm.get 0 rfl)).mono ?_);rintro e w5 ⟨he,hr,hu⟩;subst he;replace hm:=hm.upd 0 rfl hu hr;have HU5:Hid (Upd g wr w5):=hm.toUpd;clear hr hu)
       | (go_at_call 51;go_must (refine (HTM.out _ hm.toUpd (hm.get 0 rfl)).mono ?_);rintro e w6 ⟨s6,he,hs6,hr,hu⟩;subst he;have HS6:Hid (SlT (FN w5.heap.size w6.heap.size) w6 s6 t.l):=hs6;obtain ⟨p6,c6,hv6,_⟩:=hs6.len;subst hv6;replace hm:=hm.upd 0 rfl hu hr;have HU6:Hid (Upd g wr w6):=hm.toUpd;have HR6:Hid (Row w6 g (rdv R2 r2) 80):=hm.get 0 rfl;clear hm;have hm:=Mem.start w6;have HZ6:Hid (w5.heap.size≤w6.heap.size):=hu.size;clear hr hu hs6)
       | ((with_reducible refine af (some 8) (.alloc 24) ?_);go_must (refine ap _ ax hm ?_);clear hm;intro w7 g7 hm)
       | ((with_reducible refine af none (.store 24 (.tmp 8) (.tmp 22)) ?_);go_must (refine au 0 (tcs t (.slice p6 t.l.length c6)) hm rfl rfl rfl 3 aj rfl rfl (aY _ _ _ _) ?_);clear hm;intro w8 hm)
       | ((with_reducible refine af (some 27) (.load 24 (.tmp 8)) ?_);go_must (refine aE 0 hm rfl rfl _ Tryz.underlying24 rfl 3 aj rfl ?_))
       | ((with_reducible refine af (some 28) (.buildSlice 22 1 #[(0,.tmp 27)]) ?_);go_must (refine wpl_bslT t (.slice p6 t.l.length c6) rfl rfl hm ?_);clear hm;intro w9 g9 hb9 hm;clear hb9)
       | ((with_reducible refine af (some 29) (.call {callee:=.builtin .append,args:=#[.tmp 26,.tmp 28],argTypes:=#[22,22]}) ?_);go_must (refine bP (.agg [.int .i64 0,.int .i64 0,.slice none 0 0].toArray) 3 40 rfl aZ bI rfl (by omega) (by omega) (eF HO.out (HU6.out.trans (Upd.of_below hm.below)) HGL.out) (Nat.le_trans HU.out.size (Nat.le_trans HU6.out.size hm.size)) rfl rfl (hm.get 0 rfl) rfl (aY _ _ _ _) hi3 ?_);intro v9 w10 ho9 hg9 hl9;have HX9:Hid (w10.ownsRow w.heap.size 24 3 v9 (i+1) (cs++tcs t (.slice p6 t.l.length c6))):=ho9;have HQ:Hid (TC (FF w.heap.size w10 v9) w10 (l'++[t]) (cs++tcs t (.slice p6 t.l.length c6))∧Row w10 g (rdv R2 r2) 80∧Upd g w w10):=pushed HGL.out HU.out HO.out HTC.out HU5.out HS6.out ⟨hm.below,HU6.out.trans (Upd.of_below hm.below)⟩ hg9 hl9 (HR6.out.below' hm.below);clear ho9 hg9 hl9 hm))
      go_roundw
      case rel=>exact ⟨i+1,r2,R2,l'++[t],l3,cs++tcs t (.slice p6 t.l.length c6),_,by omega,by go_num,by rw [(HMK.out ()).1];rfl,rfl,HX9.out,HQ.out.1,by rw [List.length_append,HLI1.out ()];rfl,HQ.out.2.1,HQ.out.2.2,(HLE.out ()).1,(HLE.out ()).2,fun _=>by rw [(HMK.out ()).1,(HMK.out ()).2];exact HNX.out ()⟩
      case measure=>simp [intOf];omega
   ·cases hq
  ·have hin:n=i:=by omega
   subst hin
   have hki:¬(n:Int)<(n:Int):=by omega
   have hq:=HQ0.out ()
   rw [Nat.sub_self,rdK] at hq
   obtain ⟨hl,hq⟩:=hq
   simp only [Option.some.injEq,Prod.mk.injEq] at hq
   obtain ⟨rfl,rfl,rfl⟩:=hq
   rw [List.append_nil] at hl
   subst hl
   have HLN:Hid (∀_:Unit,l.length=n):=fun _=>HLI
   obtain ⟨b,hb⟩:∃b,b=Lib.hasPrefix R' [41]:=⟨_,rfl⟩
   have HSK:Hid (∀W,Row W g (rdv R' (r':Int)) 80→Calls Tryz.prog 77 #[.pointer (some ⟨g,0,none⟩),.string (mkS [41])] W fun e w'=>e=.returned (.bool b)∧Row w' g (rdv (Lib.trimPrefix R' [41]) (r':Int)) 80∧Upd g W w'):=fun W hW=>by rw [hb];exact eT R' [41] r' g W hW
   have HBB:Hid (∀_:Unit,Lib.hasPrefix R' [41]=b):=fun _=>hb.symm
   have hm:=Mem.enter HRW.out
   clear hb HLI HQ0
   go_wp2_with (first
    | (go_at_call 77;go_must (refine (HSK.out _ (hm.get 0 rfl)).mono ?_);rintro e w5 ⟨he,hr,hu⟩;subst he;replace hm:=hm.upd 0 rfl hu hr;clear hr hu))
   go_ret2
   refine ⟨_,by rw [HBB.out ()];rfl,?_,hm.get 0 rfl,HU.out.trans hm.toUpd⟩
   exact SlT.of_own (eF HO.out hm.toUpd HGL.out) (HLN.out ()) (HTC.out.keeps (ff_upd hm.toUpd HGL.out)) (fun b hb=>⟨hb.1,hb.2.1⟩) (fun b h1 h2=>⟨h1,h2⟩)
theorem kids_none {f:Nat} (HT:TermYes f) (HN:TermNo f) (n:Nat) (hn:n≤100) (g room:Nat) (R:List UInt8) (w:World) (hRl:R.length≤100000) (hrm:room≤100) (hrf:room≤f) (hE:Esx w) (hg:10≤g) (hr:Row w g (rdv R room) 80) (hk:rdK (rdT f) n 40 R room=none) :
  Calls Tryz.prog 63 #[.pointer (some ⟨g,0,none⟩),.int .i64 (n:Int)] w fun e w'=>∃p m c,e=.returned (.tuple #[.slice p m c,.bool false])∧(∃R1 r1,Row w' g (rdv R1 r1) 80)∧Upd g w w':=by
 have HTY:Hid (TermYes f):=HT
 have HES:Hid (Esx w):=hE
 have HGL:Hid (g<w.heap.size):=hr.lt
 have HR0:Hid (Row w g (rdv R room) 80):=hr
 have HRD:Hid (∀_:Unit,rdK (rdT f) n 40 R room=none):=fun _=>hk
 clear hE hr hk HT
 have HTN:Hid (TermNo f):=HN
 clear HN
 go_enter Tryz.func63,Tryz.ntmps63
 go_wp2_with (first
  | ((with_reducible refine af (some 11) (.makeSlice 22 (.const (.int .i64 0)) (.tmp 10)) ?_);go_must (refine wpl_makeT rfl n rfl rfl hn (Nat.le_refl w.heap.size) ?_);intro w1 g1 ho1 hb1))
 have HU1:Hid (Upd g w w1):=Upd.of_below hb1
 have HO1:Hid (w1.ownsRow w.heap.size 24 3 (.slice (some ⟨g1,0,none⟩) 0 n) 0 []):=ho1
 have HR1:Hid (Row w1 g (rdv R room) 80):=HR0.out.below' hb1
 clear ho1 hb1
 go_loopw [13,6,7] (fun vi vm vk wr=>∃(i r':Nat) (R':List UInt8) (l':List Tm) (cs:List Value) (vb:Value),i≤n∧vi=.int .i64 (i:Int)∧vm=.string (mkS [mkn i])∧vb=vk∧Hid (wr.ownsRow w.heap.size 24 3 vb i cs)∧Hid (TC (FF w.heap.size wr vb) wr l' cs)∧l'.length=i∧Hid (Row wr g (rdv R' r') 80)∧Hid (Upd g w wr)∧R'.length≤R.length∧r'≤room∧Hid (∀_:Unit,rdK (rdT f) (n - i) (mkn i) R' r'=none)) (fun vi _ _ _=>n - (intOf vi).toNat)
 case atStart=>exact ⟨0,room,R,[],[],_,by omega,rfl,rfl,rfl,HO1.out,rfl,rfl,HR1.out,HU1.out,Nat.le_refl _,Nat.le_refl _,fun _=>HRD.out ()⟩
 case round =>
  clear HO1 HR1 HU1
  obtain ⟨i,r',R',l',cs,vb,hi,rfl,rfl,hvb,HO,HTC,HLI,HRW,HU,hRle,hrle,HQ0⟩:=hrel
  subst hvb
  by_cases hlt:i<n
  ·have hki:(i:Int)<(n:Int):=by omega
   have hi3:i≤100000:=by omega
   obtain ⟨j,hj⟩:∃j,n - i=j+1:=⟨n - i - 1,by omega⟩
   have hq:=HQ0.out ()
   rw [hj,rdK] at hq
   have hm:=Mem.enter HRW.out
   have HR1l:Hid (R'.length≤100000):=by show _≤_;omega
   have HMK:Hid (∀_:Unit,mkn (i+1)=44∧n - (i+1)=j):=fun _=>⟨if_neg (by omega),by omega⟩
   have HLI1:Hid (∀_:Unit,(l'.length=i)):=fun _=>HLI
   split at hq
   ·rename_i hp
    split at hq
    ·rename_i h3
     have HSK:Hid (∀W,Row W g (rdv R' (r':Int)) 80→Calls Tryz.prog 77 #[.pointer (some ⟨g,0,none⟩),.string (mkS [mkn i])] W fun e w'=>e=.returned (.bool true)∧Row w' g (rdv (R'.drop 1) (r':Int)) 80∧Upd g W w'):=fun W hW=>dq hp r' g W hW
     have hdl:(R'.drop 1).length≤R'.length:=by rw [List.length_drop];omega
     have HTM:Hid (∀W,Upd g wr W→Row W g (rdv (R'.drop 1) r') 80→Calls Tryz.prog 51 #[.pointer (some ⟨g,0,none⟩)] W fun e w'=>e=.returned (.tuple #[.agg [.int .i64 0,.int .i64 0,.slice none 0 0].toArray,.bool false])∧(∃R1 r1,Row w' g (rdv R1 r1) 80)∧Upd g W w'):=fun W hW hr=>HTN.out g r' (R'.drop 1) W (by have:=HR1l.out;omega) (by omega) (by omega) ((HES.out.upd HU.out hg).upd hW hg) hg hr h3
     clear hp h3 hdl hq HLI hj
     go_wp2_with (first
      | (go_at_call 77;go_must (refine (HSK.out _ (hm.get 0 rfl)).mono ?_);rintro e w5 ⟨he,hr,hu⟩;subst he;replace hm:=hm.upd 0 rfl hu hr;have HU5:Hid (Upd g wr w5):=hm.toUpd;clear hr hu)
      | (go_at_call 51;go_must (refine (HTM.out _ hm.toUpd (hm.get 0 rfl)).mono ?_);rintro e w6 ⟨he,⟨R9,r9,hr⟩,hu⟩;subst he;replace hm:=hm.upd 0 rfl hu hr;clear hr hu)
      | ((with_reducible refine af (some 8) (.alloc 24) ?_);go_must (refine ap _ ax hm ?_);clear hm;intro w7 g7 hm)
      | ((with_reducible refine af none (.store 24 (.tmp 8) (.tmp 22)) ?_);go_must (refine au 0 ([.int .i64 0,.int .i64 0,.slice none 0 0]) hm rfl rfl rfl 3 aj rfl rfl ((by intro v hv;simp only [List.mem_cons,List.not_mem_nil,or_false] at hv;rcases hv with rfl|rfl|rfl<;>rfl)) ?_);clear hm;intro w8 hm))
     go_ret2
     exact ⟨_,_,_,rfl,⟨_,_,hm.get 1 rfl⟩,HU.out.trans hm.toUpd⟩
    ·rename_i t R2 r2 h3
     split at hq
     ·rename_i h4
      have HNX:Hid (∀_:Unit,rdK (rdT f) j 44 R2 r2=none):=fun _=>h4
      clear hq h4 HLI hj
      have HSK:Hid (∀W,Row W g (rdv R' (r':Int)) 80→Calls Tryz.prog 77 #[.pointer (some ⟨g,0,none⟩),.string (mkS [mkn i])] W fun e w'=>e=.returned (.bool true)∧Row w' g (rdv (R'.drop 1) (r':Int)) 80∧Upd g W w'):=fun W hW=>dq hp r' g W hW
      have hdl:(R'.drop 1).length≤R'.length:=by rw [List.length_drop];omega
      have hle:=rdT_le h3
      have HTM:Hid (∀W,Upd g wr W→Row W g (rdv (R'.drop 1) r') 80→Calls Tryz.prog 51 #[.pointer (some ⟨g,0,none⟩)] W fun e w'=>∃s,e=.returned (.tuple #[.agg (tcs t s).toArray,.bool true])∧SlT (FN W.heap.size w'.heap.size) w' s t.l∧Row w' g (rdv R2 r2) 80∧Upd g W w'):=fun W hW hr=>HTY.out g r' (R'.drop 1) W (by have:=HR1l.out;omega) (by omega) (by omega) ((HES.out.upd HU.out hg).upd hW hg) hg hr t R2 r2 h3
      have HLE:Hid (∀_:Unit,R2.length≤R.length∧r2≤room):=fun _=>by omega
      clear hp h3 hdl hle
      go_wp2_with (first
       | (go_at_call 77;go_must (refine (HSK.out _ (hm.get 0 rfl)).mono ?_);rintro e w5 ⟨he,hr,hu⟩;subst he;replace hm:=hm.upd 0 rfl hu hr;have HU5:Hid (Upd g wr w5):=hm.toUpd;clear hr hu)
       | (go_at_call 51;go_must (refine (HTM.out _ hm.toUpd (hm.get 0 rfl)).mono ?_);rintro e w6 ⟨s6,he,hs6,hr,hu⟩;subst he;have HS6:Hid (SlT (FN w5.heap.size w6.heap.size) w6 s6 t.l):=hs6;obtain ⟨p6,c6,hv6,_⟩:=hs6.len;subst hv6;replace hm:=hm.upd 0 rfl hu hr;have HU6:Hid (Upd g wr w6):=hm.toUpd;have HR6:Hid (Row w6 g (rdv R2 r2) 80):=hm.get 0 rfl;clear hm;have hm:=Mem.start w6;have HZ6:Hid (w5.heap.size≤w6.heap.size):=hu.size;clear hr hu hs6)
       | ((with_reducible refine af (some 8) (.alloc 24) ?_);go_must (refine ap _ ax hm ?_);clear hm;intro w7 g7 hm)
       | ((with_reducible refine af none (.store 24 (.tmp 8) (.tmp 22)) ?_);go_must (refine au 0 (tcs t (.slice p6 t.l.length c6)) hm rfl rfl rfl 3 aj rfl rfl (aY _ _ _ _) ?_);clear hm;intro w8 hm)
       | ((with_reducible refine af (some 27) (.load 24 (.tmp 8)) ?_);go_must (refine aE 0 hm rfl rfl _ Tryz.underlying24 rfl 3 aj rfl ?_))
       | ((with_reducible refine af (some 28) (.buildSlice 22 1 #[(0,.tmp 27)]) ?_);go_must (refine wpl_bslT t (.slice p6 t.l.length c6) rfl rfl hm ?_);clear hm;intro w9 g9 hb9 hm;clear hb9)
       | ((with_reducible refine af (some 29) (.call {callee:=.builtin .append,args:=#[.tmp 26,.tmp 28],argTypes:=#[22,22]}) ?_);go_must (refine bP (.agg [.int .i64 0,.int .i64 0,.slice none 0 0].toArray) 3 40 rfl aZ bI rfl (by omega) (by omega) (eF HO.out (HU6.out.trans (Upd.of_below hm.below)) HGL.out) (Nat.le_trans HU.out.size (Nat.le_trans HU6.out.size hm.size)) rfl rfl (hm.get 0 rfl) rfl (aY _ _ _ _) hi3 ?_);intro v9 w10 ho9 hg9 hl9;have HX9:Hid (w10.ownsRow w.heap.size 24 3 v9 (i+1) (cs++tcs t (.slice p6 t.l.length c6))):=ho9;have HQ:Hid (TC (FF w.heap.size w10 v9) w10 (l'++[t]) (cs++tcs t (.slice p6 t.l.length c6))∧Row w10 g (rdv R2 r2) 80∧Upd g w w10):=pushed HGL.out HU.out HO.out HTC.out HU5.out HS6.out ⟨hm.below,HU6.out.trans (Upd.of_below hm.below)⟩ hg9 hl9 (HR6.out.below' hm.below);clear ho9 hg9 hl9 hm))
      go_roundw
      case rel=>exact ⟨i+1,r2,R2,l'++[t],cs++tcs t (.slice p6 t.l.length c6),_,by omega,by go_num,by rw [(HMK.out ()).1];rfl,rfl,HX9.out,HQ.out.1,by rw [List.length_append,HLI1.out ()];rfl,HQ.out.2.1,HQ.out.2.2,(HLE.out ()).1,(HLE.out ()).2,fun _=>by rw [(HMK.out ()).1,(HMK.out ()).2];exact HNX.out ()⟩
      case measure=>simp [intOf];omega
     ·cases hq
   ·rename_i hp
    have hp2:Lib.hasPrefix R' [mkn i]=false:=by simpa using hp
    have HSK:Hid (∀W,Row W g (rdv R' (r':Int)) 80→Calls Tryz.prog 77 #[.pointer (some ⟨g,0,none⟩),.string (mkS [mkn i])] W fun e w'=>e=.returned (.bool false)∧Row w' g (rdv R' (r':Int)) 80∧Upd g W w'):=fun W hW=>skip_no hp2 r' g W hW
    clear hp hp2 hq HLI hj
    go_wp2_with (first
     | (go_at_call 77;go_must (refine (HSK.out _ (hm.get 0 rfl)).mono ?_);rintro e w5 ⟨he,hr,hu⟩;subst he;replace hm:=hm.upd 0 rfl hu hr;have HU5:Hid (Upd g wr w5):=hm.toUpd;clear hr hu))
    go_ret2
    exact ⟨_,_,_,rfl,⟨_,_,hm.get 0 rfl⟩,HU.out.trans hm.toUpd⟩
  ·have hin:n=i:=by omega
   subst hin
   have hq:=HQ0.out ()
   rw [Nat.sub_self,rdK] at hq
   cases hq
end Go.Proofs.YtcibhfcjbokdlaaGreatDoor
