import Derived.Test.YtdmohffogfbnbaaGreatDoorQp08
set_option maxRecDepth 100000
set_option maxHeartbeats 4000000
namespace Go.Proofs.YtdmohffogfbnbaaGreatDoor
open Go Go.RowKit Go.Maps
theorem bJ (ks:List ByteArray) (b e:Int):Tryz.prog.built 50 [(0,.string (tx ks)),(1,.int .i64 b),(2,.int .i64 e)]=some (spc ks b e).toArray:=by kernel_rfl
theorem add_n {w:World} {nb m c:Nat} {p:Nms} (h:NmAt w nb m c p) (hcc:c≤80000) (s:ByteArray) (hs:s.size≤1000) (hM:MaxL w) (b e:Int) (e0:Int) (he0:e0=addE p s b e) :
  Calls Tryz.prog 15 #[.pointer (some ⟨nb,0,none⟩),.string s,.int .i64 b,.int .i64 e] w fun e_ w'=>e_=.returned (.int .i64 e0)∧NmAt w' nb m (c+1) (if e0=0 then addN p (segsB s,b,e,0,0,0,0) else p)∧Upd m w w':=by
 have hm:=Mem.start w
 have HM:Hid (MaxL w):=hM
 have HR:Hid (NmAt w nb m c p):=h
 have HOK:Hid (NmOk p):=h.ok
 obtain ⟨ks,hks⟩:∃ks,ks=segsB s:=⟨_,rfl⟩
 have hk:PlOk ks:=by rw [hks];exact aR s
 have HKS:Hid (∀_:Unit,PlOk ks):=fun _=>hk
 obtain ⟨b0,hb0⟩:∃x,x=isP (bs s):=⟨_,rfl⟩
 obtain ⟨b1,hb1⟩:∃x,x=hasN p ks:=⟨_,rfl⟩
 obtain ⟨b2,hb2⟩:∃x,x=hasN p ks.dropLast:=⟨_,rfl⟩
 obtain ⟨lm,hlm⟩:∃x,x=limOk b e:=⟨_,rfl⟩
 obtain ⟨y0,hy0⟩:∃y,y=tx ks.dropLast:=⟨_,rfl⟩
 obtain ⟨N,hN⟩:∃n,n=(kidsN p y0).length:=⟨_,rfl⟩
 obtain ⟨hb,hhb⟩:∃x,x=heldI b:=⟨_,rfl⟩
 obtain ⟨he,hhe⟩:∃x,x=heldI e:=⟨_,rfl⟩
 have HLM:Hid (∀_:Unit,lm=(decide (tx ks=tx ks)&&(decide (b=hb)&&decide (e=he)))):=fun _=>by rw [hhb,hhe,limOk_held,hlm];simp
 have HHD:Hid (∀W,Calls Tryz.prog 27 #[.agg (spc ks b e).toArray] W fun e_ w'=>e_=.returned (.agg (spc ks hb he).toArray)∧Below W.heap.size W w'):=fun W=>by rw [hhb,hhe];exact held_n ks b e W
 have HPL:Hid (∀W,MaxL W→Calls Tryz.prog 34 #[.string s] W fun e w'=>e=.returned (.tuple #[.agg (pvv ks).toArray,.bool b0])∧Below W.heap.size W w'):=fun W hW=>by rw [hks,hb0];exact du s W hs hW
 have HH1:Hid (∀W,Below w.heap.size w W→Calls Tryz.prog 36 #[.pointer (some ⟨nb,0,none⟩),.agg (pvv ks).toArray] W fun e w'=>e=.returned (.bool b1)∧Below W.heap.size W w'):=fun W hW=>has_n hk b1 hb1 W (HR.out.below hW)
 have HH2:Hid (∀W,Below w.heap.size w W→Calls Tryz.prog 36 #[.pointer (some ⟨nb,0,none⟩),.agg (pvv ks.dropLast).toArray] W fun e w'=>e=.returned (.bool b2)∧Below W.heap.size W w'):=fun W hW=>has_n hk.drop b2 hb2 W (HR.out.below hW)
 have HY0:Hid ((pvv ks)[0]?=some (.string y0)):=by rw [hy0];rfl
 have HKD:Hid (∀W,Below w.heap.size w W→Calls Tryz.prog 38 #[.pointer (some ⟨nb,0,none⟩),.string y0] W fun e w'=>∃p9 cap9,e=.returned (.slice p9 N cap9)∧Below W.heap.size W w'):=fun W hW=>by
  refine (kids_n (HR.out.below hW) (by omega) y0).mono ?_
  rintro e w' ⟨v,rfl,⟨p9,cap9,hv,_⟩,hb⟩
  exact ⟨p9,cap9,by rw [hv,hN],hb⟩
 have HE0:Hid (∀_:Unit,e0=if b0=false then 110 else if ks=[] then 110 else if lm=false then 12 else if b1=true then 101 else if b2=false then 100 else if 2≤N then 102 else 0):=fun _=>by
  rw [he0,hb0,hb1,hb2,hlm,hN,hy0,hks];rfl
 have HHN:Hid (∀_:Unit,b1=false→hasN p ks=false):=fun _ h=>by rw [←hb1];exact h
 rw [←hks]
 clear h hs hM hks hk hb0 hb1 hb2 hlm hy0 hN hhb hhe he0
 cases b0 with
 | false =>
  have e1:e0=110:=by rw [HE0.out ()];rfl
  subst e1
  rw [if_neg (by omega)]
  clear HE0
  go_enter Tryz.func15,Tryz.ntmps15
  go_wp2_with (first
   | (go_at_call 34;refine (HPL.out _ (HM.out.below hm.below)).mono ?_;rintro e w' ⟨he,hb⟩;subst he;replace hm:=hm.call hb;clear hb)
   | ((with_reducible refine ab (some 9) (.alloc 63) ?_);refine ae _ aL hm ?_;clear hm;intro w1 g9 hm)
   | ((with_reducible refine ab none (.store 63 (.tmp 9) (.tmp 15)) ?_);refine af 0 (pvv ks) hm rfl rfl rfl 2 au rfl rfl (aI _) ?_;clear hm;intro w2 hm)
   | ((with_reducible refine ab (some 17) (.load 63 (.tmp 9)) ?_);refine av 0 hm rfl rfl _ aH rfl 2 au (by rfl) ?_)
   | (go_at_call 35;refine (bY (HKS.out ()) _ (HM.out.below hm.below)).mono ?_;rintro e w' ⟨he,hb⟩;subst he;replace hm:=hm.call hb;clear hb)
   | ((with_reducible refine ab (some 21) (.build 50 #[(0,.tmp 18),(1,.tmp 19),(2,.tmp 20)]) ?_);refine az (spc ks b e) [(0,.string (tx ks)),(1,.int .i64 b),(2,.int .i64 e)] rfl (bJ ks b e) ?_)
   | ((with_reducible refine ab (some 11) (.alloc 50) ?_);refine ae _ aS hm ?_;clear hm;intro w3 g11 hm)
   | ((with_reducible refine ab none (.store 50 (.tmp 11) (.tmp 21)) ?_);refine af 0 (spc ks b e) hm rfl rfl rfl 5 ao rfl rfl (bl _ _ _) ?_;clear hm;intro w4 hm))
  refine am ?_
  refine ag (T:=fun W=>Mem w [] W [(g11,spc ks b e,50),(g9,pvv ks,63)]) (by kernel_rfl) hm ?_
  intro wc hbw hmw
  clear hm
  have hm:=hmw
  clear hbw hmw
  refine aT 0 (v:=.bool false) rfl (by kernel_rfl) rfl (fun W _=>by go_simp) hm ?_
  go_simp
  refine aT 1 (v:=.bool true) rfl (by kernel_rfl) rfl (fun W _=>by go_simp) hm ?_
  go_simp
  refine aT 2 (v:=.bool true) rfl (by kernel_rfl) rfl (fun W _=>by go_simp) hm ?_
  go_simp
  refine aJ 3 rfl (by kernel_rfl) (by kernel_rfl) (by kernel_rfl) rfl hm ?_
  go_simp
  refine aJ 4 rfl (by kernel_rfl) (by kernel_rfl) (by kernel_rfl) rfl hm ?_
  go_simp
  refine aJ 5 rfl (by kernel_rfl) (by kernel_rfl) (by kernel_rfl) rfl hm ?_
  go_simp
  refine aT 6 (v:=.bool true) rfl (by kernel_rfl) rfl (fun W _=>by go_simp) hm ?_
  go_simp
  refine aT 7 (v:=.bool true) rfl (by kernel_rfl) rfl (fun W _=>by go_simp) hm ?_
  go_simp
  refine wpAnyH_done (by kernel_rfl) ?_ _
  simp only [endsIn]
  go_wp2_with fail
  go_ret
  exact ⟨rfl,(HR.out.below hm.below).mono (Nat.le_succ _),Upd.of_below hm.below⟩
 | true =>
  by_cases hr:ks=[]
  ·have HRT:Hid (∀_:Unit,true=decide (ks=[])):=fun _=>by rw [decide_eq_true hr]
   have e1:e0=110:=by rw [HE0.out (),if_neg (by simp),if_pos hr]
   subst e1
   rw [if_neg (by omega)]
   clear HE0 hr
   go_enter Tryz.func15,Tryz.ntmps15
   go_wp2_with (first
    | (go_at_call 34;refine (HPL.out _ (HM.out.below hm.below)).mono ?_;rintro e w' ⟨he,hb⟩;subst he;replace hm:=hm.call hb;clear hb)
    | ((with_reducible refine ab (some 9) (.alloc 63) ?_);refine ae _ aL hm ?_;clear hm;intro w1 g9 hm)
    | ((with_reducible refine ab none (.store 63 (.tmp 9) (.tmp 15)) ?_);refine af 0 (pvv ks) hm rfl rfl rfl 2 au rfl rfl (aI _) ?_;clear hm;intro w2 hm)
    | ((with_reducible refine ab (some 17) (.load 63 (.tmp 9)) ?_);refine av 0 hm rfl rfl _ aH rfl 2 au (by rfl) ?_)
    | (go_at_call 35;refine (bY (HKS.out ()) _ (HM.out.below hm.below)).mono ?_;rintro e w' ⟨he,hb⟩;subst he;replace hm:=hm.call hb;clear hb)
    | ((with_reducible refine ab (some 21) (.build 50 #[(0,.tmp 18),(1,.tmp 19),(2,.tmp 20)]) ?_);refine az (spc ks b e) [(0,.string (tx ks)),(1,.int .i64 b),(2,.int .i64 e)] rfl (bJ ks b e) ?_)
    | ((with_reducible refine ab (some 11) (.alloc 50) ?_);refine ae _ aS hm ?_;clear hm;intro w3 g11 hm)
    | ((with_reducible refine ab none (.store 50 (.tmp 11) (.tmp 21)) ?_);refine af 0 (spc ks b e) hm rfl rfl rfl 5 ao rfl rfl (bl _ _ _) ?_;clear hm;intro w4 hm))
   refine am ?_
   refine ag (T:=fun W=>Mem w [] W [(g11,spc ks b e,50),(g9,pvv ks,63)]) (by kernel_rfl) hm ?_
   intro wc hbw hmw
   clear hm
   have hm:=hmw
   clear hbw hmw
   refine aT 0 (v:=.bool true) rfl (by kernel_rfl) rfl (fun W _=>by go_simp) hm ?_
   go_simp
   refine aT 1 (v:=.bool false) rfl (by kernel_rfl) rfl (fun W _=>by go_simp) hm ?_
   go_simp
   refine aT 2 (v:=.bool false) rfl (by kernel_rfl) rfl (fun W _=>by go_simp) hm ?_
   go_simp
   refine aG 3 (v:=.agg (pvv ks).toArray) rfl (by kernel_rfl) rfl (fun W hW=>al 0 (pvv ks) (Mem.get hW 1 rfl) rfl _ aH rfl 2 au (Nat.le_refl 2) rfl) hm ?_
   go_simp
   refine aO 4 (by kernel_rfl) rfl rfl ?_
   intro K hK
   go_wp2_with (go_at_call 28;refine (bG _).mono ?_;rintro e w' ⟨he,hb⟩;subst he;replace hm:=hm.call hb;clear hb)
   refine hK _ _ hm ?_
   clear hK K
   go_simp
   refine aG 5 (v:=.bool true) rfl (by kernel_rfl) rfl (fun W _=>bN (HKS.out ()) PlOk.nil true (HRT.out ()) rfl rfl) hm ?_
   go_simp
   refine aT 6 (v:=.bool true) rfl (by kernel_rfl) rfl (fun W _=>by go_simp) hm ?_
   go_simp
   refine aT 7 (v:=.bool true) rfl (by kernel_rfl) rfl (fun W _=>by go_simp) hm ?_
   go_simp
   refine wpAnyH_done (by kernel_rfl) ?_ _
   simp only [endsIn]
   go_wp2_with fail
   go_ret
   exact ⟨rfl,(HR.out.below hm.below).mono (Nat.le_succ _),Upd.of_below hm.below⟩
  ·have HRT:Hid (∀_:Unit,false=decide (ks=[])):=fun _=>by rw [decide_eq_false hr]
   have HE1:Hid (∀_:Unit,e0=if lm=false then 12 else if b1=true then 101 else if b2=false then 100 else if 2≤N then 102 else 0):=fun _=>by rw [HE0.out (),if_neg (by simp),if_neg hr]
   clear HE0 hr
   cases lm with
   | false =>
    have e1:e0=12:=by rw [HE1.out ()];rfl
    subst e1
    rw [if_neg (by omega)]
    clear HE1
    go_enter Tryz.func15,Tryz.ntmps15
    go_wp2_with (first
     | (go_at_call 34;refine (HPL.out _ (HM.out.below hm.below)).mono ?_;rintro e w' ⟨he,hb⟩;subst he;replace hm:=hm.call hb;clear hb)
     | ((with_reducible refine ab (some 9) (.alloc 63) ?_);refine ae _ aL hm ?_;clear hm;intro w1 g9 hm)
     | ((with_reducible refine ab none (.store 63 (.tmp 9) (.tmp 15)) ?_);refine af 0 (pvv ks) hm rfl rfl rfl 2 au rfl rfl (aI _) ?_;clear hm;intro w2 hm)
     | ((with_reducible refine ab (some 17) (.load 63 (.tmp 9)) ?_);refine av 0 hm rfl rfl _ aH rfl 2 au (by rfl) ?_)
     | (go_at_call 35;refine (bY (HKS.out ()) _ (HM.out.below hm.below)).mono ?_;rintro e w' ⟨he,hb⟩;subst he;replace hm:=hm.call hb;clear hb)
     | ((with_reducible refine ab (some 21) (.build 50 #[(0,.tmp 18),(1,.tmp 19),(2,.tmp 20)]) ?_);refine az (spc ks b e) [(0,.string (tx ks)),(1,.int .i64 b),(2,.int .i64 e)] rfl (bJ ks b e) ?_)
     | ((with_reducible refine ab (some 11) (.alloc 50) ?_);refine ae _ aS hm ?_;clear hm;intro w3 g11 hm)
     | ((with_reducible refine ab none (.store 50 (.tmp 11) (.tmp 21)) ?_);refine af 0 (spc ks b e) hm rfl rfl rfl 5 ao rfl rfl (bl _ _ _) ?_;clear hm;intro w4 hm))
    refine am ?_
    refine ag (T:=fun W=>Mem w [] W [(g11,spc ks b e,50),(g9,pvv ks,63)]) (by kernel_rfl) hm ?_
    intro wc hbw hmw
    clear hm
    have hm:=hmw
    clear hbw hmw
    refine aT 0 (v:=.bool true) rfl (by kernel_rfl) rfl (fun W _=>by go_simp) hm ?_
    go_simp
    refine aT 1 (v:=.bool false) rfl (by kernel_rfl) rfl (fun W _=>by go_simp) hm ?_
    go_simp
    refine aT 2 (v:=.bool false) rfl (by kernel_rfl) rfl (fun W _=>by go_simp) hm ?_
    go_simp
    refine aG 3 (v:=.agg (pvv ks).toArray) rfl (by kernel_rfl) rfl (fun W hW=>al 0 (pvv ks) (Mem.get hW 1 rfl) rfl _ aH rfl 2 au (Nat.le_refl 2) rfl) hm ?_
    go_simp
    refine aO 4 (by kernel_rfl) rfl rfl ?_
    intro K hK
    go_wp2_with (go_at_call 28;refine (bG _).mono ?_;rintro e w' ⟨he,hb⟩;subst he;replace hm:=hm.call hb;clear hb)
    refine hK _ _ hm ?_
    clear hK K
    go_simp
    refine aG 5 (v:=.bool false) rfl (by kernel_rfl) rfl (fun W _=>bN (HKS.out ()) PlOk.nil false (HRT.out ()) rfl rfl) hm ?_
    go_simp
    refine aT 6 (v:=.bool false) rfl (by kernel_rfl) rfl (fun W _=>by go_simp) hm ?_
    go_simp
    refine aT 7 (v:=.bool false) rfl (by kernel_rfl) rfl (fun W _=>by go_simp) hm ?_
    go_simp
    refine wpAnyH_done (by kernel_rfl) ?_ _
    simp only [endsIn]
    go_wp2_with fail
    refine am ?_
    refine ag (T:=fun W=>Mem w [] W [(g11,spc ks b e,50),(g9,pvv ks,63)]) (by kernel_rfl) hm ?_
    intro wc hbw hmw
    clear hm
    have hm:=hmw
    clear hbw hmw
    refine aT 0 (v:=.agg (spc ks b e).toArray) rfl (by kernel_rfl) rfl (fun W hW=>al 0 (spc ks b e) (Mem.get hW 0 rfl) rfl _ bf rfl 5 ao (Nat.le_refl 5) rfl) hm ?_
    go_simp
    refine aT 1 (v:=.agg (spc ks b e).toArray) rfl (by kernel_rfl) rfl (fun W hW=>al 0 (spc ks b e) (Mem.get hW 0 rfl) rfl _ bf rfl 5 ao (Nat.le_refl 5) rfl) hm ?_
    go_simp
    refine aO 2 (by kernel_rfl) rfl rfl ?_
    intro K hK
    go_wp2_with (go_at_call 27;refine (HHD.out _).mono ?_;rintro e_ w' ⟨he_,hb_⟩;subst he_;replace hm:=hm.call hb_;clear hb_)
    refine hK _ _ hm ?_
    clear hK K
    go_simp
    refine aT 3 (v:=.bool (!false)) rfl (by kernel_rfl) rfl (fun W _=>cN ks ks b e hb he false (by simpa using HLM.out ()) rfl rfl) hm ?_
    go_simp
    refine aT 4 (v:=.bool (!false)) rfl (by kernel_rfl) rfl (fun W _=>by go_simp) hm ?_
    go_simp
    refine wpAnyH_done (by kernel_rfl) ?_ _
    simp only [endsIn]
    go_wp2_with fail
    go_ret
    exact ⟨rfl,(HR.out.below hm.below).mono (Nat.le_succ _),Upd.of_below hm.below⟩
   | true =>
    have tk2:Nat:=0
    cases b1 with
    | true =>
     have e1:e0=101:=by rw [HE1.out ()];rfl
     subst e1
     rw [if_neg (by omega)]
     clear HE1
     go_enter Tryz.func15,Tryz.ntmps15
     go_wp2_with (first
      | (go_at_call 34;refine (HPL.out _ (HM.out.below hm.below)).mono ?_;rintro e w' ⟨he,hb⟩;subst he;replace hm:=hm.call hb;clear hb)
      | ((with_reducible refine ab (some 9) (.alloc 63) ?_);refine ae _ aL hm ?_;clear hm;intro w1 g9 hm)
      | ((with_reducible refine ab none (.store 63 (.tmp 9) (.tmp 15)) ?_);refine af 0 (pvv ks) hm rfl rfl rfl 2 au rfl rfl (aI _) ?_;clear hm;intro w2 hm)
      | ((with_reducible refine ab (some 17) (.load 63 (.tmp 9)) ?_);refine av 0 hm rfl rfl _ aH rfl 2 au (by rfl) ?_)
      | (go_at_call 35;refine (bY (HKS.out ()) _ (HM.out.below hm.below)).mono ?_;rintro e w' ⟨he,hb⟩;subst he;replace hm:=hm.call hb;clear hb)
      | ((with_reducible refine ab (some 21) (.build 50 #[(0,.tmp 18),(1,.tmp 19),(2,.tmp 20)]) ?_);refine az (spc ks b e) [(0,.string (tx ks)),(1,.int .i64 b),(2,.int .i64 e)] rfl (bJ ks b e) ?_)
      | ((with_reducible refine ab (some 11) (.alloc 50) ?_);refine ae _ aS hm ?_;clear hm;intro w3 g11 hm)
      | ((with_reducible refine ab none (.store 50 (.tmp 11) (.tmp 21)) ?_);refine af 0 (spc ks b e) hm rfl rfl rfl 5 ao rfl rfl (bl _ _ _) ?_;clear hm;intro w4 hm))
     refine am ?_
     refine ag (T:=fun W=>Mem w [] W [(g11,spc ks b e,50),(g9,pvv ks,63)]) (by kernel_rfl) hm ?_
     intro wc hbw hmw
     clear hm
     have hm:=hmw
     clear hbw hmw
     refine aT 0 (v:=.bool true) rfl (by kernel_rfl) rfl (fun W _=>by go_simp) hm ?_
     go_simp
     refine aT 1 (v:=.bool false) rfl (by kernel_rfl) rfl (fun W _=>by go_simp) hm ?_
     go_simp
     refine aT 2 (v:=.bool false) rfl (by kernel_rfl) rfl (fun W _=>by go_simp) hm ?_
     go_simp
     refine aG 3 (v:=.agg (pvv ks).toArray) rfl (by kernel_rfl) rfl (fun W hW=>al 0 (pvv ks) (Mem.get hW 1 rfl) rfl _ aH rfl 2 au (Nat.le_refl 2) rfl) hm ?_
     go_simp
     refine aO 4 (by kernel_rfl) rfl rfl ?_
     intro K hK
     go_wp2_with (go_at_call 28;refine (bG _).mono ?_;rintro e w' ⟨he,hb⟩;subst he;replace hm:=hm.call hb;clear hb)
     refine hK _ _ hm ?_
     clear hK K
     go_simp
     refine aG 5 (v:=.bool false) rfl (by kernel_rfl) rfl (fun W _=>bN (HKS.out ()) PlOk.nil false (HRT.out ()) rfl rfl) hm ?_
     go_simp
     refine aT 6 (v:=.bool false) rfl (by kernel_rfl) rfl (fun W _=>by go_simp) hm ?_
     go_simp
     refine aT 7 (v:=.bool false) rfl (by kernel_rfl) rfl (fun W _=>by go_simp) hm ?_
     go_simp
     refine wpAnyH_done (by kernel_rfl) ?_ _
     simp only [endsIn]
     go_wp2_with fail
     refine am ?_
     refine ag (T:=fun W=>Mem w [] W [(g11,spc ks b e,50),(g9,pvv ks,63)]) (by kernel_rfl) hm ?_
     intro wc hbw hmw
     clear hm
     have hm:=hmw
     clear hbw hmw
     refine aT 0 (v:=.agg (spc ks b e).toArray) rfl (by kernel_rfl) rfl (fun W hW=>al 0 (spc ks b e) (Mem.get hW 0 rfl) rfl _ bf rfl 5 ao (Nat.le_refl 5) rfl) hm ?_
     go_simp
     refine aT 1 (v:=.agg (spc ks b e).toArray) rfl (by kernel_rfl) rfl (fun W hW=>al 0 (spc ks b e) (Mem.get hW 0 rfl) rfl _ bf rfl 5 ao (Nat.le_refl 5) rfl) hm ?_
     go_simp
     refine aO 2 (by kernel_rfl) rfl rfl ?_
     intro K hK
     go_wp2_with (go_at_call 27;refine (HHD.out _).mono ?_;rintro e_ w' ⟨he_,hb_⟩;subst he_;replace hm:=hm.call hb_;clear hb_)
     refine hK _ _ hm ?_
     clear hK K
     go_simp
     refine aT 3 (v:=.bool (!true)) rfl (by kernel_rfl) rfl (fun W _=>cN ks ks b e hb he true (by simpa using HLM.out ()) rfl rfl) hm ?_
     go_simp
     refine aT 4 (v:=.bool (!true)) rfl (by kernel_rfl) rfl (fun W _=>by go_simp) hm ?_
     go_simp
     refine wpAnyH_done (by kernel_rfl) ?_ _
     simp only [endsIn]
     go_wp2_with (first
      | (clear tk2;go_at_call 36;refine (HH1.out _ hm.below).mono ?_;rintro e_ w' ⟨he_,hb_⟩;subst he_;replace hm:=hm.call hb_;clear hb_)
      | ((with_reducible refine ab (some 37) (.load 63 (.tmp 9)) ?_);refine av 1 hm rfl rfl _ aH rfl 2 au (by rfl) ?_)
      | ((with_reducible refine ab (some 41) (.load 63 (.tmp 9)) ?_);refine av 1 hm rfl rfl _ aH rfl 2 au (by rfl) ?_)
      | (go_at_call 37;refine (eP (HKS.out ()) _ (HM.out.below hm.below)).mono ?_;rintro e w' ⟨he,hb⟩;subst he;replace hm:=hm.call hb;clear hb)
      | (go_at_call 36;refine (HH2.out _ hm.below).mono ?_;rintro e_ w' ⟨he_,hb_⟩;subst he_;replace hm:=hm.call hb_;clear hb_)
      | ((with_reducible refine ab (some 48) (.load 9 (.tmp 47)) ?_);refine aw 1 0 (.string y0) hm rfl rfl aj HY0.out ?_)
      | (go_at_call 38;refine (HKD.out _ hm.below).mono ?_;rintro e_ w' ⟨p9,cap9,he_,hb_⟩;subst he_;replace hm:=hm.call hb_;clear hb_))
     go_ret
     exact ⟨rfl,(HR.out.below hm.below).mono (Nat.le_succ _),Upd.of_below hm.below⟩
    | false =>
     cases b2 with
     | false =>
      have e1:e0=100:=by rw [HE1.out ()];rfl
      subst e1
      rw [if_neg (by omega)]
      clear HE1
      go_enter Tryz.func15,Tryz.ntmps15
      go_wp2_with (first
       | (go_at_call 34;refine (HPL.out _ (HM.out.below hm.below)).mono ?_;rintro e w' ⟨he,hb⟩;subst he;replace hm:=hm.call hb;clear hb)
       | ((with_reducible refine ab (some 9) (.alloc 63) ?_);refine ae _ aL hm ?_;clear hm;intro w1 g9 hm)
       | ((with_reducible refine ab none (.store 63 (.tmp 9) (.tmp 15)) ?_);refine af 0 (pvv ks) hm rfl rfl rfl 2 au rfl rfl (aI _) ?_;clear hm;intro w2 hm)
       | ((with_reducible refine ab (some 17) (.load 63 (.tmp 9)) ?_);refine av 0 hm rfl rfl _ aH rfl 2 au (by rfl) ?_)
       | (go_at_call 35;refine (bY (HKS.out ()) _ (HM.out.below hm.below)).mono ?_;rintro e w' ⟨he,hb⟩;subst he;replace hm:=hm.call hb;clear hb)
       | ((with_reducible refine ab (some 21) (.build 50 #[(0,.tmp 18),(1,.tmp 19),(2,.tmp 20)]) ?_);refine az (spc ks b e) [(0,.string (tx ks)),(1,.int .i64 b),(2,.int .i64 e)] rfl (bJ ks b e) ?_)
       | ((with_reducible refine ab (some 11) (.alloc 50) ?_);refine ae _ aS hm ?_;clear hm;intro w3 g11 hm)
       | ((with_reducible refine ab none (.store 50 (.tmp 11) (.tmp 21)) ?_);refine af 0 (spc ks b e) hm rfl rfl rfl 5 ao rfl rfl (bl _ _ _) ?_;clear hm;intro w4 hm))
      refine am ?_
      refine ag (T:=fun W=>Mem w [] W [(g11,spc ks b e,50),(g9,pvv ks,63)]) (by kernel_rfl) hm ?_
      intro wc hbw hmw
      clear hm
      have hm:=hmw
      clear hbw hmw
      refine aT 0 (v:=.bool true) rfl (by kernel_rfl) rfl (fun W _=>by go_simp) hm ?_
      go_simp
      refine aT 1 (v:=.bool false) rfl (by kernel_rfl) rfl (fun W _=>by go_simp) hm ?_
      go_simp
      refine aT 2 (v:=.bool false) rfl (by kernel_rfl) rfl (fun W _=>by go_simp) hm ?_
      go_simp
      refine aG 3 (v:=.agg (pvv ks).toArray) rfl (by kernel_rfl) rfl (fun W hW=>al 0 (pvv ks) (Mem.get hW 1 rfl) rfl _ aH rfl 2 au (Nat.le_refl 2) rfl) hm ?_
      go_simp
      refine aO 4 (by kernel_rfl) rfl rfl ?_
      intro K hK
      go_wp2_with (go_at_call 28;refine (bG _).mono ?_;rintro e w' ⟨he,hb⟩;subst he;replace hm:=hm.call hb;clear hb)
      refine hK _ _ hm ?_
      clear hK K
      go_simp
      refine aG 5 (v:=.bool false) rfl (by kernel_rfl) rfl (fun W _=>bN (HKS.out ()) PlOk.nil false (HRT.out ()) rfl rfl) hm ?_
      go_simp
      refine aT 6 (v:=.bool false) rfl (by kernel_rfl) rfl (fun W _=>by go_simp) hm ?_
      go_simp
      refine aT 7 (v:=.bool false) rfl (by kernel_rfl) rfl (fun W _=>by go_simp) hm ?_
      go_simp
      refine wpAnyH_done (by kernel_rfl) ?_ _
      simp only [endsIn]
      go_wp2_with fail
      refine am ?_
      refine ag (T:=fun W=>Mem w [] W [(g11,spc ks b e,50),(g9,pvv ks,63)]) (by kernel_rfl) hm ?_
      intro wc hbw hmw
      clear hm
      have hm:=hmw
      clear hbw hmw
      refine aT 0 (v:=.agg (spc ks b e).toArray) rfl (by kernel_rfl) rfl (fun W hW=>al 0 (spc ks b e) (Mem.get hW 0 rfl) rfl _ bf rfl 5 ao (Nat.le_refl 5) rfl) hm ?_
      go_simp
      refine aT 1 (v:=.agg (spc ks b e).toArray) rfl (by kernel_rfl) rfl (fun W hW=>al 0 (spc ks b e) (Mem.get hW 0 rfl) rfl _ bf rfl 5 ao (Nat.le_refl 5) rfl) hm ?_
      go_simp
      refine aO 2 (by kernel_rfl) rfl rfl ?_
      intro K hK
      go_wp2_with (go_at_call 27;refine (HHD.out _).mono ?_;rintro e_ w' ⟨he_,hb_⟩;subst he_;replace hm:=hm.call hb_;clear hb_)
      refine hK _ _ hm ?_
      clear hK K
      go_simp
      refine aT 3 (v:=.bool (!true)) rfl (by kernel_rfl) rfl (fun W _=>cN ks ks b e hb he true (by simpa using HLM.out ()) rfl rfl) hm ?_
      go_simp
      refine aT 4 (v:=.bool (!true)) rfl (by kernel_rfl) rfl (fun W _=>by go_simp) hm ?_
      go_simp
      refine wpAnyH_done (by kernel_rfl) ?_ _
      simp only [endsIn]
      go_wp2_with (first
       | (clear tk2;go_at_call 36;refine (HH1.out _ hm.below).mono ?_;rintro e_ w' ⟨he_,hb_⟩;subst he_;replace hm:=hm.call hb_;clear hb_)
       | ((with_reducible refine ab (some 37) (.load 63 (.tmp 9)) ?_);refine av 1 hm rfl rfl _ aH rfl 2 au (by rfl) ?_)
       | ((with_reducible refine ab (some 41) (.load 63 (.tmp 9)) ?_);refine av 1 hm rfl rfl _ aH rfl 2 au (by rfl) ?_)
       | (go_at_call 37;refine (eP (HKS.out ()) _ (HM.out.below hm.below)).mono ?_;rintro e w' ⟨he,hb⟩;subst he;replace hm:=hm.call hb;clear hb)
       | (go_at_call 36;refine (HH2.out _ hm.below).mono ?_;rintro e_ w' ⟨he_,hb_⟩;subst he_;replace hm:=hm.call hb_;clear hb_)
       | ((with_reducible refine ab (some 48) (.load 9 (.tmp 47)) ?_);refine aw 1 0 (.string y0) hm rfl rfl aj HY0.out ?_)
       | (go_at_call 38;refine (HKD.out _ hm.below).mono ?_;rintro e_ w' ⟨p9,cap9,he_,hb_⟩;subst he_;replace hm:=hm.call hb_;clear hb_))
      go_ret
      exact ⟨rfl,(HR.out.below hm.below).mono (Nat.le_succ _),Upd.of_below hm.below⟩
     | true =>
      by_cases h2:2≤N
      ·have e1:e0=102:=by rw [HE1.out (),if_neg (by simp),if_neg (by simp),if_neg (by simp),if_pos h2]
       subst e1
       rw [if_neg (by omega)]
       have h2i:(2:Int)≤(N:Int):=by omega
       clear HE1 h2
       go_enter Tryz.func15,Tryz.ntmps15
       go_wp2_with (first
        | (go_at_call 34;refine (HPL.out _ (HM.out.below hm.below)).mono ?_;rintro e w' ⟨he,hb⟩;subst he;replace hm:=hm.call hb;clear hb)
        | ((with_reducible refine ab (some 9) (.alloc 63) ?_);refine ae _ aL hm ?_;clear hm;intro w1 g9 hm)
        | ((with_reducible refine ab none (.store 63 (.tmp 9) (.tmp 15)) ?_);refine af 0 (pvv ks) hm rfl rfl rfl 2 au rfl rfl (aI _) ?_;clear hm;intro w2 hm)
        | ((with_reducible refine ab (some 17) (.load 63 (.tmp 9)) ?_);refine av 0 hm rfl rfl _ aH rfl 2 au (by rfl) ?_)
        | (go_at_call 35;refine (bY (HKS.out ()) _ (HM.out.below hm.below)).mono ?_;rintro e w' ⟨he,hb⟩;subst he;replace hm:=hm.call hb;clear hb)
        | ((with_reducible refine ab (some 21) (.build 50 #[(0,.tmp 18),(1,.tmp 19),(2,.tmp 20)]) ?_);refine az (spc ks b e) [(0,.string (tx ks)),(1,.int .i64 b),(2,.int .i64 e)] rfl (bJ ks b e) ?_)
        | ((with_reducible refine ab (some 11) (.alloc 50) ?_);refine ae _ aS hm ?_;clear hm;intro w3 g11 hm)
        | ((with_reducible refine ab none (.store 50 (.tmp 11) (.tmp 21)) ?_);refine af 0 (spc ks b e) hm rfl rfl rfl 5 ao rfl rfl (bl _ _ _) ?_;clear hm;intro w4 hm))
       refine am ?_
       refine ag (T:=fun W=>Mem w [] W [(g11,spc ks b e,50),(g9,pvv ks,63)]) (by kernel_rfl) hm ?_
       intro wc hbw hmw
       clear hm
       have hm:=hmw
       clear hbw hmw
       refine aT 0 (v:=.bool true) rfl (by kernel_rfl) rfl (fun W _=>by go_simp) hm ?_
       go_simp
       refine aT 1 (v:=.bool false) rfl (by kernel_rfl) rfl (fun W _=>by go_simp) hm ?_
       go_simp
       refine aT 2 (v:=.bool false) rfl (by kernel_rfl) rfl (fun W _=>by go_simp) hm ?_
       go_simp
       refine aG 3 (v:=.agg (pvv ks).toArray) rfl (by kernel_rfl) rfl (fun W hW=>al 0 (pvv ks) (Mem.get hW 1 rfl) rfl _ aH rfl 2 au (Nat.le_refl 2) rfl) hm ?_
       go_simp
       refine aO 4 (by kernel_rfl) rfl rfl ?_
       intro K hK
       go_wp2_with (go_at_call 28;refine (bG _).mono ?_;rintro e w' ⟨he,hb⟩;subst he;replace hm:=hm.call hb;clear hb)
       refine hK _ _ hm ?_
       clear hK K
       go_simp
       refine aG 5 (v:=.bool false) rfl (by kernel_rfl) rfl (fun W _=>bN (HKS.out ()) PlOk.nil false (HRT.out ()) rfl rfl) hm ?_
       go_simp
       refine aT 6 (v:=.bool false) rfl (by kernel_rfl) rfl (fun W _=>by go_simp) hm ?_
       go_simp
       refine aT 7 (v:=.bool false) rfl (by kernel_rfl) rfl (fun W _=>by go_simp) hm ?_
       go_simp
       refine wpAnyH_done (by kernel_rfl) ?_ _
       simp only [endsIn]
       go_wp2_with fail
       refine am ?_
       refine ag (T:=fun W=>Mem w [] W [(g11,spc ks b e,50),(g9,pvv ks,63)]) (by kernel_rfl) hm ?_
       intro wc hbw hmw
       clear hm
       have hm:=hmw
       clear hbw hmw
       refine aT 0 (v:=.agg (spc ks b e).toArray) rfl (by kernel_rfl) rfl (fun W hW=>al 0 (spc ks b e) (Mem.get hW 0 rfl) rfl _ bf rfl 5 ao (Nat.le_refl 5) rfl) hm ?_
       go_simp
       refine aT 1 (v:=.agg (spc ks b e).toArray) rfl (by kernel_rfl) rfl (fun W hW=>al 0 (spc ks b e) (Mem.get hW 0 rfl) rfl _ bf rfl 5 ao (Nat.le_refl 5) rfl) hm ?_
       go_simp
       refine aO 2 (by kernel_rfl) rfl rfl ?_
       intro K hK
       go_wp2_with (go_at_call 27;refine (HHD.out _).mono ?_;rintro e_ w' ⟨he_,hb_⟩;subst he_;replace hm:=hm.call hb_;clear hb_)
       refine hK _ _ hm ?_
       clear hK K
       go_simp
       refine aT 3 (v:=.bool (!true)) rfl (by kernel_rfl) rfl (fun W _=>cN ks ks b e hb he true (by simpa using HLM.out ()) rfl rfl) hm ?_
       go_simp
       refine aT 4 (v:=.bool (!true)) rfl (by kernel_rfl) rfl (fun W _=>by go_simp) hm ?_
       go_simp
       refine wpAnyH_done (by kernel_rfl) ?_ _
       simp only [endsIn]
       go_wp2_with (first
        | (clear tk2;go_at_call 36;refine (HH1.out _ hm.below).mono ?_;rintro e_ w' ⟨he_,hb_⟩;subst he_;replace hm:=hm.call hb_;clear hb_)
        | ((with_reducible refine ab (some 37) (.load 63 (.tmp 9)) ?_);refine av 1 hm rfl rfl _ aH rfl 2 au (by rfl) ?_)
        | ((with_reducible refine ab (some 41) (.load 63 (.tmp 9)) ?_);refine av 1 hm rfl rfl _ aH rfl 2 au (by rfl) ?_)
        | (go_at_call 37;refine (eP (HKS.out ()) _ (HM.out.below hm.below)).mono ?_;rintro e w' ⟨he,hb⟩;subst he;replace hm:=hm.call hb;clear hb)
        | (go_at_call 36;refine (HH2.out _ hm.below).mono ?_;rintro e_ w' ⟨he_,hb_⟩;subst he_;replace hm:=hm.call hb_;clear hb_)
        | ((with_reducible refine ab (some 48) (.load 9 (.tmp 47)) ?_);refine aw 1 0 (.string y0) hm rfl rfl aj HY0.out ?_)
        | (go_at_call 38;refine (HKD.out _ hm.below).mono ?_;rintro e_ w' ⟨p9,cap9,he_,hb_⟩;subst he_;replace hm:=hm.call hb_;clear hb_))
       go_ret
       exact ⟨rfl,(HR.out.below hm.below).mono (Nat.le_succ _),Upd.of_below hm.below⟩
      ·have e1:e0=0:=by rw [HE1.out (),if_neg (by simp),if_neg (by simp),if_neg (by simp),if_neg h2]
       subst e1
       rw [if_pos rfl]
       have h2i:¬(2:Int)≤(N:Int):=by omega
       replace HHN:Hid (∀_:Unit,hasN p ks=false):=fun _=>HHN.out () rfl
       clear HE1 h2
       go_enter Tryz.func15,Tryz.ntmps15
       go_wp2_with (first
        | (go_at_call 34;refine (HPL.out _ (HM.out.below hm.below)).mono ?_;rintro e w' ⟨he,hb⟩;subst he;replace hm:=hm.call hb;clear hb)
        | ((with_reducible refine ab (some 9) (.alloc 63) ?_);refine ae _ aL hm ?_;clear hm;intro w1 g9 hm)
        | ((with_reducible refine ab none (.store 63 (.tmp 9) (.tmp 15)) ?_);refine af 0 (pvv ks) hm rfl rfl rfl 2 au rfl rfl (aI _) ?_;clear hm;intro w2 hm)
        | ((with_reducible refine ab (some 17) (.load 63 (.tmp 9)) ?_);refine av 0 hm rfl rfl _ aH rfl 2 au (by rfl) ?_)
        | (go_at_call 35;refine (bY (HKS.out ()) _ (HM.out.below hm.below)).mono ?_;rintro e w' ⟨he,hb⟩;subst he;replace hm:=hm.call hb;clear hb)
        | ((with_reducible refine ab (some 21) (.build 50 #[(0,.tmp 18),(1,.tmp 19),(2,.tmp 20)]) ?_);refine az (spc ks b e) [(0,.string (tx ks)),(1,.int .i64 b),(2,.int .i64 e)] rfl (bJ ks b e) ?_)
        | ((with_reducible refine ab (some 11) (.alloc 50) ?_);refine ae _ aS hm ?_;clear hm;intro w3 g11 hm)
        | ((with_reducible refine ab none (.store 50 (.tmp 11) (.tmp 21)) ?_);refine af 0 (spc ks b e) hm rfl rfl rfl 5 ao rfl rfl (bl _ _ _) ?_;clear hm;intro w4 hm))
       refine am ?_
       refine ag (T:=fun W=>Mem w [] W [(g11,spc ks b e,50),(g9,pvv ks,63)]) (by kernel_rfl) hm ?_
       intro wc hbw hmw
       clear hm
       have hm:=hmw
       clear hbw hmw
       refine aT 0 (v:=.bool true) rfl (by kernel_rfl) rfl (fun W _=>by go_simp) hm ?_
       go_simp
       refine aT 1 (v:=.bool false) rfl (by kernel_rfl) rfl (fun W _=>by go_simp) hm ?_
       go_simp
       refine aT 2 (v:=.bool false) rfl (by kernel_rfl) rfl (fun W _=>by go_simp) hm ?_
       go_simp
       refine aG 3 (v:=.agg (pvv ks).toArray) rfl (by kernel_rfl) rfl (fun W hW=>al 0 (pvv ks) (Mem.get hW 1 rfl) rfl _ aH rfl 2 au (Nat.le_refl 2) rfl) hm ?_
       go_simp
       refine aO 4 (by kernel_rfl) rfl rfl ?_
       intro K hK
       go_wp2_with (go_at_call 28;refine (bG _).mono ?_;rintro e w' ⟨he,hb⟩;subst he;replace hm:=hm.call hb;clear hb)
       refine hK _ _ hm ?_
       clear hK K
       go_simp
       refine aG 5 (v:=.bool false) rfl (by kernel_rfl) rfl (fun W _=>bN (HKS.out ()) PlOk.nil false (HRT.out ()) rfl rfl) hm ?_
       go_simp
       refine aT 6 (v:=.bool false) rfl (by kernel_rfl) rfl (fun W _=>by go_simp) hm ?_
       go_simp
       refine aT 7 (v:=.bool false) rfl (by kernel_rfl) rfl (fun W _=>by go_simp) hm ?_
       go_simp
       refine wpAnyH_done (by kernel_rfl) ?_ _
       simp only [endsIn]
       go_wp2_with fail
       refine am ?_
       refine ag (T:=fun W=>Mem w [] W [(g11,spc ks b e,50),(g9,pvv ks,63)]) (by kernel_rfl) hm ?_
       intro wc hbw hmw
       clear hm
       have hm:=hmw
       clear hbw hmw
       refine aT 0 (v:=.agg (spc ks b e).toArray) rfl (by kernel_rfl) rfl (fun W hW=>al 0 (spc ks b e) (Mem.get hW 0 rfl) rfl _ bf rfl 5 ao (Nat.le_refl 5) rfl) hm ?_
       go_simp
       refine aT 1 (v:=.agg (spc ks b e).toArray) rfl (by kernel_rfl) rfl (fun W hW=>al 0 (spc ks b e) (Mem.get hW 0 rfl) rfl _ bf rfl 5 ao (Nat.le_refl 5) rfl) hm ?_
       go_simp
       refine aO 2 (by kernel_rfl) rfl rfl ?_
       intro K hK
       go_wp2_with (go_at_call 27;refine (HHD.out _).mono ?_;rintro e_ w' ⟨he_,hb_⟩;subst he_;replace hm:=hm.call hb_;clear hb_)
       refine hK _ _ hm ?_
       clear hK K
       go_simp
       refine aT 3 (v:=.bool (!true)) rfl (by kernel_rfl) rfl (fun W _=>cN ks ks b e hb he true (by simpa using HLM.out ()) rfl rfl) hm ?_
       go_simp
       refine aT 4 (v:=.bool (!true)) rfl (by kernel_rfl) rfl (fun W _=>by go_simp) hm ?_
       go_simp
       refine wpAnyH_done (by kernel_rfl) ?_ _
       simp only [endsIn]
       go_wp2_with (first
        | (clear tk2;go_at_call 36;refine (HH1.out _ hm.below).mono ?_;rintro e_ w' ⟨he_,hb_⟩;subst he_;replace hm:=hm.call hb_;clear hb_)
        | ((with_reducible refine ab (some 37) (.load 63 (.tmp 9)) ?_);refine av 1 hm rfl rfl _ aH rfl 2 au (by rfl) ?_)
        | ((with_reducible refine ab (some 41) (.load 63 (.tmp 9)) ?_);refine av 1 hm rfl rfl _ aH rfl 2 au (by rfl) ?_)
        | (go_at_call 37;refine (eP (HKS.out ()) _ (HM.out.below hm.below)).mono ?_;rintro e w' ⟨he,hb⟩;subst he;replace hm:=hm.call hb;clear hb)
        | (go_at_call 36;refine (HH2.out _ hm.below).mono ?_;rintro e_ w' ⟨he_,hb_⟩;subst he_;replace hm:=hm.call hb_;clear hb_)
        | ((with_reducible refine ab (some 48) (.load 9 (.tmp 47)) ?_);refine aw 1 0 (.string y0) hm rfl rfl aj HY0.out ?_)
        | (go_at_call 38;refine (HKD.out _ hm.below).mono ?_;rintro e_ w' ⟨p9,cap9,he_,hb_⟩;subst he_;replace hm:=hm.call hb_;clear hb_))
       refine am ?_
       refine ag (T:=fun W=>Row W nb [.map (some m)] 69∧Row W g9 (pvv ks) 63∧Row W g11 (spc ks b e) 50) (by kernel_rfl) hm ?_
       intro wc hbw hmw
       clear hm hbw
       have hm:=hmw
       clear hmw
       have HC9:=HR.out.below hm.below
       have HT:Hid (Row wc nb [.map (some m)] 69∧Row wc g9 (pvv ks) 63∧Row wc g11 (spc ks b e) 50):=⟨HC9.row,hm.get 1 rfl,hm.get 0 rfl⟩
       obtain ⟨q9,hq9,km9⟩:=HC9.map
       obtain ⟨es9,c9,hmap9⟩:=km9.isMap
       have hne1:nb≠m:=aB HT.out.1 hmap9
       have hne2:g9≠m:=aB HT.out.2.1 hmap9
       have hne3:g11≠m:=aB HT.out.2.2 hmap9
       have HQ9:Hid (q9≤c):=hq9
       have HKM9:Hid (KM Tryz.prog 63 wc m q9 (NmK p)):=km9
       obtain ⟨kl9,hkl9⟩:=dF (HKS.out ())
       have HKL9:Hid (keyOf Tryz.prog 63 (.agg (pvv ks).toArray)=some kl9):=hkl9
       clear HC9 hq9 km9 hmap9 hkl9
       refine aT 0 (v:=.pointer (some ⟨nb,0,none⟩)) rfl (by kernel_rfl) rfl (fun W _=>by go_simp) HT.out ?_
       go_simp
       refine aT 1 (v:=.pointer (some ⟨nb,0,none⟩)) rfl (by kernel_rfl) rfl (fun W _=>by go_simp) HT.out ?_
       go_simp
       refine aT 2 (v:=.pointer (some ⟨nb,0,none⟩)) rfl (by kernel_rfl) rfl (fun W _=>by go_simp) HT.out ?_
       go_simp
       refine aT 3 (v:=.map (some m)) rfl (by kernel_rfl) rfl (fun W hW=>ad 0 (.map (some m)) hW.1 rfl cE rfl) HT.out ?_
       go_simp
       refine aT 4 (v:=.agg (pvv ks).toArray) rfl (by kernel_rfl) rfl (fun W hW=>al 0 (pvv ks) hW.2.1 rfl _ aH rfl 2 au (Nat.le_refl 2) rfl) HT.out ?_
       go_simp
       refine aT 5 (v:=.agg (spc ks b e).toArray) rfl (by kernel_rfl) rfl (fun W hW=>al 0 (spc ks b e) hW.2.2 rfl _ bf rfl 5 ao (Nat.le_refl 5) rfl) HT.out ?_
       go_simp
       refine aT 6 (v:=.agg (spwz ks b e).toArray) rfl (by kernel_rfl) rfl (fun W _=>cL _ [(0,.agg (spc ks b e).toArray)] (by go_simp) (built_sw ks b e)) HT.out ?_
       go_simp
       refine aO 7 (by kernel_rfl) rfl rfl ?_
       intro K hK
       refine ed HKM9.out aQ bW (by have:=HQ9.out;omega) HKL9.out rfl rfl rfl ?_
       intro w9 km8 hu9
       have HKM8:Hid (KM Tryz.prog 63 w9 m (q9+1) (putK (NmK p) (.agg (pvv ks).toArray) (.agg (spwz ks b e).toArray))):=km8
       have HU9:Hid (Upd m wc w9):=hu9
       have HT9:Hid (Row w9 nb [.map (some m)] 69∧Row w9 g9 (pvv ks) 63∧Row w9 g11 (spc ks b e) 50):=⟨hu9.row HT.out.1 hne1,hu9.row HT.out.2.1 hne2,hu9.row HT.out.2.2 hne3⟩
       clear km8 hu9
       refine wpList_nil ?_
       refine hK _ _ HT9.out ?_
       clear hK K
       go_simp
       refine wpAnyH_done (by kernel_rfl) ?_ _
       simp only [endsIn]
       go_wp2_with fail
       go_ret
       exact ⟨rfl,⟨HT9.out.1,⟨q9+1,by have:=HQ9.out;omega,HKM8.out.same (nmK_add (x:=(ks,b,e,0,0,0,0)) HOK.out (HKS.out ()) (HHN.out ()))⟩,HOK.out.add (x:=(ks,b,e,0,0,0,0)) (HKS.out ()) (HHN.out ())⟩,(Upd.of_below hm.below).trans HU9.out⟩
end Go.Proofs.YtdmohffogfbnbaaGreatDoor
