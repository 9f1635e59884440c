import Derived.Test.YtdmohffogfbnbaaDoorQx06
set_option maxRecDepth 100000
set_option maxHeartbeats 4000000
namespace Go.Proofs.YtdmohffogfbnbaaDoor
open Go Go.RowKit Go.Maps
theorem bf (ks:List ByteArray) (b e:Int):Tryd.prog.built 32 [(0,.string (tx ks)),(1,.int .i64 b),(2,.int .i64 e)]=some (spc ks b e).toArray:=by kernel_rfl
theorem add_n {w:World} {nb m c:Nat} {p:Nms} (h:NmAt w nb m c p) (hcc:c≤80000) (s:ByteArray) (hs:s.size≤1000) (hM:MaxL w) (b e:Int) (e0:Int) (he0:e0=addE p s b e) :
  Calls Tryd.prog 6 #[.pointer (some ⟨nb,0,none⟩),.string s,.int .i64 b,.int .i64 e] w fun e_ w'=>e_=.returned (.int .i64 e0)∧NmAt w' nb m (c+1) (if e0=0 then addN p (segsB s,b,e,0,0,0,0) else p)∧Upd m w w':=by
 have hm:=Mem.start w
 have HM:Hid (MaxL w):=hM
 have HR:Hid (NmAt w nb m c p):=h
 have HOK:Hid (NmOk p):=h.ok
 obtain ⟨ks,hks⟩:∃ks,ks=segsB s:=⟨_,rfl⟩
 have hk:PlOk ks:=by rw [hks];exact a8 s
 have HKS:Hid (∀_:Unit,PlOk ks):=fun _=>hk
 obtain ⟨b0,hb0⟩:∃x,x=isP (bs s):=⟨_,rfl⟩
 obtain ⟨b1,hb1⟩:∃x,x=hasN p ks:=⟨_,rfl⟩
 obtain ⟨b2,hb2⟩:∃x,x=hasN p ks.dropLast:=⟨_,rfl⟩
 obtain ⟨lm,hlm⟩:∃x,x=limOk b e:=⟨_,rfl⟩
 obtain ⟨y0,hy0⟩:∃y,y=tx ks.dropLast:=⟨_,rfl⟩
 obtain ⟨N,hN⟩:∃n,n=(kidsN p y0).length:=⟨_,rfl⟩
 obtain ⟨hb,hhb⟩:∃x,x=heldI b:=⟨_,rfl⟩
 obtain ⟨he,hhe⟩:∃x,x=heldI e:=⟨_,rfl⟩
 have HLM:Hid (∀_:Unit,lm=(decide (tx ks=tx ks)&&(decide (b=hb)&&decide (e=he)))):=fun _=>by rw [hhb,hhe,limOk_held,hlm];simp
 have HHD:Hid (∀W,Calls Tryd.prog 14 #[.agg (spc ks b e).toArray] W fun e_ w'=>e_=.returned (.agg (spc ks hb he).toArray)∧Below W.heap.size W w'):=fun W=>by rw [hhb,hhe];exact held_n ks b e W
 have HPL:Hid (∀W,MaxL W→Calls Tryd.prog 16 #[.string s] W fun e w'=>e=.returned (.tuple #[.agg (pvv ks).toArray,.bool b0])∧Below W.heap.size W w'):=fun W hW=>by rw [hks,hb0];exact cy s W hs hW
 have HH1:Hid (∀W,Below w.heap.size w W→Calls Tryd.prog 18 #[.pointer (some ⟨nb,0,none⟩),.agg (pvv ks).toArray] W fun e w'=>e=.returned (.bool b1)∧Below W.heap.size W w'):=fun W hW=>has_n hk b1 hb1 W (HR.out.below hW)
 have HH2:Hid (∀W,Below w.heap.size w W→Calls Tryd.prog 18 #[.pointer (some ⟨nb,0,none⟩),.agg (pvv ks.dropLast).toArray] W fun e w'=>e=.returned (.bool b2)∧Below W.heap.size W w'):=fun W hW=>has_n hk.drop b2 hb2 W (HR.out.below hW)
 have HY0:Hid ((pvv ks)[0]?=some (.string y0)):=by rw [hy0];rfl
 have HKD:Hid (∀W,Below w.heap.size w W→Calls Tryd.prog 20 #[.pointer (some ⟨nb,0,none⟩),.string y0] W fun e w'=>∃p9 cap9,e=.returned (.slice p9 N cap9)∧Below W.heap.size W w'):=fun W hW=>by
  refine (kids_n (HR.out.below hW) (by omega) y0).mono ?_
  rintro e w' ⟨v,rfl,⟨p9,cap9,hv,_⟩,hb⟩
  exact ⟨p9,cap9,by rw [hv,hN],hb⟩
 have HE0:Hid (∀_:Unit,e0=if b0=false then 110 else if ks=[] then 110 else if lm=false then 12 else if b1=true then 101 else if b2=false then 100 else if 2≤N then 102 else 0):=fun _=>by
  rw [he0,hb0,hb1,hb2,hlm,hN,hy0,hks];rfl
 have HHN:Hid (∀_:Unit,b1=false→hasN p ks=false):=fun _ h=>by rw [←hb1];exact h
 rw [←hks]
 clear h hs hM hks hk hb0 hb1 hb2 hlm hy0 hN hhb hhe he0
 cases b0 with
 | false =>
  have e1:e0=110:=by rw [HE0.out ()];rfl
  subst e1
  rw [if_neg (by omega)]
  clear HE0
  go_enter Tryd.func6,Tryd.ntmps6
  go_wp2_with (first
   | (go_at_call 16;refine (HPL.out _ (HM.out.below hm.below)).mono ?_;rintro e w' ⟨he,hb⟩;subst he;replace hm:=hm.call hb;clear hb)
   | ((with_reducible refine aa (some 9) (.alloc 42) ?_);refine ad _ aD hm ?_;clear hm;intro w1 g9 hm)
   | ((with_reducible refine aa none (.store 42 (.tmp 9) (.tmp 15)) ?_);refine af 0 (pvv ks) hm rfl rfl rfl 2 ao rfl rfl (aH _) ?_;clear hm;intro w2 hm)
   | ((with_reducible refine aa (some 17) (.load 42 (.tmp 9)) ?_);refine ak 0 hm rfl rfl _ aF rfl 2 ao (by rfl) ?_)
   | (go_at_call 17;refine (bZ (HKS.out ()) _ (HM.out.below hm.below)).mono ?_;rintro e w' ⟨he,hb⟩;subst he;replace hm:=hm.call hb;clear hb)
   | ((with_reducible refine aa (some 21) (.build 32 #[(0,.tmp 18),(1,.tmp 19),(2,.tmp 20)]) ?_);refine an (spc ks b e) [(0,.string (tx ks)),(1,.int .i64 b),(2,.int .i64 e)] rfl (bf ks b e) ?_)
   | ((with_reducible refine aa (some 11) (.alloc 32) ?_);refine ad _ aN hm ?_;clear hm;intro w3 g11 hm)
   | ((with_reducible refine aa none (.store 32 (.tmp 11) (.tmp 21)) ?_);refine af 0 (spc ks b e) hm rfl rfl rfl 5 aJ rfl rfl (ba _ _ _) ?_;clear hm;intro w4 hm))
  refine am ?_
  refine ag (T:=fun W=>Mem w [] W [(g11,spc ks b e,32),(g9,pvv ks,42)]) (by kernel_rfl) hm ?_
  intro wc hbw hmw
  clear hm
  have hm:=hmw
  clear hbw hmw
  refine aT 0 (v:=.bool false) rfl (by kernel_rfl) rfl (fun W _=>by go_simp) hm ?_
  go_simp
  refine aT 1 (v:=.bool true) rfl (by kernel_rfl) rfl (fun W _=>by go_simp) hm ?_
  go_simp
  refine aT 2 (v:=.bool true) rfl (by kernel_rfl) rfl (fun W _=>by go_simp) hm ?_
  go_simp
  refine aW 3 rfl (by kernel_rfl) (by kernel_rfl) (by kernel_rfl) rfl hm ?_
  go_simp
  refine aW 4 rfl (by kernel_rfl) (by kernel_rfl) (by kernel_rfl) rfl hm ?_
  go_simp
  refine aW 5 rfl (by kernel_rfl) (by kernel_rfl) (by kernel_rfl) rfl hm ?_
  go_simp
  refine aT 6 (v:=.bool true) rfl (by kernel_rfl) rfl (fun W _=>by go_simp) hm ?_
  go_simp
  refine aT 7 (v:=.bool true) rfl (by kernel_rfl) rfl (fun W _=>by go_simp) hm ?_
  go_simp
  refine wpAnyH_done (by kernel_rfl) ?_ _
  simp only [endsIn]
  go_wp2_with fail
  go_ret
  exact ⟨rfl,(HR.out.below hm.below).mono (Nat.le_succ _),Upd.of_below hm.below⟩
 | true =>
  by_cases hr:ks=[]
  ·have HRT:Hid (∀_:Unit,true=decide (ks=[])):=fun _=>by rw [decide_eq_true hr]
   have e1:e0=110:=by rw [HE0.out (),if_neg (by simp),if_pos hr]
   subst e1
   rw [if_neg (by omega)]
   clear HE0 hr
   go_enter Tryd.func6,Tryd.ntmps6
   go_wp2_with (first
    | (go_at_call 16;refine (HPL.out _ (HM.out.below hm.below)).mono ?_;rintro e w' ⟨he,hb⟩;subst he;replace hm:=hm.call hb;clear hb)
    | ((with_reducible refine aa (some 9) (.alloc 42) ?_);refine ad _ aD hm ?_;clear hm;intro w1 g9 hm)
    | ((with_reducible refine aa none (.store 42 (.tmp 9) (.tmp 15)) ?_);refine af 0 (pvv ks) hm rfl rfl rfl 2 ao rfl rfl (aH _) ?_;clear hm;intro w2 hm)
    | ((with_reducible refine aa (some 17) (.load 42 (.tmp 9)) ?_);refine ak 0 hm rfl rfl _ aF rfl 2 ao (by rfl) ?_)
    | (go_at_call 17;refine (bZ (HKS.out ()) _ (HM.out.below hm.below)).mono ?_;rintro e w' ⟨he,hb⟩;subst he;replace hm:=hm.call hb;clear hb)
    | ((with_reducible refine aa (some 21) (.build 32 #[(0,.tmp 18),(1,.tmp 19),(2,.tmp 20)]) ?_);refine an (spc ks b e) [(0,.string (tx ks)),(1,.int .i64 b),(2,.int .i64 e)] rfl (bf ks b e) ?_)
    | ((with_reducible refine aa (some 11) (.alloc 32) ?_);refine ad _ aN hm ?_;clear hm;intro w3 g11 hm)
    | ((with_reducible refine aa none (.store 32 (.tmp 11) (.tmp 21)) ?_);refine af 0 (spc ks b e) hm rfl rfl rfl 5 aJ rfl rfl (ba _ _ _) ?_;clear hm;intro w4 hm))
   refine am ?_
   refine ag (T:=fun W=>Mem w [] W [(g11,spc ks b e,32),(g9,pvv ks,42)]) (by kernel_rfl) hm ?_
   intro wc hbw hmw
   clear hm
   have hm:=hmw
   clear hbw hmw
   refine aT 0 (v:=.bool true) rfl (by kernel_rfl) rfl (fun W _=>by go_simp) hm ?_
   go_simp
   refine aT 1 (v:=.bool false) rfl (by kernel_rfl) rfl (fun W _=>by go_simp) hm ?_
   go_simp
   refine aT 2 (v:=.bool false) rfl (by kernel_rfl) rfl (fun W _=>by go_simp) hm ?_
   go_simp
   refine aG 3 (v:=.agg (pvv ks).toArray) rfl (by kernel_rfl) rfl (fun W hW=>ai 0 (pvv ks) (Mem.get hW 1 rfl) rfl _ aF rfl 2 ao (Nat.le_refl 2) rfl) hm ?_
   go_simp
   refine aO 4 (by kernel_rfl) rfl rfl ?_
   intro K hK
   go_wp2_with (go_at_call 15;refine (br _).mono ?_;rintro e w' ⟨he,hb⟩;subst he;replace hm:=hm.call hb;clear hb)
   refine hK _ _ hm ?_
   clear hK K
   go_simp
   refine aG 5 (v:=.bool true) rfl (by kernel_rfl) rfl (fun W _=>bJ (HKS.out ()) PlOk.nil true (HRT.out ()) rfl rfl) hm ?_
   go_simp
   refine aT 6 (v:=.bool true) rfl (by kernel_rfl) rfl (fun W _=>by go_simp) hm ?_
   go_simp
   refine aT 7 (v:=.bool true) rfl (by kernel_rfl) rfl (fun W _=>by go_simp) hm ?_
   go_simp
   refine wpAnyH_done (by kernel_rfl) ?_ _
   simp only [endsIn]
   go_wp2_with fail
   go_ret
   exact ⟨rfl,(HR.out.below hm.below).mono (Nat.le_succ _),Upd.of_below hm.below⟩
  ·have HRT:Hid (∀_:Unit,false=decide (ks=[])):=fun _=>by rw [decide_eq_false hr]
   have HE1:Hid (∀_:Unit,e0=if lm=false then 12 else if b1=true then 101 else if b2=false then 100 else if 2≤N then 102 else 0):=fun _=>by rw [HE0.out (),if_neg (by simp),if_neg hr]
   clear HE0 hr
   cases lm with
   | false =>
    have e1:e0=12:=by rw [HE1.out ()];rfl
    subst e1
    rw [if_neg (by omega)]
    clear HE1
    go_enter Tryd.func6,Tryd.ntmps6
    go_wp2_with (first
     | (go_at_call 16;refine (HPL.out _ (HM.out.below hm.below)).mono ?_;rintro e w' ⟨he,hb⟩;subst he;replace hm:=hm.call hb;clear hb)
     | ((with_reducible refine aa (some 9) (.alloc 42) ?_);refine ad _ aD hm ?_;clear hm;intro w1 g9 hm)
     | ((with_reducible refine aa none (.store 42 (.tmp 9) (.tmp 15)) ?_);refine af 0 (pvv ks) hm rfl rfl rfl 2 ao rfl rfl (aH _) ?_;clear hm;intro w2 hm)
     | ((with_reducible refine aa (some 17) (.load 42 (.tmp 9)) ?_);refine ak 0 hm rfl rfl _ aF rfl 2 ao (by rfl) ?_)
     | (go_at_call 17;refine (bZ (HKS.out ()) _ (HM.out.below hm.below)).mono ?_;rintro e w' ⟨he,hb⟩;subst he;replace hm:=hm.call hb;clear hb)
     | ((with_reducible refine aa (some 21) (.build 32 #[(0,.tmp 18),(1,.tmp 19),(2,.tmp 20)]) ?_);refine an (spc ks b e) [(0,.string (tx ks)),(1,.int .i64 b),(2,.int .i64 e)] rfl (bf ks b e) ?_)
     | ((with_reducible refine aa (some 11) (.alloc 32) ?_);refine ad _ aN hm ?_;clear hm;intro w3 g11 hm)
     | ((with_reducible refine aa none (.store 32 (.tmp 11) (.tmp 21)) ?_);refine af 0 (spc ks b e) hm rfl rfl rfl 5 aJ rfl rfl (ba _ _ _) ?_;clear hm;intro w4 hm))
    refine am ?_
    refine ag (T:=fun W=>Mem w [] W [(g11,spc ks b e,32),(g9,pvv ks,42)]) (by kernel_rfl) hm ?_
    intro wc hbw hmw
    clear hm
    have hm:=hmw
    clear hbw hmw
    refine aT 0 (v:=.bool true) rfl (by kernel_rfl) rfl (fun W _=>by go_simp) hm ?_
    go_simp
    refine aT 1 (v:=.bool false) rfl (by kernel_rfl) rfl (fun W _=>by go_simp) hm ?_
    go_simp
    refine aT 2 (v:=.bool false) rfl (by kernel_rfl) rfl (fun W _=>by go_simp) hm ?_
    go_simp
    refine aG 3 (v:=.agg (pvv ks).toArray) rfl (by kernel_rfl) rfl (fun W hW=>ai 0 (pvv ks) (Mem.get hW 1 rfl) rfl _ aF rfl 2 ao (Nat.le_refl 2) rfl) hm ?_
    go_simp
    refine aO 4 (by kernel_rfl) rfl rfl ?_
    intro K hK
    go_wp2_with (go_at_call 15;refine (br _).mono ?_;rintro e w' ⟨he,hb⟩;subst he;replace hm:=hm.call hb;clear hb)
    refine hK _ _ hm ?_
    clear hK K
    go_simp
    refine aG 5 (v:=.bool false) rfl (by kernel_rfl) rfl (fun W _=>bJ (HKS.out ()) PlOk.nil false (HRT.out ()) rfl rfl) hm ?_
    go_simp
    refine aT 6 (v:=.bool false) rfl (by kernel_rfl) rfl (fun W _=>by go_simp) hm ?_
    go_simp
    refine aT 7 (v:=.bool false) rfl (by kernel_rfl) rfl (fun W _=>by go_simp) hm ?_
    go_simp
    refine wpAnyH_done (by kernel_rfl) ?_ _
    simp only [endsIn]
    go_wp2_with fail
    refine am ?_
    refine ag (T:=fun W=>Mem w [] W [(g11,spc ks b e,32),(g9,pvv ks,42)]) (by kernel_rfl) hm ?_
    intro wc hbw hmw
    clear hm
    have hm:=hmw
    clear hbw hmw
    refine aT 0 (v:=.agg (spc ks b e).toArray) rfl (by kernel_rfl) rfl (fun W hW=>ai 0 (spc ks b e) (Mem.get hW 0 rfl) rfl _ bj rfl 5 aJ (Nat.le_refl 5) rfl) hm ?_
    go_simp
    refine aT 1 (v:=.agg (spc ks b e).toArray) rfl (by kernel_rfl) rfl (fun W hW=>ai 0 (spc ks b e) (Mem.get hW 0 rfl) rfl _ bj rfl 5 aJ (Nat.le_refl 5) rfl) hm ?_
    go_simp
    refine aO 2 (by kernel_rfl) rfl rfl ?_
    intro K hK
    go_wp2_with (go_at_call 14;refine (HHD.out _).mono ?_;rintro e_ w' ⟨he_,hb_⟩;subst he_;replace hm:=hm.call hb_;clear hb_)
    refine hK _ _ hm ?_
    clear hK K
    go_simp
    refine aT 3 (v:=.bool (!false)) rfl (by kernel_rfl) rfl (fun W _=>bE ks ks b e hb he false (by simpa using HLM.out ()) rfl rfl) hm ?_
    go_simp
    refine aT 4 (v:=.bool (!false)) rfl (by kernel_rfl) rfl (fun W _=>by go_simp) hm ?_
    go_simp
    refine wpAnyH_done (by kernel_rfl) ?_ _
    simp only [endsIn]
    go_wp2_with fail
    go_ret
    exact ⟨rfl,(HR.out.below hm.below).mono (Nat.le_succ _),Upd.of_below hm.below⟩
   | true =>
    have tk2:Nat:=0
    cases b1 with
    | true =>
     have e1:e0=101:=by rw [HE1.out ()];rfl
     subst e1
     rw [if_neg (by omega)]
     clear HE1
     go_enter Tryd.func6,Tryd.ntmps6
     go_wp2_with (first
      | (go_at_call 16;refine (HPL.out _ (HM.out.below hm.below)).mono ?_;rintro e w' ⟨he,hb⟩;subst he;replace hm:=hm.call hb;clear hb)
      | ((with_reducible refine aa (some 9) (.alloc 42) ?_);refine ad _ aD hm ?_;clear hm;intro w1 g9 hm)
      | ((with_reducible refine aa none (.store 42 (.tmp 9) (.tmp 15)) ?_);refine af 0 (pvv ks) hm rfl rfl rfl 2 ao rfl rfl (aH _) ?_;clear hm;intro w2 hm)
      | ((with_reducible refine aa (some 17) (.load 42 (.tmp 9)) ?_);refine ak 0 hm rfl rfl _ aF rfl 2 ao (by rfl) ?_)
      | (go_at_call 17;refine (bZ (HKS.out ()) _ (HM.out.below hm.below)).mono ?_;rintro e w' ⟨he,hb⟩;subst he;replace hm:=hm.call hb;clear hb)
      | ((with_reducible refine aa (some 21) (.build 32 #[(0,.tmp 18),(1,.tmp 19),(2,.tmp 20)]) ?_);refine an (spc ks b e) [(0,.string (tx ks)),(1,.int .i64 b),(2,.int .i64 e)] rfl (bf ks b e) ?_)
      | ((with_reducible refine aa (some 11) (.alloc 32) ?_);refine ad _ aN hm ?_;clear hm;intro w3 g11 hm)
      | ((with_reducible refine aa none (.store 32 (.tmp 11) (.tmp 21)) ?_);refine af 0 (spc ks b e) hm rfl rfl rfl 5 aJ rfl rfl (ba _ _ _) ?_;clear hm;intro w4 hm))
     refine am ?_
     refine ag (T:=fun W=>Mem w [] W [(g11,spc ks b e,32),(g9,pvv ks,42)]) (by kernel_rfl) hm ?_
     intro wc hbw hmw
     clear hm
     have hm:=hmw
     clear hbw hmw
     refine aT 0 (v:=.bool true) rfl (by kernel_rfl) rfl (fun W _=>by go_simp) hm ?_
     go_simp
     refine aT 1 (v:=.bool false) rfl (by kernel_rfl) rfl (fun W _=>by go_simp) hm ?_
     go_simp
     refine aT 2 (v:=.bool false) rfl (by kernel_rfl) rfl (fun W _=>by go_simp) hm ?_
     go_simp
     refine aG 3 (v:=.agg (pvv ks).toArray) rfl (by kernel_rfl) rfl (fun W hW=>ai 0 (pvv ks) (Mem.get hW 1 rfl) rfl _ aF rfl 2 ao (Nat.le_refl 2) rfl) hm ?_
     go_simp
     refine aO 4 (by kernel_rfl) rfl rfl ?_
     intro K hK
     go_wp2_with (go_at_call 15;refine (br _).mono ?_;rintro e w' ⟨he,hb⟩;subst he;replace hm:=hm.call hb;clear hb)
     refine hK _ _ hm ?_
     clear hK K
     go_simp
     refine aG 5 (v:=.bool false) rfl (by kernel_rfl) rfl (fun W _=>bJ (HKS.out ()) PlOk.nil false (HRT.out ()) rfl rfl) hm ?_
     go_simp
     refine aT 6 (v:=.bool false) rfl (by kernel_rfl) rfl (fun W _=>by go_simp) hm ?_
     go_simp
     refine aT 7 (v:=.bool false) rfl (by kernel_rfl) rfl (fun W _=>by go_simp) hm ?_
     go_simp
     refine wpAnyH_done (by kernel_rfl) ?_ _
     simp only [endsIn]
     go_wp2_with fail
     refine am ?_
     refine ag (T:=fun W=>Mem w [] W [(g11,spc ks b e,32),(g9,pvv ks,42)]) (by kernel_rfl) hm ?_
     intro wc hbw hmw
     clear hm
     have hm:=hmw
     clear hbw hmw
     refine aT 0 (v:=.agg (spc ks b e).toArray) rfl (by kernel_rfl) rfl (fun W hW=>ai 0 (spc ks b e) (Mem.get hW 0 rfl) rfl _ bj rfl 5 aJ (Nat.le_refl 5) rfl) hm ?_
     go_simp
     refine aT 1 (v:=.agg (spc ks b e).toArray) rfl (by kernel_rfl) rfl (fun W hW=>ai 0 (spc ks b e) (Mem.get hW 0 rfl) rfl _ bj rfl 5 aJ (Nat.le_refl 5) rfl) hm ?_
     go_simp
     refine aO 2 (by kernel_rfl) rfl rfl ?_
     intro K hK
     go_wp2_with (go_at_call 14;refine (HHD.out _).mono ?_;rintro e_ w' ⟨he_,hb_⟩;subst he_;replace hm:=hm.call hb_;clear hb_)
     refine hK _ _ hm ?_
     clear hK K
     go_simp
     refine aT 3 (v:=.bool (!true)) rfl (by kernel_rfl) rfl (fun W _=>bE ks ks b e hb he true (by simpa using HLM.out ()) rfl rfl) hm ?_
     go_simp
     refine aT 4 (v:=.bool (!true)) rfl (by kernel_rfl) rfl (fun W _=>by go_simp) hm ?_
     go_simp
     refine wpAnyH_done (by kernel_rfl) ?_ _
     simp only [endsIn]
     go_wp2_with (first
      | (clear tk2;go_at_call 18;refine (HH1.out _ hm.below).mono ?_;rintro e_ w' ⟨he_,hb_⟩;subst he_;replace hm:=hm.call hb_;clear hb_)
      | ((with_reducible refine aa (some 37) (.load 42 (.tmp 9)) ?_);refine ak 1 hm rfl rfl _ aF rfl 2 ao (by rfl) ?_)
      | ((with_reducible refine aa (some 41) (.load 42 (.tmp 9)) ?_);refine ak 1 hm rfl rfl _ aF rfl 2 ao (by rfl) ?_)
      | (go_at_call 19;refine (cM (HKS.out ()) _ (HM.out.below hm.below)).mono ?_;rintro e w' ⟨he,hb⟩;subst he;replace hm:=hm.call hb;clear hb)
      | (go_at_call 18;refine (HH2.out _ hm.below).mono ?_;rintro e_ w' ⟨he_,hb_⟩;subst he_;replace hm:=hm.call hb_;clear hb_)
      | ((with_reducible refine aa (some 48) (.load 9 (.tmp 47)) ?_);refine al 1 0 (.string y0) hm rfl rfl az HY0.out ?_)
      | (go_at_call 20;refine (HKD.out _ hm.below).mono ?_;rintro e_ w' ⟨p9,cap9,he_,hb_⟩;subst he_;replace hm:=hm.call hb_;clear hb_))
     go_ret
     exact ⟨rfl,(HR.out.below hm.below).mono (Nat.le_succ _),Upd.of_below hm.below⟩
    | false =>
     cases b2 with
     | false =>
      have e1:e0=100:=by rw [HE1.out ()];rfl
      subst e1
      rw [if_neg (by omega)]
      clear HE1
      go_enter Tryd.func6,Tryd.ntmps6
      go_wp2_with (first
       | (go_at_call 16;refine (HPL.out _ (HM.out.below hm.below)).mono ?_;rintro e w' ⟨he,hb⟩;subst he;replace hm:=hm.call hb;clear hb)
       | ((with_reducible refine aa (some 9) (.alloc 42) ?_);refine ad _ aD hm ?_;clear hm;intro w1 g9 hm)
       | ((with_reducible refine aa none (.store 42 (.tmp 9) (.tmp 15)) ?_);refine af 0 (pvv ks) hm rfl rfl rfl 2 ao rfl rfl (aH _) ?_;clear hm;intro w2 hm)
       | ((with_reducible refine aa (some 17) (.load 42 (.tmp 9)) ?_);refine ak 0 hm rfl rfl _ aF rfl 2 ao (by rfl) ?_)
       | (go_at_call 17;refine (bZ (HKS.out ()) _ (HM.out.below hm.below)).mono ?_;rintro e w' ⟨he,hb⟩;subst he;replace hm:=hm.call hb;clear hb)
       | ((with_reducible refine aa (some 21) (.build 32 #[(0,.tmp 18),(1,.tmp 19),(2,.tmp 20)]) ?_);refine an (spc ks b e) [(0,.string (tx ks)),(1,.int .i64 b),(2,.int .i64 e)] rfl (bf ks b e) ?_)
       | ((with_reducible refine aa (some 11) (.alloc 32) ?_);refine ad _ aN hm ?_;clear hm;intro w3 g11 hm)
       | ((with_reducible refine aa none (.store 32 (.tmp 11) (.tmp 21)) ?_);refine af 0 (spc ks b e) hm rfl rfl rfl 5 aJ rfl rfl (ba _ _ _) ?_;clear hm;intro w4 hm))
      refine am ?_
      refine ag (T:=fun W=>Mem w [] W [(g11,spc ks b e,32),(g9,pvv ks,42)]) (by kernel_rfl) hm ?_
      intro wc hbw hmw
      clear hm
      have hm:=hmw
      clear hbw hmw
      refine aT 0 (v:=.bool true) rfl (by kernel_rfl) rfl (fun W _=>by go_simp) hm ?_
      go_simp
      refine aT 1 (v:=.bool false) rfl (by kernel_rfl) rfl (fun W _=>by go_simp) hm ?_
      go_simp
      refine aT 2 (v:=.bool false) rfl (by kernel_rfl) rfl (fun W _=>by go_simp) hm ?_
      go_simp
      refine aG 3 (v:=.agg (pvv ks).toArray) rfl (by kernel_rfl) rfl (fun W hW=>ai 0 (pvv ks) (Mem.get hW 1 rfl) rfl _ aF rfl 2 ao (Nat.le_refl 2) rfl) hm ?_
      go_simp
      refine aO 4 (by kernel_rfl) rfl rfl ?_
      intro K hK
      go_wp2_with (go_at_call 15;refine (br _).mono ?_;rintro e w' ⟨he,hb⟩;subst he;replace hm:=hm.call hb;clear hb)
      refine hK _ _ hm ?_
      clear hK K
      go_simp
      refine aG 5 (v:=.bool false) rfl (by kernel_rfl) rfl (fun W _=>bJ (HKS.out ()) PlOk.nil false (HRT.out ()) rfl rfl) hm ?_
      go_simp
      refine aT 6 (v:=.bool false) rfl (by kernel_rfl) rfl (fun W _=>by go_simp) hm ?_
      go_simp
      refine aT 7 (v:=.bool false) rfl (by kernel_rfl) rfl (fun W _=>by go_simp) hm ?_
      go_simp
      refine wpAnyH_done (by kernel_rfl) ?_ _
      simp only [endsIn]
      go_wp2_with fail
      refine am ?_
      refine ag (T:=fun W=>Mem w [] W [(g11,spc ks b e,32),(g9,pvv ks,42)]) (by kernel_rfl) hm ?_
      intro wc hbw hmw
      clear hm
      have hm:=hmw
      clear hbw hmw
      refine aT 0 (v:=.agg (spc ks b e).toArray) rfl (by kernel_rfl) rfl (fun W hW=>ai 0 (spc ks b e) (Mem.get hW 0 rfl) rfl _ bj rfl 5 aJ (Nat.le_refl 5) rfl) hm ?_
      go_simp
      refine aT 1 (v:=.agg (spc ks b e).toArray) rfl (by kernel_rfl) rfl (fun W hW=>ai 0 (spc ks b e) (Mem.get hW 0 rfl) rfl _ bj rfl 5 aJ (Nat.le_refl 5) rfl) hm ?_
      go_simp
      refine aO 2 (by kernel_rfl) rfl rfl ?_
      intro K hK
      go_wp2_with (go_at_call 14;refine (HHD.out _).mono ?_;rintro e_ w' ⟨he_,hb_⟩;subst he_;replace hm:=hm.call hb_;clear hb_)
      refine hK _ _ hm ?_
      clear hK K
      go_simp
      refine aT 3 (v:=.bool (!true)) rfl (by kernel_rfl) rfl (fun W _=>bE ks ks b e hb he true (by simpa using HLM.out ()) rfl rfl) hm ?_
      go_simp
      refine aT 4 (v:=.bool (!true)) rfl (by kernel_rfl) rfl (fun W _=>by go_simp) hm ?_
      go_simp
      refine wpAnyH_done (by kernel_rfl) ?_ _
      simp only [endsIn]
      go_wp2_with (first
       | (clear tk2;go_at_call 18;refine (HH1.out _ hm.below).mono ?_;rintro e_ w' ⟨he_,hb_⟩;subst he_;replace hm:=hm.call hb_;clear hb_)
       | ((with_reducible refine aa (some 37) (.load 42 (.tmp 9)) ?_);refine ak 1 hm rfl rfl _ aF rfl 2 ao (by rfl) ?_)
       | ((with_reducible refine aa (some 41) (.load 42 (.tmp 9)) ?_);refine ak 1 hm rfl rfl _ aF rfl 2 ao (by rfl) ?_)
       | (go_at_call 19;refine (cM (HKS.out ()) _ (HM.out.below hm.below)).mono ?_;rintro e w' ⟨he,hb⟩;subst he;replace hm:=hm.call hb;clear hb)
       | (go_at_call 18;refine (HH2.out _ hm.below).mono ?_;rintro e_ w' ⟨he_,hb_⟩;subst he_;replace hm:=hm.call hb_;clear hb_)
       | ((with_reducible refine aa (some 48) (.load 9 (.tmp 47)) ?_);refine al 1 0 (.string y0) hm rfl rfl az HY0.out ?_)
       | (go_at_call 20;refine (HKD.out _ hm.below).mono ?_;rintro e_ w' ⟨p9,cap9,he_,hb_⟩;subst he_;replace hm:=hm.call hb_;clear hb_))
      go_ret
      exact ⟨rfl,(HR.out.below hm.below).mono (Nat.le_succ _),Upd.of_below hm.below⟩
     | true =>
      by_cases h2:2≤N
      ·have e1:e0=102:=by rw [HE1.out (),if_neg (by simp),if_neg (by simp),if_neg (by simp),if_pos h2]
       subst e1
       rw [if_neg (by omega)]
       have h2i:(2:Int)≤(N:Int):=by omega
       clear HE1 h2
       go_enter Tryd.func6,Tryd.ntmps6
       go_wp2_with (first
        | (go_at_call 16;refine (HPL.out _ (HM.out.below hm.below)).mono ?_;rintro e w' ⟨he,hb⟩;subst he;replace hm:=hm.call hb;clear hb)
        | ((with_reducible refine aa (some 9) (.alloc 42) ?_);refine ad _ aD hm ?_;clear hm;intro w1 g9 hm)
        | ((with_reducible refine aa none (.store 42 (.tmp 9) (.tmp 15)) ?_);refine af 0 (pvv ks) hm rfl rfl rfl 2 ao rfl rfl (aH _) ?_;clear hm;intro w2 hm)
        | ((with_reducible refine aa (some 17) (.load 42 (.tmp 9)) ?_);refine ak 0 hm rfl rfl _ aF rfl 2 ao (by rfl) ?_)
        | (go_at_call 17;refine (bZ (HKS.out ()) _ (HM.out.below hm.below)).mono ?_;rintro e w' ⟨he,hb⟩;subst he;replace hm:=hm.call hb;clear hb)
        | ((with_reducible refine aa (some 21) (.build 32 #[(0,.tmp 18),(1,.tmp 19),(2,.tmp 20)]) ?_);refine an (spc ks b e) [(0,.string (tx ks)),(1,.int .i64 b),(2,.int .i64 e)] rfl (bf ks b e) ?_)
        | ((with_reducible refine aa (some 11) (.alloc 32) ?_);refine ad _ aN hm ?_;clear hm;intro w3 g11 hm)
        | ((with_reducible refine aa none (.store 32 (.tmp 11) (.tmp 21)) ?_);refine af 0 (spc ks b e) hm rfl rfl rfl 5 aJ rfl rfl (ba _ _ _) ?_;clear hm;intro w4 hm))
       refine am ?_
       refine ag (T:=fun W=>Mem w [] W [(g11,spc ks b e,32),(g9,pvv ks,42)]) (by kernel_rfl) hm ?_
       intro wc hbw hmw
       clear hm
       have hm:=hmw
       clear hbw hmw
       refine aT 0 (v:=.bool true) rfl (by kernel_rfl) rfl (fun W _=>by go_simp) hm ?_
       go_simp
       refine aT 1 (v:=.bool false) rfl (by kernel_rfl) rfl (fun W _=>by go_simp) hm ?_
       go_simp
       refine aT 2 (v:=.bool false) rfl (by kernel_rfl) rfl (fun W _=>by go_simp) hm ?_
       go_simp
       refine aG 3 (v:=.agg (pvv ks).toArray) rfl (by kernel_rfl) rfl (fun W hW=>ai 0 (pvv ks) (Mem.get hW 1 rfl) rfl _ aF rfl 2 ao (Nat.le_refl 2) rfl) hm ?_
       go_simp
       refine aO 4 (by kernel_rfl) rfl rfl ?_
       intro K hK
       go_wp2_with (go_at_call 15;refine (br _).mono ?_;rintro e w' ⟨he,hb⟩;subst he;replace hm:=hm.call hb;clear hb)
       refine hK _ _ hm ?_
       clear hK K
       go_simp
       refine aG 5 (v:=.bool false) rfl (by kernel_rfl) rfl (fun W _=>bJ (HKS.out ()) PlOk.nil false (HRT.out ()) rfl rfl) hm ?_
       go_simp
       refine aT 6 (v:=.bool false) rfl (by kernel_rfl) rfl (fun W _=>by go_simp) hm ?_
       go_simp
       refine aT 7 (v:=.bool false) rfl (by kernel_rfl) rfl (fun W _=>by go_simp) hm ?_
       go_simp
       refine wpAnyH_done (by kernel_rfl) ?_ _
       simp only [endsIn]
       go_wp2_with fail
       refine am ?_
       refine ag (T:=fun W=>Mem w [] W [(g11,spc ks b e,32),(g9,pvv ks,42)]) (by kernel_rfl) hm ?_
       intro wc hbw hmw
       clear hm
       have hm:=hmw
       clear hbw hmw
       refine aT 0 (v:=.agg (spc ks b e).toArray) rfl (by kernel_rfl) rfl (fun W hW=>ai 0 (spc ks b e) (Mem.get hW 0 rfl) rfl _ bj rfl 5 aJ (Nat.le_refl 5) rfl) hm ?_
       go_simp
       refine aT 1 (v:=.agg (spc ks b e).toArray) rfl (by kernel_rfl) rfl (fun W hW=>ai 0 (spc ks b e) (Mem.get hW 0 rfl) rfl _ bj rfl 5 aJ (Nat.le_refl 5) rfl) hm ?_
       go_simp
       refine aO 2 (by kernel_rfl) rfl rfl ?_
       intro K hK
       go_wp2_with (go_at_call 14;refine (HHD.out _).mono ?_;rintro e_ w' ⟨he_,hb_⟩;subst he_;replace hm:=hm.call hb_;clear hb_)
       refine hK _ _ hm ?_
       clear hK K
       go_simp
       refine aT 3 (v:=.bool (!true)) rfl (by kernel_rfl) rfl (fun W _=>bE ks ks b e hb he true (by simpa using HLM.out ()) rfl rfl) hm ?_
       go_simp
       refine aT 4 (v:=.bool (!true)) rfl (by kernel_rfl) rfl (fun W _=>by go_simp) hm ?_
       go_simp
       refine wpAnyH_done (by kernel_rfl) ?_ _
       simp only [endsIn]
       go_wp2_with (first
        | (clear tk2;go_at_call 18;refine (HH1.out _ hm.below).mono ?_;rintro e_ w' ⟨he_,hb_⟩;subst he_;replace hm:=hm.call hb_;clear hb_)
        | ((with_reducible refine aa (some 37) (.load 42 (.tmp 9)) ?_);refine ak 1 hm rfl rfl _ aF rfl 2 ao (by rfl) ?_)
        | ((with_reducible refine aa (some 41) (.load 42 (.tmp 9)) ?_);refine ak 1 hm rfl rfl _ aF rfl 2 ao (by rfl) ?_)
        | (go_at_call 19;refine (cM (HKS.out ()) _ (HM.out.below hm.below)).mono ?_;rintro e w' ⟨he,hb⟩;subst he;replace hm:=hm.call hb;clear hb)
        | (go_at_call 18;refine (HH2.out _ hm.below).mono ?_;rintro e_ w' ⟨he_,hb_⟩;subst he_;replace hm:=hm.call hb_;clear hb_)
        | ((with_reducible refine aa (some 48) (.load 9 (.tmp 47)) ?_);refine al 1 0 (.string y0) hm rfl rfl az HY0.out ?_)
        | (go_at_call 20;refine (HKD.out _ hm.below).mono ?_;rintro e_ w' ⟨p9,cap9,he_,hb_⟩;subst he_;replace hm:=hm.call hb_;clear hb_))
       go_ret
       exact ⟨rfl,(HR.out.below hm.below).mono (Nat.le_succ _),Upd.of_below hm.below⟩
      ·have e1:e0=0:=by rw [HE1.out (),if_neg (by simp),if_neg (by simp),if_neg (by simp),if_neg h2]
       subst e1
       rw [if_pos rfl]
       have h2i:¬(2:Int)≤(N:Int):=by omega
       replace HHN:Hid (∀_:Unit,hasN p ks=false):=fun _=>HHN.out () rfl
       clear HE1 h2
       go_enter Tryd.func6,Tryd.ntmps6
       go_wp2_with (first
        | (go_at_call 16;refine (HPL.out _ (HM.out.below hm.below)).mono ?_;rintro e w' ⟨he,hb⟩;subst he;replace hm:=hm.call hb;clear hb)
        | ((with_reducible refine aa (some 9) (.alloc 42) ?_);refine ad _ aD hm ?_;clear hm;intro w1 g9 hm)
        | ((with_reducible refine aa none (.store 42 (.tmp 9) (.tmp 15)) ?_);refine af 0 (pvv ks) hm rfl rfl rfl 2 ao rfl rfl (aH _) ?_;clear hm;intro w2 hm)
        | ((with_reducible refine aa (some 17) (.load 42 (.tmp 9)) ?_);refine ak 0 hm rfl rfl _ aF rfl 2 ao (by rfl) ?_)
        | (go_at_call 17;refine (bZ (HKS.out ()) _ (HM.out.below hm.below)).mono ?_;rintro e w' ⟨he,hb⟩;subst he;replace hm:=hm.call hb;clear hb)
        | ((with_reducible refine aa (some 21) (.build 32 #[(0,.tmp 18),(1,.tmp 19),(2,.tmp 20)]) ?_);refine an (spc ks b e) [(0,.string (tx ks)),(1,.int .i64 b),(2,.int .i64 e)] rfl (bf ks b e) ?_)
        | ((with_reducible refine aa (some 11) (.alloc 32) ?_);refine ad _ aN hm ?_;clear hm;intro w3 g11 hm)
        | ((with_reducible refine aa none (.store 32 (.tmp 11) (.tmp 21)) ?_);refine af 0 (spc ks b e) hm rfl rfl rfl 5 aJ rfl rfl (ba _ _ _) ?_;clear hm;intro w4 hm))
       refine am ?_
       refine ag (T:=fun W=>Mem w [] W [(g11,spc ks b e,32),(g9,pvv ks,42)]) (by kernel_rfl) hm ?_
       intro wc hbw hmw
       clear hm
       have hm:=hmw
       clear hbw hmw
       refine aT 0 (v:=.bool true) rfl (by kernel_rfl) rfl (fun W _=>by go_simp) hm ?_
       go_simp
       refine aT 1 (v:=.bool false) rfl (by kernel_rfl) rfl (fun W _=>by go_simp) hm ?_
       go_simp
       refine aT 2 (v:=.bool false) rfl (by kernel_rfl) rfl (fun W _=>by go_simp) hm ?_
       go_simp
       refine aG 3 (v:=.agg (pvv ks).toArray) rfl (by kernel_rfl) rfl (fun W hW=>ai 0 (pvv ks) (Mem.get hW 1 rfl) rfl _ aF rfl 2 ao (Nat.le_refl 2) rfl) hm ?_
       go_simp
       refine aO 4 (by kernel_rfl) rfl rfl ?_
       intro K hK
       go_wp2_with (go_at_call 15;refine (br _).mono ?_;rintro e w' ⟨he,hb⟩;subst he;replace hm:=hm.call hb;clear hb)
       refine hK _ _ hm ?_
       clear hK K
       go_simp
       refine aG 5 (v:=.bool false) rfl (by kernel_rfl) rfl (fun W _=>bJ (HKS.out ()) PlOk.nil false (HRT.out ()) rfl rfl) hm ?_
       go_simp
       refine aT 6 (v:=.bool false) rfl (by kernel_rfl) rfl (fun W _=>by go_simp) hm ?_
       go_simp
       refine aT 7 (v:=.bool false) rfl (by kernel_rfl) rfl (fun W _=>by go_simp) hm ?_
       go_simp
       refine wpAnyH_done (by kernel_rfl) ?_ _
       simp only [endsIn]
       go_wp2_with fail
       refine am ?_
       refine ag (T:=fun W=>Mem w [] W [(g11,spc ks b e,32),(g9,pvv ks,42)]) (by kernel_rfl) hm ?_
       intro wc hbw hmw
       clear hm
       have hm:=hmw
       clear hbw hmw
       refine aT 0 (v:=.agg (spc ks b e).toArray) rfl (by kernel_rfl) rfl (fun W hW=>ai 0 (spc ks b e) (Mem.get hW 0 rfl) rfl _ bj rfl 5 aJ (Nat.le_refl 5) rfl) hm ?_
       go_simp
       refine aT 1 (v:=.agg (spc ks b e).toArray) rfl (by kernel_rfl) rfl (fun W hW=>ai 0 (spc ks b e) (Mem.get hW 0 rfl) rfl _ bj rfl 5 aJ (Nat.le_refl 5) rfl) hm ?_
       go_simp
       refine aO 2 (by kernel_rfl) rfl rfl ?_
       intro K hK
       go_wp2_with (go_at_call 14;refine (HHD.out _).mono ?_;rintro e_ w' ⟨he_,hb_⟩;subst he_;replace hm:=hm.call hb_;clear hb_)
       refine hK _ _ hm ?_
       clear hK K
       go_simp
       refine aT 3 (v:=.bool (!true)) rfl (by kernel_rfl) rfl (fun W _=>bE ks ks b e hb he true (by simpa using HLM.out ()) rfl rfl) hm ?_
       go_simp
       refine aT 4 (v:=.bool (!true)) rfl (by kernel_rfl) rfl (fun W _=>by go_simp) hm ?_
       go_simp
       refine wpAnyH_done (by kernel_rfl) ?_ _
       simp only [endsIn]
       go_wp2_with (first
        | (clear tk2;go_at_call 18;refine (HH1.out _ hm.below).mono ?_;rintro e_ w' ⟨he_,hb_⟩;subst he_;replace hm:=hm.call hb_;clear hb_)
        | ((with_reducible refine aa (some 37) (.load 42 (.tmp 9)) ?_);refine ak 1 hm rfl rfl _ aF rfl 2 ao (by rfl) ?_)
        | ((with_reducible refine aa (some 41) (.load 42 (.tmp 9)) ?_);refine ak 1 hm rfl rfl _ aF rfl 2 ao (by rfl) ?_)
        | (go_at_call 19;refine (cM (HKS.out ()) _ (HM.out.below hm.below)).mono ?_;rintro e w' ⟨he,hb⟩;subst he;replace hm:=hm.call hb;clear hb)
        | (go_at_call 18;refine (HH2.out _ hm.below).mono ?_;rintro e_ w' ⟨he_,hb_⟩;subst he_;replace hm:=hm.call hb_;clear hb_)
        | ((with_reducible refine aa (some 48) (.load 9 (.tmp 47)) ?_);refine al 1 0 (.string y0) hm rfl rfl az HY0.out ?_)
        | (go_at_call 20;refine (HKD.out _ hm.below).mono ?_;rintro e_ w' ⟨p9,cap9,he_,hb_⟩;subst he_;replace hm:=hm.call hb_;clear hb_))
       refine am ?_
       refine ag (T:=fun W=>Row W nb [.map (some m)] 48∧Row W g9 (pvv ks) 42∧Row W g11 (spc ks b e) 32) (by kernel_rfl) hm ?_
       intro wc hbw hmw
       clear hm hbw
       have hm:=hmw
       clear hmw
       have HC9:=HR.out.below hm.below
       have HT:Hid (Row wc nb [.map (some m)] 48∧Row wc g9 (pvv ks) 42∧Row wc g11 (spc ks b e) 32):=⟨HC9.row,hm.get 1 rfl,hm.get 0 rfl⟩
       obtain ⟨q9,hq9,km9⟩:=HC9.map
       obtain ⟨es9,c9,hmap9⟩:=km9.isMap
       have hne1:nb≠m:=aq HT.out.1 hmap9
       have hne2:g9≠m:=aq HT.out.2.1 hmap9
       have hne3:g11≠m:=aq HT.out.2.2 hmap9
       have HQ9:Hid (q9≤c):=hq9
       have HKM9:Hid (KM Tryd.prog 42 wc m q9 (NmK p)):=km9
       obtain ⟨kl9,hkl9⟩:=cD (HKS.out ())
       have HKL9:Hid (keyOf Tryd.prog 42 (.agg (pvv ks).toArray)=some kl9):=hkl9
       clear HC9 hq9 km9 hmap9 hkl9
       refine aT 0 (v:=.pointer (some ⟨nb,0,none⟩)) rfl (by kernel_rfl) rfl (fun W _=>by go_simp) HT.out ?_
       go_simp
       refine aT 1 (v:=.pointer (some ⟨nb,0,none⟩)) rfl (by kernel_rfl) rfl (fun W _=>by go_simp) HT.out ?_
       go_simp
       refine aT 2 (v:=.pointer (some ⟨nb,0,none⟩)) rfl (by kernel_rfl) rfl (fun W _=>by go_simp) HT.out ?_
       go_simp
       refine aT 3 (v:=.map (some m)) rfl (by kernel_rfl) rfl (fun W hW=>ae 0 (.map (some m)) hW.1 rfl bR rfl) HT.out ?_
       go_simp
       refine aT 4 (v:=.agg (pvv ks).toArray) rfl (by kernel_rfl) rfl (fun W hW=>ai 0 (pvv ks) hW.2.1 rfl _ aF rfl 2 ao (Nat.le_refl 2) rfl) HT.out ?_
       go_simp
       refine aT 5 (v:=.agg (spc ks b e).toArray) rfl (by kernel_rfl) rfl (fun W hW=>ai 0 (spc ks b e) hW.2.2 rfl _ bj rfl 5 aJ (Nat.le_refl 5) rfl) HT.out ?_
       go_simp
       refine aT 6 (v:=.agg (spwz ks b e).toArray) rfl (by kernel_rfl) rfl (fun W _=>bD _ [(0,.agg (spc ks b e).toArray)] (by go_simp) (built_sw ks b e)) HT.out ?_
       go_simp
       refine aO 7 (by kernel_rfl) rfl rfl ?_
       intro K hK
       refine cC HKM9.out ax bp (by have:=HQ9.out;omega) HKL9.out rfl rfl rfl ?_
       intro w9 km8 hu9
       have HKM8:Hid (KM Tryd.prog 42 w9 m (q9+1) (putK (NmK p) (.agg (pvv ks).toArray) (.agg (spwz ks b e).toArray))):=km8
       have HU9:Hid (Upd m wc w9):=hu9
       have HT9:Hid (Row w9 nb [.map (some m)] 48∧Row w9 g9 (pvv ks) 42∧Row w9 g11 (spc ks b e) 32):=⟨hu9.row HT.out.1 hne1,hu9.row HT.out.2.1 hne2,hu9.row HT.out.2.2 hne3⟩
       clear km8 hu9
       refine wpList_nil ?_
       refine hK _ _ HT9.out ?_
       clear hK K
       go_simp
       refine wpAnyH_done (by kernel_rfl) ?_ _
       simp only [endsIn]
       go_wp2_with fail
       go_ret
       exact ⟨rfl,⟨HT9.out.1,⟨q9+1,by have:=HQ9.out;omega,HKM8.out.same (nmK_add (x:=(ks,b,e,0,0,0,0)) HOK.out (HKS.out ()) (HHN.out ()))⟩,HOK.out.add (x:=(ks,b,e,0,0,0,0)) (HKS.out ()) (HHN.out ())⟩,(Upd.of_below hm.below).trans HU9.out⟩
open Go Go.RowKit Go.Maps
theorem add_k {w:World} {nb m c:Nat} {p:Nms} (h:NmAt w nb m c p) (hcc:c≤80000) (s:ByteArray) (hs:s.size≤1000) (hM:MaxL w) (b e e0:Int) (p':Nms) (he:addE p s b e=e0) (hp:(if e0=0 then addN p (segsB s,b,e,0,0,0,0) else p)=p') :
  Calls Tryd.prog 6 #[.pointer (some ⟨nb,0,none⟩),.string s,.int .i64 b,.int .i64 e] w fun e_ w'=>e_=.returned (.int .i64 e0)∧NmAt w' nb m (c+1) p'∧Upd m w w':=by
 rw [←hp]
 exact add_n h hcc s hs hM b e e0 he.symm
theorem get_k {w:World} {nb m c:Nat} {p:Nms} (h:NmAt w nb m c p) (s:ByteArray) (hs:s.size≤1000) (hM:MaxL w) (V:List Value) (b:Bool) (hV:getV p s=V) (hb:getB p s=b) :
  Calls Tryd.prog 10 #[.pointer (some ⟨nb,0,none⟩),.string s] w fun e w'=>e=.returned (.tuple #[.agg V.toArray,.bool b])∧Below w.heap.size w w':=by
 rw [←hV,←hb]
 exact get_n h s hs hM
theorem MaxL.upd0 {w w':World} {m:Nat} (h:MaxL w) (hm:0<m) (hu:Upd m w w'):MaxL w':=h.at0 (hu.block 0 h.lt0 (by omega))
theorem kids_new (a b:Int) (s:ByteArray):kidsN (newN a b) s=[]:=by simp [kidsN,newN]
open Go Go.RowKit Go.Maps
structure TrOk (p:Nms):Prop where
 ok:NmOk p
 root:∃x t,p=x::t∧x.1=[]
 par:∀x∈p,x.1≠[]→hasN p x.1.dropLast=true
 kids:∀s,(kidsN p s).length≤2
theorem TrOk.new (b e:Int):TrOk (newN b e) :=
 ⟨NmOk.new b e,⟨_,[],rfl,rfl⟩,fun x hx h0=>absurd (by rw [List.mem_singleton.1 hx]) h0,fun s=>by rw [kids_new];simp⟩
theorem add_perm (p:Nms) (x:Sp):(addN p x).Perm (x::p):=by
 unfold addN
 refine (List.perm_middle).trans (List.Perm.cons x ?_)
 exact List.filter_append_perm (fun y:Sp=>decide (cd y.1<cd x.1)) p
theorem kids_add (p:Nms) (x:Sp) (s:ByteArray):(kidsN (addN p x) s).length=(kidsN p s).length+if tx x.1.dropLast=s∧x.1≠[] then 1 else 0:=by
 unfold kidsN
 rw [List.length_map,List.length_map,((add_perm p x).filter _).length_eq,List.filter_cons]
 by_cases h:tx x.1.dropLast=s∧x.1≠[]
 ·rw [if_pos h,if_pos (by rw [decide_eq_true h.1,decide_eq_false h.2];rfl),List.length_cons]
 ·rw [if_neg h,if_neg (fun h2=>h (by
   rw [Bool.and_eq_true,decide_eq_true_eq,Bool.not_eq_true',decide_eq_false_iff_not] at h2
   exact h2))]
  rfl
theorem addE_ok {p:Nms} {s:ByteArray} {b e:Int} (h:addE p s b e=0):isP (bs s)=true∧segsB s≠[]∧limOk b e=true∧hasN p (segsB s)=false∧hasN p (segsB s).dropLast=true∧(kidsN p (tx (segsB s).dropLast)).length<2:=by
 unfold addE at h
 split at h
 ·omega
 ·next h1 =>
  split at h
  ·omega
  ·next h2 =>
   split at h
   ·omega
   ·next h3 =>
    split at h
    ·omega
    ·next h4 =>
     split at h
     ·omega
     ·next h5 =>
      split at h
      ·omega
      ·next h6=>exact ⟨by simpa using h1,h2,by simpa using h3,by simpa using h4,by simpa using h5,by omega⟩
theorem cd_nil:cd []=[]:=rfl
theorem cd_pos {ks:List ByteArray} (h0:ks≠[]):cd []<cd ks:=by
 rw [cd_nil,cd_last h0]
 cases hc:codeOf (ks.dropLast.map bs)++(bs (lastS ks)++[0]) with
 | nil=>exact absurd hc (by simp)
 | cons a l=>exact List.nil_lt_cons a l
theorem TrOk.add {p:Nms} (h:TrOk p) {s:ByteArray} {b e:Int} (he:addE p s b e=0):TrOk (addN p (segsB s,b,e,0,0,0,0)):=by
 obtain ⟨h1,h2,h3,h4,h5,h6⟩:=addE_ok he
 have hmono:∀ks,hasN p ks=true→hasN (addN p (segsB s,b,e,0,0,0,0)) ks=true:=fun ks hk=>by
  obtain ⟨y,hy,e⟩:=ar.1 hk
  exact ar.2 ⟨y,bu.2 (Or.inr hy),e⟩
 refine ⟨h.ok.add (x:=(segsB s,b,e,0,0,0,0)) (a8 s) h4,?_,fun x hx h0=>?_,fun q=>?_⟩
 ·obtain ⟨r,t,hp,hr⟩:=h.root
  unfold addN
  rw [hp,List.filter_cons,if_pos (by rw [hr];exact decide_eq_true (cd_pos h2))]
  exact ⟨r,_,rfl,hr⟩
 ·rcases bu.1 hx with rfl|hx
  ·exact hmono _ h5
  ·exact hmono _ (h.par x hx h0)
 ·rw [kids_add]
  have:=h.kids q
  by_cases hq:tx (segsB s).dropLast=q∧segsB s≠[]
  ·rw [if_pos hq]
   rw [hq.1] at h6
   omega
  ·rw [if_neg hq]
   omega
theorem TrOk.del {p:Nms} (h:TrOk p) {ks:List ByteArray} (h0:ks≠[]):TrOk (delN p ks):=by
 refine ⟨h.ok.del ks,?_,fun x hx hx0=>?_,fun s=>?_⟩
 ·obtain ⟨r,t,hp,hr⟩:=h.root
  unfold delN
  rw [hp,List.filter_cons,if_pos (by
   rw [Bool.not_eq_true',hr]
   cases hu:undB [] ks with
   | false=>rfl
   | true =>
    have:=aA.1 hu
    exact absurd (List.prefix_nil.1 this) h0)]
  exact ⟨r,_,rfl,hr⟩
 ·obtain ⟨x1,x2⟩:=List.mem_filter.1 hx
  obtain ⟨y,hy,e⟩:=ar.1 (h.par x x1 hx0)
  refine ar.2 ⟨y,List.mem_filter.2 ⟨hy,?_⟩,e⟩
  rw [Bool.not_eq_true'] at x2 ⊢
  cases hu:undB y.1 ks with
  | false=>rfl
  | true =>
   rw [e] at hu
   have h1:=aA.1 hu
   have h2:undB x.1 ks=true:=aA.2 (h1.trans (List.dropLast_prefix x.1))
   rw [h2] at x2;cases x2
 ·refine Nat.le_trans ?_ (h.kids s)
  unfold kidsN delN
  rw [List.length_map,List.length_map]
  exact (List.Sublist.filter _ List.filter_sublist).length_le
theorem TrOk.at {p:Nms} (h:TrOk p) {k:Nat} {x:Sp} (hx:p[k+1]?=some x):x.1≠[]:=by
 obtain ⟨r,t,hp,hr⟩:=h.root
 have hs:=h.ok.srt
 rw [hp] at hs hx
 rw [List.getElem?_cons_succ] at hx
 have:=(List.pairwise_cons.1 hs).1 x (List.mem_of_getElem? hx)
 intro e
 rw [hr,e] at this
 exact List.lt_irrefl _ this
theorem TrOk.next {p:Nms} (h:TrOk p) {k:Nat} {x y:Sp} (hx:p[k]?=some x) (hy:p[k+1]?=some y):cd x.1<cd y.1:=by
 have hk:k+1<p.length:=(List.getElem?_eq_some_iff.1 hy).1
 have h1:=List.pairwise_iff_getElem.1 h.ok.srt k (k+1) (by omega) hk (by omega)
 have e1:p[k]=x:=(List.getElem?_eq_some_iff.1 hx).2
 have e2:p[k+1]=y:=(List.getElem?_eq_some_iff.1 hy).2
 rwa [e1,e2] at h1
theorem TrOk.pos {p:Nms} (h:TrOk p):0<p.length:=by
 obtain ⟨r,t,hp,_⟩:=h.root
 rw [hp];simp
theorem par_tx {ks:List ByteArray} (h:PlOk ks) (h0:ks≠[]):parOk (bs (tx ks))=true∧mkS (parOf (bs (tx ks)))=tx ks.dropLast:=by
 have hs:segsOf (bs (tx ks))=ks.map bs:=by rw [bs_tx,(isP_jn h.to).2]
 obtain ⟨h1,h2⟩:=parOk_yes (isP_tx h) (by rw [hs];simpa using h0)
 refine ⟨h1,?_⟩
 rw [h2,hs,←List.map_dropLast]
 rfl
end Go.Proofs.YtdmohffogfbnbaaDoor
