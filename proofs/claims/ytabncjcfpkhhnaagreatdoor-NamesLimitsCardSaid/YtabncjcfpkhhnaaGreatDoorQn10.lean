import Derived.Test.YtabncjcfpkhhnaaGreatDoorQn09
set_option maxRecDepth 100000
set_option maxHeartbeats 4000000
namespace Go.Proofs.YtabncjcfpkhhnaaGreatDoor
open Go Go.RowKit Go.Maps
theorem nlimits_walk (a b c d:Int) (w:World) (hM:MaxL w):Calls Tryz.prog 6 #[.int .i64 a,.int .i64 b,.int .i64 c,.int .i64 d] w fun e w'=>e=.returned (.bool true)∧Below w.heap.size w w':=by
 have hm:=Mem.start w
 have HM:Hid (MaxL w):=hM
 clear hM
 by_cases h1:0≤c
 ·by_cases h2:c≤1000000
  ·by_cases h3:0≤d
   ·by_cases h4:d≤1000000
    ·have HE:Hid (∀_:Unit,addE (newN a b) ⟨#[120]⟩ c d=0):=fun _=>by rw [addE_x];unfold limOk;simp;omega
     have tk1:Nat:=0
     go_enter Tryz.func6,Tryz.ntmps6
     go_wp2_with (first
      | (go_at_call 7;refine (aI _ (HM.out.below hm.below)).mono ?_;rintro e w1 ⟨he,hb⟩;subst he;replace hm:=hm.call hb;clear hb)
      | (go_at_call 8;refine (ce (a) (b) _).mono ?_;rintro e w2 ⟨nb,m,he,hwn,hwm,hn,hb⟩;subst he;have HB:Hid (Below w.heap.size w w2):=hm.below.trans (hb.mono hm.size);replace hwm:w.heap.size≤m:=Nat.le_trans hm.size hwm;have hm0:0<m:=Nat.lt_of_lt_of_le HM.out.lt0 hwm;have HN:Hid (NmAt w2 nb m 1 (newN (a) (b))):=hn;have HM2:Hid (MaxL w2):=HM.out.below HB.out;clear hm;have hm:=Mem.start w2;clear hn hb hwn)
      | (clear tk1;go_at_call 15;refine (bL (HN.out.below hm.below) ⟨#[]⟩ (by decide) (HM2.out.below hm.below) _ _ (be a b).1 (be a b).2).mono ?_;rintro e w' ⟨he,hb⟩;subst he;replace hm:=hm.call hb;clear hb)
      | ((with_reducible refine aa (some 10) (.alloc 40) ?_);refine ad _ ay hm ?_;clear hm;intro w3 g10 hm)
      | ((with_reducible refine aa none (.store 40 (.tmp 10) (.tmp 25)) ?_);refine ae 0 (spc [] (heldI a) (heldI b)) hm rfl rfl rfl 5 ax rfl rfl (az _ _ _) ?_;clear hm;intro w4 hm)
      | ((with_reducible refine aa (some 33) (.build 59 #[(0,.tmp 29),(1,.tmp 32)]) ?_);refine ao [Value.int .i64 (heldI a),.int .i64 (heldI b)] [(0,.int .i64 (heldI a)),(1,.int .i64 (heldI b))] rfl (bO _ _) ?_)
      | ((with_reducible refine aa (some 12) (.alloc 59) ?_);refine ad _ cj hm ?_;clear hm;intro w5 g12 hm)
      | ((with_reducible refine aa none (.store 59 (.tmp 12) (.tmp 33)) ?_);refine ae 0 [Value.int .i64 (heldI a),.int .i64 (heldI b)] hm rfl rfl rfl 2 sz_i2 rfl rfl (cf _ _) ?_;clear hm;intro w6 hm)
      | (go_at_call 10;refine (aJ (HN.out.below hm.below) (by omega) ⟨#[120]⟩ (by decide) (HM2.out.below hm.below) c d 0 (addN (newN a b) (segsB ⟨#[120]⟩,c,d,0,0,0,0)) (HE.out ()) rfl).mono ?_;rintro e w7 ⟨he,hn,hu⟩;subst he;obtain ⟨es,cc,hes⟩:=(HN.out.below hm.below).isMap;replace hm:=(hm.weak (S:=[m])).updO hes (Or.inl (by simp)) hu;replace HN:Hid (NmAt w7 nb m 2 (addN (newN a b) (segsB ⟨#[120]⟩,c,d,0,0,0,0))):=hn;have HM7:Hid (MaxL w7):=HM2.out.upd0 hm0 hm.toUpd;clear hn hu hes es cc)
      | (go_at_call 15;refine (bL HN.out ⟨#[120]⟩ (by decide) HM7.out _ _ (get_x a b c d).1 (get_x a b c d).2).mono ?_;rintro e w' ⟨he,hb⟩;subst he;replace hm:=hm.call hb;clear hb)
      | ((with_reducible refine aa (some 15) (.alloc 40) ?_);refine ad _ ay hm ?_;clear hm;intro w8 g15 hm)
      | ((with_reducible refine aa none (.store 40 (.tmp 15) (.tmp 55)) ?_);refine ae 0 (spc [⟨#[120]⟩] c d) hm rfl rfl rfl 5 ax rfl rfl (az _ _ _) ?_;clear hm;intro w9 hm)
      | ((with_reducible refine aj (some 60) (.load 3 (.tmp 59)) (some (1,true)) ?_);go_must (refine ab (.int .i64 (heldI a)) rfl (af 1 (.int .i64 (heldI a)) (hm.get 2 rfl) rfl au (rfl)) ?_))
      | ((with_reducible refine aj (some 62) (.load 3 (.tmp 61)) (some (1,true)) ?_);go_must (refine ab (.int .i64 (heldI a)) rfl (af 0 (.int .i64 (heldI a)) (hm.get 1 rfl) rfl au (rfl)) ?_))
      | ((with_reducible refine aj (some 67) (.load 3 (.tmp 66)) (some (8,true)) ?_);go_must (refine ab (.int .i64 (heldI b)) rfl (af 2 (.int .i64 (heldI b)) (hm.get 2 rfl) rfl au (rfl)) ?_))
      | ((with_reducible refine aj (some 69) (.load 3 (.tmp 68)) (some (8,true)) ?_);go_must (refine ab (.int .i64 (heldI b)) rfl (af 1 (.int .i64 (heldI b)) (hm.get 1 rfl) rfl au (rfl)) ?_))
      | ((with_reducible refine aj (some 74) (.load 3 (.tmp 73)) (some (15,true)) ?_);go_must (refine ab (.int .i64 0) rfl (af 3 (.int .i64 0) (hm.get 2 rfl) rfl au (rfl)) ?_))
      | ((with_reducible refine aj (some 93) (.load 3 (.tmp 92)) (some (34,false)) ?_);go_must (refine ab (.int .i64 c) rfl (af 1 (.int .i64 c) (hm.get 0 rfl) rfl au (rfl)) ?_))
      | ((with_reducible refine aj (some 98) (.load 3 (.tmp 97)) (some (39,true)) ?_);go_must (refine ab (.int .i64 d) rfl (af 2 (.int .i64 d) (hm.get 0 rfl) rfl au (rfl)) ?_))
      | ((with_reducible refine aj (some 104) (.load 3 (.tmp 103)) (some (45,true)) ?_);go_must (refine ab (.int .i64 0) rfl (af 3 (.int .i64 0) (hm.get 0 rfl) rfl au (rfl)) ?_))
      | ((with_reducible refine aj (some 109) (.load 3 (.tmp 108)) (some (50,true)) ?_);go_must (refine ab (.int .i64 0) rfl (af 4 (.int .i64 0) (hm.get 0 rfl) rfl au (rfl)) ?_))
      | ((with_reducible refine aj (some 114) (.load 9 (.tmp 113)) (some (55,true)) ?_);go_must (refine ab (.string ⟨#[120]⟩) rfl (af 0 (.string ⟨#[120]⟩) (hm.get 0 rfl) rfl aq (congrArg (fun z=>some (Value.string z)) tx_x)) ?_))
      | ((with_reducible refine aj (some 115) (.binOp .eql 9 (.tmp 114) (.const (.string {data:=#[120]})) 9) (some (55,true)) ?_);go_must (refine ab (.bool true) rfl (aR ⟨#[120]⟩ ⟨#[120]⟩ true rfl rfl (bD _)) ?_)))
     go_ret
     exact ⟨rfl,aA HB.out hm.toUpd hwm HB.out.size⟩
    ·have HE:Hid (∀_:Unit,addE (newN a b) ⟨#[120]⟩ c d=12):=fun _=>by rw [addE_x];unfold limOk;simp;omega
     have tk1:Nat:=0
     go_enter Tryz.func6,Tryz.ntmps6
     go_wp2_with (first
      | (go_at_call 7;refine (aI _ (HM.out.below hm.below)).mono ?_;rintro e w1 ⟨he,hb⟩;subst he;replace hm:=hm.call hb;clear hb)
      | (go_at_call 8;refine (ce (a) (b) _).mono ?_;rintro e w2 ⟨nb,m,he,hwn,hwm,hn,hb⟩;subst he;have HB:Hid (Below w.heap.size w w2):=hm.below.trans (hb.mono hm.size);replace hwm:w.heap.size≤m:=Nat.le_trans hm.size hwm;have hm0:0<m:=Nat.lt_of_lt_of_le HM.out.lt0 hwm;have HN:Hid (NmAt w2 nb m 1 (newN (a) (b))):=hn;have HM2:Hid (MaxL w2):=HM.out.below HB.out;clear hm;have hm:=Mem.start w2;clear hn hb hwn)
      | (clear tk1;go_at_call 15;refine (bL (HN.out.below hm.below) ⟨#[]⟩ (by decide) (HM2.out.below hm.below) _ _ (be a b).1 (be a b).2).mono ?_;rintro e w' ⟨he,hb⟩;subst he;replace hm:=hm.call hb;clear hb)
      | ((with_reducible refine aa (some 10) (.alloc 40) ?_);refine ad _ ay hm ?_;clear hm;intro w3 g10 hm)
      | ((with_reducible refine aa none (.store 40 (.tmp 10) (.tmp 25)) ?_);refine ae 0 (spc [] (heldI a) (heldI b)) hm rfl rfl rfl 5 ax rfl rfl (az _ _ _) ?_;clear hm;intro w4 hm)
      | ((with_reducible refine aa (some 33) (.build 59 #[(0,.tmp 29),(1,.tmp 32)]) ?_);refine ao [Value.int .i64 (heldI a),.int .i64 (heldI b)] [(0,.int .i64 (heldI a)),(1,.int .i64 (heldI b))] rfl (bO _ _) ?_)
      | ((with_reducible refine aa (some 12) (.alloc 59) ?_);refine ad _ cj hm ?_;clear hm;intro w5 g12 hm)
      | ((with_reducible refine aa none (.store 59 (.tmp 12) (.tmp 33)) ?_);refine ae 0 [Value.int .i64 (heldI a),.int .i64 (heldI b)] hm rfl rfl rfl 2 sz_i2 rfl rfl (cf _ _) ?_;clear hm;intro w6 hm)
      | (go_at_call 10;refine (aJ (HN.out.below hm.below) (by omega) ⟨#[120]⟩ (by decide) (HM2.out.below hm.below) c d 12 (newN a b) (HE.out ()) rfl).mono ?_;rintro e w7 ⟨he,hn,hu⟩;subst he;obtain ⟨es,cc,hes⟩:=(HN.out.below hm.below).isMap;replace hm:=(hm.weak (S:=[m])).updO hes (Or.inl (by simp)) hu;replace HN:Hid (NmAt w7 nb m 2 (newN a b)):=hn;have HM7:Hid (MaxL w7):=HM2.out.upd0 hm0 hm.toUpd;clear hn hu hes es cc)
      | (go_at_call 15;refine (bL HN.out ⟨#[120]⟩ (by decide) HM7.out _ _ (bP a b).1 (bP a b).2).mono ?_;rintro e w' ⟨he,hb⟩;subst he;replace hm:=hm.call hb;clear hb)
      | ((with_reducible refine aa (some 15) (.alloc 40) ?_);refine ad _ ay hm ?_;clear hm;intro w8 g15 hm)
      | ((with_reducible refine aa none (.store 40 (.tmp 15) (.tmp 55)) ?_);refine ae 0 (spZ) hm rfl rfl rfl 5 ax rfl rfl (az [] 0 0) ?_;clear hm;intro w9 hm)
      | ((with_reducible refine aj (some 60) (.load 3 (.tmp 59)) (some (1,true)) ?_);go_must (refine ab (.int .i64 (heldI a)) rfl (af 1 (.int .i64 (heldI a)) (hm.get 2 rfl) rfl au (rfl)) ?_))
      | ((with_reducible refine aj (some 62) (.load 3 (.tmp 61)) (some (1,true)) ?_);go_must (refine ab (.int .i64 (heldI a)) rfl (af 0 (.int .i64 (heldI a)) (hm.get 1 rfl) rfl au (rfl)) ?_))
      | ((with_reducible refine aj (some 67) (.load 3 (.tmp 66)) (some (8,true)) ?_);go_must (refine ab (.int .i64 (heldI b)) rfl (af 2 (.int .i64 (heldI b)) (hm.get 2 rfl) rfl au (rfl)) ?_))
      | ((with_reducible refine aj (some 69) (.load 3 (.tmp 68)) (some (8,true)) ?_);go_must (refine ab (.int .i64 (heldI b)) rfl (af 1 (.int .i64 (heldI b)) (hm.get 1 rfl) rfl au (rfl)) ?_))
      | ((with_reducible refine aj (some 74) (.load 3 (.tmp 73)) (some (15,true)) ?_);go_must (refine ab (.int .i64 0) rfl (af 3 (.int .i64 0) (hm.get 2 rfl) rfl au (rfl)) ?_)))
     go_ret
     exact ⟨rfl,aA HB.out hm.toUpd hwm HB.out.size⟩
   ·have HE:Hid (∀_:Unit,addE (newN a b) ⟨#[120]⟩ c d=12):=fun _=>by rw [addE_x];unfold limOk;simp;omega
    have tk1:Nat:=0
    go_enter Tryz.func6,Tryz.ntmps6
    go_wp2_with (first
     | (go_at_call 7;refine (aI _ (HM.out.below hm.below)).mono ?_;rintro e w1 ⟨he,hb⟩;subst he;replace hm:=hm.call hb;clear hb)
     | (go_at_call 8;refine (ce (a) (b) _).mono ?_;rintro e w2 ⟨nb,m,he,hwn,hwm,hn,hb⟩;subst he;have HB:Hid (Below w.heap.size w w2):=hm.below.trans (hb.mono hm.size);replace hwm:w.heap.size≤m:=Nat.le_trans hm.size hwm;have hm0:0<m:=Nat.lt_of_lt_of_le HM.out.lt0 hwm;have HN:Hid (NmAt w2 nb m 1 (newN (a) (b))):=hn;have HM2:Hid (MaxL w2):=HM.out.below HB.out;clear hm;have hm:=Mem.start w2;clear hn hb hwn)
     | (clear tk1;go_at_call 15;refine (bL (HN.out.below hm.below) ⟨#[]⟩ (by decide) (HM2.out.below hm.below) _ _ (be a b).1 (be a b).2).mono ?_;rintro e w' ⟨he,hb⟩;subst he;replace hm:=hm.call hb;clear hb)
     | ((with_reducible refine aa (some 10) (.alloc 40) ?_);refine ad _ ay hm ?_;clear hm;intro w3 g10 hm)
     | ((with_reducible refine aa none (.store 40 (.tmp 10) (.tmp 25)) ?_);refine ae 0 (spc [] (heldI a) (heldI b)) hm rfl rfl rfl 5 ax rfl rfl (az _ _ _) ?_;clear hm;intro w4 hm)
     | ((with_reducible refine aa (some 33) (.build 59 #[(0,.tmp 29),(1,.tmp 32)]) ?_);refine ao [Value.int .i64 (heldI a),.int .i64 (heldI b)] [(0,.int .i64 (heldI a)),(1,.int .i64 (heldI b))] rfl (bO _ _) ?_)
     | ((with_reducible refine aa (some 12) (.alloc 59) ?_);refine ad _ cj hm ?_;clear hm;intro w5 g12 hm)
     | ((with_reducible refine aa none (.store 59 (.tmp 12) (.tmp 33)) ?_);refine ae 0 [Value.int .i64 (heldI a),.int .i64 (heldI b)] hm rfl rfl rfl 2 sz_i2 rfl rfl (cf _ _) ?_;clear hm;intro w6 hm)
     | (go_at_call 10;refine (aJ (HN.out.below hm.below) (by omega) ⟨#[120]⟩ (by decide) (HM2.out.below hm.below) c d 12 (newN a b) (HE.out ()) rfl).mono ?_;rintro e w7 ⟨he,hn,hu⟩;subst he;obtain ⟨es,cc,hes⟩:=(HN.out.below hm.below).isMap;replace hm:=(hm.weak (S:=[m])).updO hes (Or.inl (by simp)) hu;replace HN:Hid (NmAt w7 nb m 2 (newN a b)):=hn;have HM7:Hid (MaxL w7):=HM2.out.upd0 hm0 hm.toUpd;clear hn hu hes es cc)
     | (go_at_call 15;refine (bL HN.out ⟨#[120]⟩ (by decide) HM7.out _ _ (bP a b).1 (bP a b).2).mono ?_;rintro e w' ⟨he,hb⟩;subst he;replace hm:=hm.call hb;clear hb)
     | ((with_reducible refine aa (some 15) (.alloc 40) ?_);refine ad _ ay hm ?_;clear hm;intro w8 g15 hm)
     | ((with_reducible refine aa none (.store 40 (.tmp 15) (.tmp 55)) ?_);refine ae 0 (spZ) hm rfl rfl rfl 5 ax rfl rfl (az [] 0 0) ?_;clear hm;intro w9 hm)
     | ((with_reducible refine aj (some 60) (.load 3 (.tmp 59)) (some (1,true)) ?_);go_must (refine ab (.int .i64 (heldI a)) rfl (af 1 (.int .i64 (heldI a)) (hm.get 2 rfl) rfl au (rfl)) ?_))
     | ((with_reducible refine aj (some 62) (.load 3 (.tmp 61)) (some (1,true)) ?_);go_must (refine ab (.int .i64 (heldI a)) rfl (af 0 (.int .i64 (heldI a)) (hm.get 1 rfl) rfl au (rfl)) ?_))
     | ((with_reducible refine aj (some 67) (.load 3 (.tmp 66)) (some (8,true)) ?_);go_must (refine ab (.int .i64 (heldI b)) rfl (af 2 (.int .i64 (heldI b)) (hm.get 2 rfl) rfl au (rfl)) ?_))
     | ((with_reducible refine aj (some 69) (.load 3 (.tmp 68)) (some (8,true)) ?_);go_must (refine ab (.int .i64 (heldI b)) rfl (af 1 (.int .i64 (heldI b)) (hm.get 1 rfl) rfl au (rfl)) ?_))
     | ((with_reducible refine aj (some 74) (.load 3 (.tmp 73)) (some (15,true)) ?_);go_must (refine ab (.int .i64 0) rfl (af 3 (.int .i64 0) (hm.get 2 rfl) rfl au (rfl)) ?_)))
    go_ret
    exact ⟨rfl,aA HB.out hm.toUpd hwm HB.out.size⟩
  ·have HE:Hid (∀_:Unit,addE (newN a b) ⟨#[120]⟩ c d=12):=fun _=>by rw [addE_x];unfold limOk;simp;omega
   have tk1:Nat:=0
   go_enter Tryz.func6,Tryz.ntmps6
   go_wp2_with (first
    | (go_at_call 7;refine (aI _ (HM.out.below hm.below)).mono ?_;rintro e w1 ⟨he,hb⟩;subst he;replace hm:=hm.call hb;clear hb)
    | (go_at_call 8;refine (ce (a) (b) _).mono ?_;rintro e w2 ⟨nb,m,he,hwn,hwm,hn,hb⟩;subst he;have HB:Hid (Below w.heap.size w w2):=hm.below.trans (hb.mono hm.size);replace hwm:w.heap.size≤m:=Nat.le_trans hm.size hwm;have hm0:0<m:=Nat.lt_of_lt_of_le HM.out.lt0 hwm;have HN:Hid (NmAt w2 nb m 1 (newN (a) (b))):=hn;have HM2:Hid (MaxL w2):=HM.out.below HB.out;clear hm;have hm:=Mem.start w2;clear hn hb hwn)
    | (clear tk1;go_at_call 15;refine (bL (HN.out.below hm.below) ⟨#[]⟩ (by decide) (HM2.out.below hm.below) _ _ (be a b).1 (be a b).2).mono ?_;rintro e w' ⟨he,hb⟩;subst he;replace hm:=hm.call hb;clear hb)
    | ((with_reducible refine aa (some 10) (.alloc 40) ?_);refine ad _ ay hm ?_;clear hm;intro w3 g10 hm)
    | ((with_reducible refine aa none (.store 40 (.tmp 10) (.tmp 25)) ?_);refine ae 0 (spc [] (heldI a) (heldI b)) hm rfl rfl rfl 5 ax rfl rfl (az _ _ _) ?_;clear hm;intro w4 hm)
    | ((with_reducible refine aa (some 33) (.build 59 #[(0,.tmp 29),(1,.tmp 32)]) ?_);refine ao [Value.int .i64 (heldI a),.int .i64 (heldI b)] [(0,.int .i64 (heldI a)),(1,.int .i64 (heldI b))] rfl (bO _ _) ?_)
    | ((with_reducible refine aa (some 12) (.alloc 59) ?_);refine ad _ cj hm ?_;clear hm;intro w5 g12 hm)
    | ((with_reducible refine aa none (.store 59 (.tmp 12) (.tmp 33)) ?_);refine ae 0 [Value.int .i64 (heldI a),.int .i64 (heldI b)] hm rfl rfl rfl 2 sz_i2 rfl rfl (cf _ _) ?_;clear hm;intro w6 hm)
    | (go_at_call 10;refine (aJ (HN.out.below hm.below) (by omega) ⟨#[120]⟩ (by decide) (HM2.out.below hm.below) c d 12 (newN a b) (HE.out ()) rfl).mono ?_;rintro e w7 ⟨he,hn,hu⟩;subst he;obtain ⟨es,cc,hes⟩:=(HN.out.below hm.below).isMap;replace hm:=(hm.weak (S:=[m])).updO hes (Or.inl (by simp)) hu;replace HN:Hid (NmAt w7 nb m 2 (newN a b)):=hn;have HM7:Hid (MaxL w7):=HM2.out.upd0 hm0 hm.toUpd;clear hn hu hes es cc)
    | (go_at_call 15;refine (bL HN.out ⟨#[120]⟩ (by decide) HM7.out _ _ (bP a b).1 (bP a b).2).mono ?_;rintro e w' ⟨he,hb⟩;subst he;replace hm:=hm.call hb;clear hb)
    | ((with_reducible refine aa (some 15) (.alloc 40) ?_);refine ad _ ay hm ?_;clear hm;intro w8 g15 hm)
    | ((with_reducible refine aa none (.store 40 (.tmp 15) (.tmp 55)) ?_);refine ae 0 (spZ) hm rfl rfl rfl 5 ax rfl rfl (az [] 0 0) ?_;clear hm;intro w9 hm)
    | ((with_reducible refine aj (some 60) (.load 3 (.tmp 59)) (some (1,true)) ?_);go_must (refine ab (.int .i64 (heldI a)) rfl (af 1 (.int .i64 (heldI a)) (hm.get 2 rfl) rfl au (rfl)) ?_))
    | ((with_reducible refine aj (some 62) (.load 3 (.tmp 61)) (some (1,true)) ?_);go_must (refine ab (.int .i64 (heldI a)) rfl (af 0 (.int .i64 (heldI a)) (hm.get 1 rfl) rfl au (rfl)) ?_))
    | ((with_reducible refine aj (some 67) (.load 3 (.tmp 66)) (some (8,true)) ?_);go_must (refine ab (.int .i64 (heldI b)) rfl (af 2 (.int .i64 (heldI b)) (hm.get 2 rfl) rfl au (rfl)) ?_))
    | ((with_reducible refine aj (some 69) (.load 3 (.tmp 68)) (some (8,true)) ?_);go_must (refine ab (.int .i64 (heldI b)) rfl (af 1 (.int .i64 (heldI b)) (hm.get 1 rfl) rfl au (rfl)) ?_))
    | ((with_reducible refine aj (some 74) (.load 3 (.tmp 73)) (some (15,true)) ?_);go_must (refine ab (.int .i64 0) rfl (af 3 (.int .i64 0) (hm.get 2 rfl) rfl au (rfl)) ?_)))
   go_ret
   exact ⟨rfl,aA HB.out hm.toUpd hwm HB.out.size⟩
 ·have HE:Hid (∀_:Unit,addE (newN a b) ⟨#[120]⟩ c d=12):=fun _=>by rw [addE_x];unfold limOk;simp;omega
  have tk1:Nat:=0
  go_enter Tryz.func6,Tryz.ntmps6
  go_wp2_with (first
   | (go_at_call 7;refine (aI _ (HM.out.below hm.below)).mono ?_;rintro e w1 ⟨he,hb⟩;subst he;replace hm:=hm.call hb;clear hb)
   | (go_at_call 8;refine (ce (a) (b) _).mono ?_;rintro e w2 ⟨nb,m,he,hwn,hwm,hn,hb⟩;subst he;have HB:Hid (Below w.heap.size w w2):=hm.below.trans (hb.mono hm.size);replace hwm:w.heap.size≤m:=Nat.le_trans hm.size hwm;have hm0:0<m:=Nat.lt_of_lt_of_le HM.out.lt0 hwm;have HN:Hid (NmAt w2 nb m 1 (newN (a) (b))):=hn;have HM2:Hid (MaxL w2):=HM.out.below HB.out;clear hm;have hm:=Mem.start w2;clear hn hb hwn)
   | (clear tk1;go_at_call 15;refine (bL (HN.out.below hm.below) ⟨#[]⟩ (by decide) (HM2.out.below hm.below) _ _ (be a b).1 (be a b).2).mono ?_;rintro e w' ⟨he,hb⟩;subst he;replace hm:=hm.call hb;clear hb)
   | ((with_reducible refine aa (some 10) (.alloc 40) ?_);refine ad _ ay hm ?_;clear hm;intro w3 g10 hm)
   | ((with_reducible refine aa none (.store 40 (.tmp 10) (.tmp 25)) ?_);refine ae 0 (spc [] (heldI a) (heldI b)) hm rfl rfl rfl 5 ax rfl rfl (az _ _ _) ?_;clear hm;intro w4 hm)
   | ((with_reducible refine aa (some 33) (.build 59 #[(0,.tmp 29),(1,.tmp 32)]) ?_);refine ao [Value.int .i64 (heldI a),.int .i64 (heldI b)] [(0,.int .i64 (heldI a)),(1,.int .i64 (heldI b))] rfl (bO _ _) ?_)
   | ((with_reducible refine aa (some 12) (.alloc 59) ?_);refine ad _ cj hm ?_;clear hm;intro w5 g12 hm)
   | ((with_reducible refine aa none (.store 59 (.tmp 12) (.tmp 33)) ?_);refine ae 0 [Value.int .i64 (heldI a),.int .i64 (heldI b)] hm rfl rfl rfl 2 sz_i2 rfl rfl (cf _ _) ?_;clear hm;intro w6 hm)
   | (go_at_call 10;refine (aJ (HN.out.below hm.below) (by omega) ⟨#[120]⟩ (by decide) (HM2.out.below hm.below) c d 12 (newN a b) (HE.out ()) rfl).mono ?_;rintro e w7 ⟨he,hn,hu⟩;subst he;obtain ⟨es,cc,hes⟩:=(HN.out.below hm.below).isMap;replace hm:=(hm.weak (S:=[m])).updO hes (Or.inl (by simp)) hu;replace HN:Hid (NmAt w7 nb m 2 (newN a b)):=hn;have HM7:Hid (MaxL w7):=HM2.out.upd0 hm0 hm.toUpd;clear hn hu hes es cc)
   | (go_at_call 15;refine (bL HN.out ⟨#[120]⟩ (by decide) HM7.out _ _ (bP a b).1 (bP a b).2).mono ?_;rintro e w' ⟨he,hb⟩;subst he;replace hm:=hm.call hb;clear hb)
   | ((with_reducible refine aa (some 15) (.alloc 40) ?_);refine ad _ ay hm ?_;clear hm;intro w8 g15 hm)
   | ((with_reducible refine aa none (.store 40 (.tmp 15) (.tmp 55)) ?_);refine ae 0 (spZ) hm rfl rfl rfl 5 ax rfl rfl (az [] 0 0) ?_;clear hm;intro w9 hm)
   | ((with_reducible refine aj (some 60) (.load 3 (.tmp 59)) (some (1,true)) ?_);go_must (refine ab (.int .i64 (heldI a)) rfl (af 1 (.int .i64 (heldI a)) (hm.get 2 rfl) rfl au (rfl)) ?_))
   | ((with_reducible refine aj (some 62) (.load 3 (.tmp 61)) (some (1,true)) ?_);go_must (refine ab (.int .i64 (heldI a)) rfl (af 0 (.int .i64 (heldI a)) (hm.get 1 rfl) rfl au (rfl)) ?_))
   | ((with_reducible refine aj (some 67) (.load 3 (.tmp 66)) (some (8,true)) ?_);go_must (refine ab (.int .i64 (heldI b)) rfl (af 2 (.int .i64 (heldI b)) (hm.get 2 rfl) rfl au (rfl)) ?_))
   | ((with_reducible refine aj (some 69) (.load 3 (.tmp 68)) (some (8,true)) ?_);go_must (refine ab (.int .i64 (heldI b)) rfl (af 1 (.int .i64 (heldI b)) (hm.get 1 rfl) rfl au (rfl)) ?_))
   | ((with_reducible refine aj (some 74) (.load 3 (.tmp 73)) (some (15,true)) ?_);go_must (refine ab (.int .i64 0) rfl (af 3 (.int .i64 0) (hm.get 2 rfl) rfl au (rfl)) ?_)))
  go_ret
  exact ⟨rfl,aA HB.out hm.toUpd hwm HB.out.size⟩
end Go.Proofs.YtabncjcfpkhhnaaGreatDoor
