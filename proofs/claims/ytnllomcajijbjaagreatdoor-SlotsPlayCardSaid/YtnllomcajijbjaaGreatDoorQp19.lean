import Derived.Test.YtnllomcajijbjaaGreatDoorQp17
import Derived.Test.YtnllomcajijbjaaGreatDoorQp16
set_option maxRecDepth 100000
set_option maxHeartbeats 4000000
namespace Go.Proofs.YtnllomcajijbjaaGreatDoor
open Go Go.RowKit Go.Maps Go.Shelf
structure PutI (a0:Act) (W1:World) (g mb:Nat) (kv:Value) (sb hb:Nat) (d R:Dk) (t:Slt) (p k:Nat) (X N:Ent) (ct:Int) (b:Nat→Bool) (a:Act) (w:World) (c:Nat→Option Value) (mA mB bs:Nat):Prop where
 act:a=laidC a0 [12,36,38,40,42,49,50,51,53,56,57,58,59] c
 oth:∀j,j<32→j ∉ [4,6,8,9,11,18,19,20,21,23,26,27,28,29,30,31]→b j=true
 at_:SlAt w g mb kv sb hb (if b 30=true then R else d) t
 upd:UpdS (foot g mb kv) W1 w
 a1:b 4=true→c 36=some (.map (some mA))
 a2:b 4=true→PhQ w mA (((b 9)).toNat+((b 19)).toNat) (ph2 (p % 2) (cntC p) (2+k) (unE X) (b 9) (b 19))∧W1.heap.size≤mA
 a3:b 20=true→c 50=some (.map (some mA))
 b1:b 21=true→c 51=some (.map (some mB))
 b2:b 21=true→PhQ w mB (((b 27)).toNat) (ph1 (2+k) (mkC k N) (b 27))∧W1.heap.size≤mB
 b3:b 28=true→c 57=some (.map (some mB))
 ne:b 4=true→b 21=true→mA≠mB
 c6:b 6=true→c 38=some (.int .i64 ((p % 2:Nat):Int))
 c8:b 8=true→c 40=some (.agg (u8s (cntC p)).toArray)
 c11:b 11=true→c 42=some (.int .i64 ((2+k:Nat):Int))
 c18:b 18=true→c 49=some (.agg (u8s (unE X)).toArray)
 c23:b 23=true→c 53=some (.int .i64 ((2+k:Nat):Int))
 c26:b 26=true→c 56=some (.agg (u8s (mkC k N)).toArray)
 s1:b 29=true→c 58=some (.slice (some ⟨bs,0,none⟩) 2 2)
 s2:b 29=true→Row w bs [.map (some mA),.map (some mB)] 55∧W1.heap.size≤bs
 k1:b 30=true→c 59=some (.int .i64 ct)
 k2:b 31=true→c 12=some (.int .i64 ct)
theorem PutI_dag {ops:Array Oper} {T:World→Prop} {Rr:Act→World→Prop} {ty4 ty6 ty8 ty9 ty11 ty18 ty19 ty20 ty21 ty23 ty26 ty27 ty28 ty29 ty30 ty31:TypeId} {ps4 ps6 ps8 ps9 ps11 ps18 ps19 ps20 ps21 ps23 ps26 ps27 ps28 ps29 ps30 ps31:String} {af4 af6 af8 af9 af11 af18 af19 af20 af21 af23 af26 af27 af28 af29 af30 af31:Array Edge} {at6 at8 at11 at18 at23 at26 at30:Array TypeId} (hn:ops.size=32)
  (o4:ops[4]?=some {dst:=some 36,op:=.makeMap 55 none,type:=ty4,pos:=ps4,after:=af4,guard:=none}) (o6:ops[6]?=some {dst:=some 38,op:=.call {callee:=.value (.func 19),args:=#[.tmp 37],argTypes:=at6},type:=ty6,pos:=ps6,after:=af6,guard:=none}) (o8:ops[8]?=some {dst:=some 40,op:=.call {callee:=.value (.func 25),args:=#[.tmp 39],argTypes:=at8},type:=ty8,pos:=ps8,after:=af8,guard:=none}) (o9:ops[9]?=some {dst:=none,op:=.insert 55 (.tmp 36) (.tmp 38) (.tmp 40),type:=ty9,pos:=ps9,after:=af9,guard:=none}) (o11:ops[11]?=some {dst:=some 42,op:=.call {callee:=.value (.func 21),args:=#[.tmp 41],argTypes:=at11},type:=ty11,pos:=ps11,after:=af11,guard:=none}) (o18:ops[18]?=some {dst:=some 49,op:=.call {callee:=.value (.func 20),args:=#[.tmp 48],argTypes:=at18},type:=ty18,pos:=ps18,after:=af18,guard:=none}) (o19:ops[19]?=some {dst:=none,op:=.insert 55 (.tmp 36) (.tmp 42) (.tmp 49),type:=ty19,pos:=ps19,after:=af19,guard:=none}) (o20:ops[20]?=some {dst:=some 50,op:=.move (.tmp 36),type:=ty20,pos:=ps20,after:=af20,guard:=none}) (o21:ops[21]?=some {dst:=some 51,op:=.makeMap 55 none,type:=ty21,pos:=ps21,after:=af21,guard:=none}) (o23:ops[23]?=some {dst:=some 53,op:=.call {callee:=.value (.func 21),args:=#[.tmp 52],argTypes:=at23},type:=ty23,pos:=ps23,after:=af23,guard:=none}) (o26:ops[26]?=some {dst:=some 56,op:=.call {callee:=.value (.func 26),args:=#[.tmp 54,.tmp 55],argTypes:=at26},type:=ty26,pos:=ps26,after:=af26,guard:=none}) (o27:ops[27]?=some {dst:=none,op:=.insert 55 (.tmp 51) (.tmp 53) (.tmp 56),type:=ty27,pos:=ps27,after:=af27,guard:=none}) (o28:ops[28]?=some {dst:=some 57,op:=.move (.tmp 51),type:=ty28,pos:=ps28,after:=af28,guard:=none}) (o29:ops[29]?=some {dst:=some 58,op:=.buildSlice 90 2 #[(0,.tmp 50),(1,.tmp 57)],type:=ty29,pos:=ps29,after:=af29,guard:=none}) (o30:ops[30]?=some {dst:=some 59,op:=.call {callee:=.value (.func 22),args:=#[.tmp 35,.tmp 58],argTypes:=at30},type:=ty30,pos:=ps30,after:=af30,guard:=none}) (o31:ops[31]?=some {dst:=some 12,op:=.assign (.tmp 59),type:=ty31,pos:=ps31,after:=af31,guard:=none})
  (hup:((List.range ops.size).all fun i=>(predsOf ops i).all fun j=>decide (j<i))=true) (p9:[4,6,8].all (fun j=>(predsOf ops 9).contains j)=true) (p19:[4,11,18].all (fun j=>(predsOf ops 19).contains j)=true) (p20:[4,9,19].all (fun j=>(predsOf ops 20).contains j)=true) (p27:[21,23,26].all (fun j=>(predsOf ops 27).contains j)=true) (p28:[21,27].all (fun j=>(predsOf ops 28).contains j)=true) (p29:[20,28].all (fun j=>(predsOf ops 29).contains j)=true) (p30:[29].all (fun j=>(predsOf ops 30).contains j)=true) (p31:[30].all (fun j=>(predsOf ops 31).contains j)=true)
  (a0:Act) (hsz:a0.tmps.size=75)
  (W1:World) (g mb:Nat) (kv:Value) (sb hb:Nat) (d R:Dk) (t:Slt) (p k:Nat) (X N:Ent) (ct:Int) (e35:a0.eval (.tmp 35)=.pointer (some ⟨g,0,none⟩)) (e37:a0.eval (.tmp 37)=.int .u64 (p:Int)) (e39:a0.eval (.tmp 39)=.int .u64 (p:Int)) (e41:a0.eval (.tmp 41)=.int .i64 (k:Int)) (e48:a0.eval (.tmp 48)=.agg (entL X).toArray) (e52:a0.eval (.tmp 52)=.int .i64 (k:Int)) (e54:a0.eval (.tmp 54)=.agg (entL N).toArray) (e55:a0.eval (.tmp 55)=.int .i64 (k:Int)) (hp:p≤1000) (hk:k<24) (hX:X.2.length=48) (hN:N.2.length=48) (ht:Tab W1) (hf2:∀q∈foot g mb kv,2≤q)
  (hkp:∀(w:World) (mA mB bs:Nat),DkAt w g mb kv d→UpdS (foot g mb kv) W1 w→W1.heap.size≤bs→Row w bs [.map (some mA),.map (some mB)] 55→PhM w mA (ph2 (p % 2) (cntC p) (2+k) (unE X) true true)→W1.heap.size≤mA→PhM w mB (ph1 (2+k) (mkC k N) true)→W1.heap.size≤mB→Calls Tryz.prog 22 #[.pointer (some ⟨g,0,none⟩),.slice (some ⟨bs,0,none⟩) 2 2] w fun e w'=>e=.returned (.int .i64 ct)∧DkAt w' g mb kv R∧UpdS (foot g mb kv) w w')
  (hT:∀w d',SlAt w g mb kv sb hb d' t→UpdS (foot g mb kv) W1 w→T w)
  (L:Array Bool) (fuel:Nat) (hL:L.size=32) (hc:L.toList.count false≤fuel) (hLo:((List.range 32).all fun j=>L.getD j false == !([4,6,8,9,11,18,19,20,21,23,26,27,28,29,30,31]:List Nat).contains j)=true) (hcl:((List.range 32).all fun j => !L.getD j false||(predsOf ops j).all fun k=>L.getD k false)=true)
  (w:World) (hW:UpdS (foot g mb kv) W1 w) (hat:SlAt W1 g mb kv sb hb d t) (hatw:SlAt w g mb kv sb hb d t)
  (hend:∀(w':World) (mA mB bs:Nat),SlAt w' g mb kv sb hb R t→UpdS (foot g mb kv) W1 w'→Rr (laidL a0 [(12,some (.int .i64 ct)),(36,some (.map (some mA))),(38,some (.int .i64 ((p % 2:Nat):Int))),(40,some (.agg (u8s (cntC p)).toArray)),(42,some (.int .i64 ((2+k:Nat):Int))),(49,some (.agg (u8s (unE X)).toArray)),(50,some (.map (some mA))),(51,some (.map (some mB))),(53,some (.int .i64 ((2+k:Nat):Int))),(56,some (.agg (u8s (mkC k N)).toArray)),(57,some (.map (some mB))),(58,some (.slice (some ⟨bs,0,none⟩) 2 2)),(59,some (.int .i64 ct))]) w') :
  wpAnyH Tryz.prog .any ops (endsIn Rr) T fuel L a0 w:=by
 have hft:∀k∈footS g mb kv sb hb,k<W1.heap.size:=hat.lt
 have hnf:∀m,W1.heap.size≤m→m ∉ foot g mb kv:=fun m hm h=>by have:=hft m (by simp [footS,h]);omega
 refine dag_go (n:=32) (fun b a w=>∃c mA mB bs,PutI a0 W1 g mb kv sb hb d R t p k X N ct b a w c mA mB bs) hn (fun b a w ⟨c,mA,mB,bs,h⟩=>hT w _ h.at_ h.upd) hup ?_ ?_ fuel L a0 w hL hc ?_ ?_
 ·rintro b a w i ⟨c,mA,mB,bs,hI⟩ hi hbi hpr hcl2
  have hmem:i∈[4,6,8,9,11,18,19,20,21,23,26,27,28,29,30,31]:=by
   rcases Classical.em (i∈[4,6,8,9,11,18,19,20,21,23,26,27,28,29,30,31]) with h|h
   ·exact h
   ·rw [hI.oth i hi h] at hbi;cases hbi
  simp only [List.mem_cons,List.not_mem_nil,or_false] at hmem
  have hAt:b 30=false→SlAt w g mb kv sb hb d t:=fun h=>by have h9:=hI.at_;rw [h] at h9;exact h9
  rcases hmem with rfl|rfl|rfl|rfl|rfl|rfl|rfl|rfl|rfl|rfl|rfl|rfl|rfl|rfl|rfl|rfl
  ·refine bE 4 o4 rfl ?_
   intro K' hK'
   refine db (Mem.start w) ?_
   intro w' m hmp hge hbb _
   refine aW (hK' _ _ ?_)
   have hf9:b 9=false:=by
    cases h9:b 9 with
    | false=>rfl
    | true=>rw [(hcl2 9 (by decide) h9 4 (by have h9:=List.all_eq_true.1 p9 4 (by decide);simpa using h9))] at hbi;cases hbi
   have hf19:b 19=false:=by
    cases h9:b 19 with
    | false=>rfl
    | true=>rw [(hcl2 19 (by decide) h9 4 (by have h9:=List.all_eq_true.1 p19 4 (by decide);simpa using h9))] at hbi;cases hbi
   have hfm:b 20=false:=by
    cases h9:b 20 with
    | false=>rfl
    | true=>rw [(hcl2 20 (by decide) h9 4 (by have h9:=List.all_eq_true.1 p20 4 (by decide);simpa using h9))] at hbi;cases hbi
   have hfs:b 29=false:=by
    cases h9:b 29 with
    | false=>rfl
    | true=>rw [(hcl2 29 (by decide) h9 20 (by have h9:=List.all_eq_true.1 p29 20 (by decide);simpa using h9))] at hfm;cases hfm
   exact ⟨setF c 36 (some (.map (some m))),m,mB,bs,⟨(by rw [hI.act,a8 _ (by decide) (by decide)]),(fun j hj hn=>by rw [af _ _ (fun e=>hn (by rw [e];decide))];exact hI.oth j hj hn),(by rw [af _ _ (show 30≠4 by decide)];exact hI.at_.below hbb),(hI.upd.trans (UpdS.of_below hbb)),(fun _=>aK _ _ _),(fun _=>⟨by rw [af b true (show 9≠4 by decide),hf9,af b true (show 19≠4 by decide),hf19];exact phq_zero2 _ _ _ _ hmp,Nat.le_trans hI.upd.size hge⟩),(fun h=>by rw [af b true (by decide),hfm] at h;cases h),(am hI.b1 (by decide) (by decide)),(fun h=>by rw [af b true (show 21≠4 by decide)] at h;rw [af b true (show 27≠4 by decide)];exact ⟨(hI.b2 h).1.below hbb,(hI.b2 h).2⟩),(am hI.b3 (by decide) (by decide)),(fun _ h=>by rw [af b true (by decide)] at h;have h8:=(hI.b2 h).1.lt;omega),(am hI.c6 (by decide) (by decide)),(am hI.c8 (by decide) (by decide)),(am hI.c11 (by decide) (by decide)),(am hI.c18 (by decide) (by decide)),(am hI.c23 (by decide) (by decide)),(am hI.c26 (by decide) (by decide)),(am hI.s1 (by decide) (by decide)),(fun h=>by rw [af b true (by decide),hfs] at h;cases h),(am hI.k1 (by decide) (by decide)),(am hI.k2 (by decide) (by decide))⟩⟩
  ·refine bE 6 o6 rfl ?_
   intro K' hK'
   refine b4 (enters_of Tryz.func19 (by kernel_rfl) rfl) (vs:=#[.int .u64 (p:Int)]) (by simp only [List.map_toArray,List.map_cons,List.map_nil,hI.act,bS (a:=a0) (c:=c) (show 37 ∉ [12,36,38,40,42,49,50,51,53,56,57,58,59] by decide),e37]) (ej p (by omega) w) ?_
   rintro e w' ⟨rfl,hw⟩
   replace hw:=hw.symm
   subst hw
   refine ⟨_,rfl,aW (hK' _ _ ?_)⟩
   exact ⟨setF c 38 (some (.int .i64 ((p % 2:Nat):Int))),mA,mB,bs,⟨(by rw [hI.act,a8 _ (by decide) (by decide)]),(fun j hj hn=>by rw [af _ _ (fun e=>hn (by rw [e];decide))];exact hI.oth j hj hn),(by rw [af _ _ (show 30≠6 by decide)];exact hI.at_),(hI.upd),(am hI.a1 (by decide) (by decide)),(fun h=>by rw [af b true (show 4≠6 by decide)] at h;rw [af b true (show 9≠6 by decide),af b true (show 19≠6 by decide)];exact ⟨(hI.a2 h).1,(hI.a2 h).2⟩),(am hI.a3 (by decide) (by decide)),(am hI.b1 (by decide) (by decide)),(fun h=>by rw [af b true (show 21≠6 by decide)] at h;rw [af b true (show 27≠6 by decide)];exact ⟨(hI.b2 h).1,(hI.b2 h).2⟩),(am hI.b3 (by decide) (by decide)),(fun h h'=>by rw [af b true (by decide)] at h h';exact hI.ne h h'),(fun _=>aK _ _ _),(am hI.c8 (by decide) (by decide)),(am hI.c11 (by decide) (by decide)),(am hI.c18 (by decide) (by decide)),(am hI.c23 (by decide) (by decide)),(am hI.c26 (by decide) (by decide)),(am hI.s1 (by decide) (by decide)),(fun h=>by rw [af b true (by decide)] at h;exact ⟨(hI.s2 h).1,(hI.s2 h).2⟩),(am hI.k1 (by decide) (by decide)),(am hI.k2 (by decide) (by decide))⟩⟩
  ·refine bE 8 o8 rfl ?_
   intro K' hK'
   refine b4 (enters_of Tryz.func25 (by kernel_rfl) rfl) (vs:=#[.int .u64 (p:Int)]) (by simp only [List.map_toArray,List.map_cons,List.map_nil,hI.act,bS (a:=a0) (c:=c) (show 39 ∉ [12,36,38,40,42,49,50,51,53,56,57,58,59] by decide),e39]) (by have h9:Tab w:=Tab.updS ht hI.upd hf2;exact gV p (by omega) w h9) ?_
   rintro e w' ⟨rfl,hbb⟩
   refine ⟨_,rfl,aW (hK' _ _ ?_)⟩
   exact ⟨setF c 40 (some (.agg (u8s (cntC p)).toArray)),mA,mB,bs,⟨(by rw [hI.act,a8 _ (by decide) (by decide)]),(fun j hj hn=>by rw [af _ _ (fun e=>hn (by rw [e];decide))];exact hI.oth j hj hn),(by rw [af _ _ (show 30≠8 by decide)];exact hI.at_.below hbb),(hI.upd.trans (UpdS.of_below hbb)),(am hI.a1 (by decide) (by decide)),(fun h=>by rw [af b true (show 4≠8 by decide)] at h;rw [af b true (show 9≠8 by decide),af b true (show 19≠8 by decide)];exact ⟨(hI.a2 h).1.below hbb,(hI.a2 h).2⟩),(am hI.a3 (by decide) (by decide)),(am hI.b1 (by decide) (by decide)),(fun h=>by rw [af b true (show 21≠8 by decide)] at h;rw [af b true (show 27≠8 by decide)];exact ⟨(hI.b2 h).1.below hbb,(hI.b2 h).2⟩),(am hI.b3 (by decide) (by decide)),(fun h h'=>by rw [af b true (by decide)] at h h';exact hI.ne h h'),(am hI.c6 (by decide) (by decide)),(fun _=>aK _ _ _),(am hI.c11 (by decide) (by decide)),(am hI.c18 (by decide) (by decide)),(am hI.c23 (by decide) (by decide)),(am hI.c26 (by decide) (by decide)),(am hI.s1 (by decide) (by decide)),(fun h=>by rw [af b true (by decide)] at h;exact ⟨Row.bel (hI.s2 h).1 hbb,(hI.s2 h).2⟩),(am hI.k1 (by decide) (by decide)),(am hI.k2 (by decide) (by decide))⟩⟩
  ·refine bE 9 o9 rfl ?_
   intro K' hK'
   have hmk:=(hpr 4 (by have h9:=List.all_eq_true.1 p9 4 (by decide);simpa using h9))
   have hph:=(hI.a2 hmk).1
   rw [hbi] at hph
   refine dt hph (by cases b 19<;>decide) (p % 2) (by omega) (cntC p) (by rw [hI.act];exact aX (by decide) (by decide) (by rw [hsz];decide) (hI.a1 hmk)) (by rw [hI.act];exact aX (by decide) (by decide) (by rw [hsz];decide) (hI.c6 (hpr 6 (by have h9:=List.all_eq_true.1 p9 6 (by decide);simpa using h9)))) (by rw [hI.act];exact aX (by decide) (by decide) (by rw [hsz];decide) (hI.c8 (hpr 8 (by have h9:=List.all_eq_true.1 p9 8 (by decide);simpa using h9)))) ?_
   intro w' hp2 hu
   refine aW (hK' _ _ ?_)
   have hge:=(hI.a2 hmk).2
   exact ⟨c,mA,mB,bs,⟨(hI.act),(fun j hj hn=>by rw [af _ _ (fun e=>hn (by rw [e];decide))];exact hI.oth j hj hn),(by rw [af _ _ (show 30≠9 by decide)];exact hI.at_.updO (fun k hk=>Nat.lt_of_lt_of_le (hft k hk) hge) hu),(UpdS.newU hI.upd hge hu),(bf hI.a1 (by decide)),(fun h=>⟨by rw [aK b 9 true,af b true (show 19≠9 by decide)];exact phq_in2a (by omega) hp2,hge⟩),(bf hI.a3 (by decide)),(bf hI.b1 (by decide)),(fun h=>by rw [af b true (show 21≠9 by decide)] at h;rw [af b true (show 27≠9 by decide)];exact ⟨(hI.b2 h).1.upd hu (fun e=>hI.ne hmk h e.symm),(hI.b2 h).2⟩),(bf hI.b3 (by decide)),(fun h h'=>by rw [af b true (by decide)] at h h';exact hI.ne h h'),(bf hI.c6 (by decide)),(bf hI.c8 (by decide)),(bf hI.c11 (by decide)),(bf hI.c18 (by decide)),(bf hI.c23 (by decide)),(bf hI.c26 (by decide)),(bf hI.s1 (by decide)),(fun h=>by rw [af b true (by decide)] at h;exact ⟨hu.row (hI.s2 h).1 (bK (hI.s2 h).1 (PhQ.isMap hph).choose_spec.choose_spec),(hI.s2 h).2⟩),(bf hI.k1 (by decide)),(bf hI.k2 (by decide))⟩⟩
  ·refine bE 11 o11 rfl ?_
   intro K' hK'
   refine b4 (enters_of Tryz.func21 (by kernel_rfl) rfl) (vs:=#[.int .i64 (k:Int)]) (by simp only [List.map_toArray,List.map_cons,List.map_nil,hI.act,bS (a:=a0) (c:=c) (show 41 ∉ [12,36,38,40,42,49,50,51,53,56,57,58,59] by decide),e41]) (bD k (by omega) w) ?_
   rintro e w' ⟨rfl,hw⟩
   replace hw:=hw.symm
   subst hw
   refine ⟨_,rfl,aW (hK' _ _ ?_)⟩
   exact ⟨setF c 42 (some (.int .i64 ((2+k:Nat):Int))),mA,mB,bs,⟨(by rw [hI.act,a8 _ (by decide) (by decide)]),(fun j hj hn=>by rw [af _ _ (fun e=>hn (by rw [e];decide))];exact hI.oth j hj hn),(by rw [af _ _ (show 30≠11 by decide)];exact hI.at_),(hI.upd),(am hI.a1 (by decide) (by decide)),(fun h=>by rw [af b true (show 4≠11 by decide)] at h;rw [af b true (show 9≠11 by decide),af b true (show 19≠11 by decide)];exact ⟨(hI.a2 h).1,(hI.a2 h).2⟩),(am hI.a3 (by decide) (by decide)),(am hI.b1 (by decide) (by decide)),(fun h=>by rw [af b true (show 21≠11 by decide)] at h;rw [af b true (show 27≠11 by decide)];exact ⟨(hI.b2 h).1,(hI.b2 h).2⟩),(am hI.b3 (by decide) (by decide)),(fun h h'=>by rw [af b true (by decide)] at h h';exact hI.ne h h'),(am hI.c6 (by decide) (by decide)),(am hI.c8 (by decide) (by decide)),(fun _=>aK _ _ _),(am hI.c18 (by decide) (by decide)),(am hI.c23 (by decide) (by decide)),(am hI.c26 (by decide) (by decide)),(am hI.s1 (by decide) (by decide)),(fun h=>by rw [af b true (by decide)] at h;exact ⟨(hI.s2 h).1,(hI.s2 h).2⟩),(am hI.k1 (by decide) (by decide)),(am hI.k2 (by decide) (by decide))⟩⟩
  ·refine bE 18 o18 rfl ?_
   intro K' hK'
   refine b4 (enters_of Tryz.func20 (by kernel_rfl) rfl) (vs:=#[.agg (entL X).toArray]) (by simp only [List.map_toArray,List.map_cons,List.map_nil,hI.act,bS (a:=a0) (c:=c) (show 48 ∉ [12,36,38,40,42,49,50,51,53,56,57,58,59] by decide),e48]) (dI X hX w) ?_
   rintro e w' ⟨rfl,hbb⟩
   refine ⟨_,rfl,aW (hK' _ _ ?_)⟩
   exact ⟨setF c 49 (some (.agg (u8s (unE X)).toArray)),mA,mB,bs,⟨(by rw [hI.act,a8 _ (by decide) (by decide)]),(fun j hj hn=>by rw [af _ _ (fun e=>hn (by rw [e];decide))];exact hI.oth j hj hn),(by rw [af _ _ (show 30≠18 by decide)];exact hI.at_.below hbb),(hI.upd.trans (UpdS.of_below hbb)),(am hI.a1 (by decide) (by decide)),(fun h=>by rw [af b true (show 4≠18 by decide)] at h;rw [af b true (show 9≠18 by decide),af b true (show 19≠18 by decide)];exact ⟨(hI.a2 h).1.below hbb,(hI.a2 h).2⟩),(am hI.a3 (by decide) (by decide)),(am hI.b1 (by decide) (by decide)),(fun h=>by rw [af b true (show 21≠18 by decide)] at h;rw [af b true (show 27≠18 by decide)];exact ⟨(hI.b2 h).1.below hbb,(hI.b2 h).2⟩),(am hI.b3 (by decide) (by decide)),(fun h h'=>by rw [af b true (by decide)] at h h';exact hI.ne h h'),(am hI.c6 (by decide) (by decide)),(am hI.c8 (by decide) (by decide)),(am hI.c11 (by decide) (by decide)),(fun _=>aK _ _ _),(am hI.c23 (by decide) (by decide)),(am hI.c26 (by decide) (by decide)),(am hI.s1 (by decide) (by decide)),(fun h=>by rw [af b true (by decide)] at h;exact ⟨Row.bel (hI.s2 h).1 hbb,(hI.s2 h).2⟩),(am hI.k1 (by decide) (by decide)),(am hI.k2 (by decide) (by decide))⟩⟩
  ·refine bE 19 o19 rfl ?_
   intro K' hK'
   have hmk:=(hpr 4 (by have h9:=List.all_eq_true.1 p19 4 (by decide);simpa using h9))
   have hph:=(hI.a2 hmk).1
   rw [hbi] at hph
   refine dt hph (by cases b 9<;>decide) (2+k) (by omega) (unE X) (by rw [hI.act];exact aX (by decide) (by decide) (by rw [hsz];decide) (hI.a1 hmk)) (by rw [hI.act];exact aX (by decide) (by decide) (by rw [hsz];decide) (hI.c11 (hpr 11 (by have h9:=List.all_eq_true.1 p19 11 (by decide);simpa using h9)))) (by rw [hI.act];exact aX (by decide) (by decide) (by rw [hsz];decide) (hI.c18 (hpr 18 (by have h9:=List.all_eq_true.1 p19 18 (by decide);simpa using h9)))) ?_
   intro w' hp2 hu
   refine aW (hK' _ _ ?_)
   have hge:=(hI.a2 hmk).2
   exact ⟨c,mA,mB,bs,⟨(hI.act),(fun j hj hn=>by rw [af _ _ (fun e=>hn (by rw [e];decide))];exact hI.oth j hj hn),(by rw [af _ _ (show 30≠19 by decide)];exact hI.at_.updO (fun k hk=>Nat.lt_of_lt_of_le (hft k hk) hge) hu),(UpdS.newU hI.upd hge hu),(bf hI.a1 (by decide)),(fun h=>⟨by rw [af b true (show 9≠19 by decide),aK b 19 true];exact phq_in2b (by omega) hp2,hge⟩),(bf hI.a3 (by decide)),(bf hI.b1 (by decide)),(fun h=>by rw [af b true (show 21≠19 by decide)] at h;rw [af b true (show 27≠19 by decide)];exact ⟨(hI.b2 h).1.upd hu (fun e=>hI.ne hmk h e.symm),(hI.b2 h).2⟩),(bf hI.b3 (by decide)),(fun h h'=>by rw [af b true (by decide)] at h h';exact hI.ne h h'),(bf hI.c6 (by decide)),(bf hI.c8 (by decide)),(bf hI.c11 (by decide)),(bf hI.c18 (by decide)),(bf hI.c23 (by decide)),(bf hI.c26 (by decide)),(bf hI.s1 (by decide)),(fun h=>by rw [af b true (by decide)] at h;exact ⟨hu.row (hI.s2 h).1 (bK (hI.s2 h).1 (PhQ.isMap hph).choose_spec.choose_spec),(hI.s2 h).2⟩),(bf hI.k1 (by decide)),(bf hI.k2 (by decide))⟩⟩
  ·refine bE 20 o20 rfl ?_
   intro K' hK'
   refine fH (v:=.map (some mA)) (by rw [hI.act];exact aX (by decide) (by decide) (by rw [hsz];decide) (hI.a1 (hpr 4 (by have h9:=List.all_eq_true.1 p20 4 (by decide);simpa using h9)))) ?_
   refine aW (hK' _ _ ?_)
   exact ⟨setF c 50 (some (.map (some mA))),mA,mB,bs,⟨(by rw [hI.act,a8 _ (by decide) (by decide)]),(fun j hj hn=>by rw [af _ _ (fun e=>hn (by rw [e];decide))];exact hI.oth j hj hn),(by rw [af _ _ (show 30≠20 by decide)];exact hI.at_),(hI.upd),(am hI.a1 (by decide) (by decide)),(fun h=>by rw [af b true (show 4≠20 by decide)] at h;rw [af b true (show 9≠20 by decide),af b true (show 19≠20 by decide)];exact ⟨(hI.a2 h).1,(hI.a2 h).2⟩),(fun _=>aK _ _ _),(am hI.b1 (by decide) (by decide)),(fun h=>by rw [af b true (show 21≠20 by decide)] at h;rw [af b true (show 27≠20 by decide)];exact ⟨(hI.b2 h).1,(hI.b2 h).2⟩),(am hI.b3 (by decide) (by decide)),(fun h h'=>by rw [af b true (by decide)] at h h';exact hI.ne h h'),(am hI.c6 (by decide) (by decide)),(am hI.c8 (by decide) (by decide)),(am hI.c11 (by decide) (by decide)),(am hI.c18 (by decide) (by decide)),(am hI.c23 (by decide) (by decide)),(am hI.c26 (by decide) (by decide)),(am hI.s1 (by decide) (by decide)),(fun h=>by rw [af b true (by decide)] at h;exact ⟨(hI.s2 h).1,(hI.s2 h).2⟩),(am hI.k1 (by decide) (by decide)),(am hI.k2 (by decide) (by decide))⟩⟩
  ·refine bE 21 o21 rfl ?_
   intro K' hK'
   refine db (Mem.start w) ?_
   intro w' m hmp hge hbb _
   refine aW (hK' _ _ ?_)
   have hf27:b 27=false:=by
    cases h9:b 27 with
    | false=>rfl
    | true=>rw [(hcl2 27 (by decide) h9 21 (by have h9:=List.all_eq_true.1 p27 21 (by decide);simpa using h9))] at hbi;cases hbi
   have hfm:b 28=false:=by
    cases h9:b 28 with
    | false=>rfl
    | true=>rw [(hcl2 28 (by decide) h9 21 (by have h9:=List.all_eq_true.1 p28 21 (by decide);simpa using h9))] at hbi;cases hbi
   have hfs:b 29=false:=by
    cases h9:b 29 with
    | false=>rfl
    | true=>rw [(hcl2 29 (by decide) h9 28 (by have h9:=List.all_eq_true.1 p29 28 (by decide);simpa using h9))] at hfm;cases hfm
   exact ⟨setF c 51 (some (.map (some m))),mA,m,bs,⟨(by rw [hI.act,a8 _ (by decide) (by decide)]),(fun j hj hn=>by rw [af _ _ (fun e=>hn (by rw [e];decide))];exact hI.oth j hj hn),(by rw [af _ _ (show 30≠21 by decide)];exact hI.at_.below hbb),(hI.upd.trans (UpdS.of_below hbb)),(am hI.a1 (by decide) (by decide)),(fun h=>by rw [af b true (show 4≠21 by decide)] at h;rw [af b true (show 9≠21 by decide),af b true (show 19≠21 by decide)];exact ⟨(hI.a2 h).1.below hbb,(hI.a2 h).2⟩),(am hI.a3 (by decide) (by decide)),(fun _=>aK _ _ _),(fun _=>⟨by rw [af b true (show 27≠21 by decide),hf27];exact gK _ _ hmp,Nat.le_trans hI.upd.size hge⟩),(fun h=>by rw [af b true (by decide),hfm] at h;cases h),(fun h _=>by rw [af b true (by decide)] at h;have h8:=(hI.a2 h).1.lt;omega),(am hI.c6 (by decide) (by decide)),(am hI.c8 (by decide) (by decide)),(am hI.c11 (by decide) (by decide)),(am hI.c18 (by decide) (by decide)),(am hI.c23 (by decide) (by decide)),(am hI.c26 (by decide) (by decide)),(am hI.s1 (by decide) (by decide)),(fun h=>by rw [af b true (by decide),hfs] at h;cases h),(am hI.k1 (by decide) (by decide)),(am hI.k2 (by decide) (by decide))⟩⟩
  ·refine bE 23 o23 rfl ?_
   intro K' hK'
   refine b4 (enters_of Tryz.func21 (by kernel_rfl) rfl) (vs:=#[.int .i64 (k:Int)]) (by simp only [List.map_toArray,List.map_cons,List.map_nil,hI.act,bS (a:=a0) (c:=c) (show 52 ∉ [12,36,38,40,42,49,50,51,53,56,57,58,59] by decide),e52]) (bD k (by omega) w) ?_
   rintro e w' ⟨rfl,hw⟩
   replace hw:=hw.symm
   subst hw
   refine ⟨_,rfl,aW (hK' _ _ ?_)⟩
   exact ⟨setF c 53 (some (.int .i64 ((2+k:Nat):Int))),mA,mB,bs,⟨(by rw [hI.act,a8 _ (by decide) (by decide)]),(fun j hj hn=>by rw [af _ _ (fun e=>hn (by rw [e];decide))];exact hI.oth j hj hn),(by rw [af _ _ (show 30≠23 by decide)];exact hI.at_),(hI.upd),(am hI.a1 (by decide) (by decide)),(fun h=>by rw [af b true (show 4≠23 by decide)] at h;rw [af b true (show 9≠23 by decide),af b true (show 19≠23 by decide)];exact ⟨(hI.a2 h).1,(hI.a2 h).2⟩),(am hI.a3 (by decide) (by decide)),(am hI.b1 (by decide) (by decide)),(fun h=>by rw [af b true (show 21≠23 by decide)] at h;rw [af b true (show 27≠23 by decide)];exact ⟨(hI.b2 h).1,(hI.b2 h).2⟩),(am hI.b3 (by decide) (by decide)),(fun h h'=>by rw [af b true (by decide)] at h h';exact hI.ne h h'),(am hI.c6 (by decide) (by decide)),(am hI.c8 (by decide) (by decide)),(am hI.c11 (by decide) (by decide)),(am hI.c18 (by decide) (by decide)),(fun _=>aK _ _ _),(am hI.c26 (by decide) (by decide)),(am hI.s1 (by decide) (by decide)),(fun h=>by rw [af b true (by decide)] at h;exact ⟨(hI.s2 h).1,(hI.s2 h).2⟩),(am hI.k1 (by decide) (by decide)),(am hI.k2 (by decide) (by decide))⟩⟩
  ·refine bE 26 o26 rfl ?_
   intro K' hK'
   refine b4 (enters_of Tryz.func26 (by kernel_rfl) rfl) (vs:=#[.agg (entL N).toArray,.int .i64 (k:Int)]) (by simp only [List.map_toArray,List.map_cons,List.map_nil,hI.act,bS (a:=a0) (c:=c) (show 54 ∉ [12,36,38,40,42,49,50,51,53,56,57,58,59] by decide),e54,bS (a:=a0) (c:=c) (show 55 ∉ [12,36,38,40,42,49,50,51,53,56,57,58,59] by decide),e55]) (by have h9:Tab w:=Tab.updS ht hI.upd hf2;exact marked_any N k hk hN w h9) ?_
   rintro e w' ⟨rfl,hbb⟩
   refine ⟨_,rfl,aW (hK' _ _ ?_)⟩
   exact ⟨setF c 56 (some (.agg (u8s (mkC k N)).toArray)),mA,mB,bs,⟨(by rw [hI.act,a8 _ (by decide) (by decide)]),(fun j hj hn=>by rw [af _ _ (fun e=>hn (by rw [e];decide))];exact hI.oth j hj hn),(by rw [af _ _ (show 30≠26 by decide)];exact hI.at_.below hbb),(hI.upd.trans (UpdS.of_below hbb)),(am hI.a1 (by decide) (by decide)),(fun h=>by rw [af b true (show 4≠26 by decide)] at h;rw [af b true (show 9≠26 by decide),af b true (show 19≠26 by decide)];exact ⟨(hI.a2 h).1.below hbb,(hI.a2 h).2⟩),(am hI.a3 (by decide) (by decide)),(am hI.b1 (by decide) (by decide)),(fun h=>by rw [af b true (show 21≠26 by decide)] at h;rw [af b true (show 27≠26 by decide)];exact ⟨(hI.b2 h).1.below hbb,(hI.b2 h).2⟩),(am hI.b3 (by decide) (by decide)),(fun h h'=>by rw [af b true (by decide)] at h h';exact hI.ne h h'),(am hI.c6 (by decide) (by decide)),(am hI.c8 (by decide) (by decide)),(am hI.c11 (by decide) (by decide)),(am hI.c18 (by decide) (by decide)),(am hI.c23 (by decide) (by decide)),(fun _=>aK _ _ _),(am hI.s1 (by decide) (by decide)),(fun h=>by rw [af b true (by decide)] at h;exact ⟨Row.bel (hI.s2 h).1 hbb,(hI.s2 h).2⟩),(am hI.k1 (by decide) (by decide)),(am hI.k2 (by decide) (by decide))⟩⟩
  ·refine bE 27 o27 rfl ?_
   intro K' hK'
   have hmk:=(hpr 21 (by have h9:=List.all_eq_true.1 p27 21 (by decide);simpa using h9))
   have hph:=(hI.b2 hmk).1
   rw [hbi] at hph
   refine dt hph (by decide) (2+k) (by omega) (mkC k N) (by rw [hI.act];exact aX (by decide) (by decide) (by rw [hsz];decide) (hI.b1 hmk)) (by rw [hI.act];exact aX (by decide) (by decide) (by rw [hsz];decide) (hI.c23 (hpr 23 (by have h9:=List.all_eq_true.1 p27 23 (by decide);simpa using h9)))) (by rw [hI.act];exact aX (by decide) (by decide) (by rw [hsz];decide) (hI.c26 (hpr 26 (by have h9:=List.all_eq_true.1 p27 26 (by decide);simpa using h9)))) ?_
   intro w' hp2 hu
   refine aW (hK' _ _ ?_)
   have hge:=(hI.b2 hmk).2
   exact ⟨c,mA,mB,bs,⟨(hI.act),(fun j hj hn=>by rw [af _ _ (fun e=>hn (by rw [e];decide))];exact hI.oth j hj hn),(by rw [af _ _ (show 30≠27 by decide)];exact hI.at_.updO (fun k hk=>Nat.lt_of_lt_of_le (hft k hk) hge) hu),(UpdS.newU hI.upd hge hu),(bf hI.a1 (by decide)),(fun h=>by rw [af b true (show 4≠27 by decide)] at h;rw [af b true (show 9≠27 by decide),af b true (show 19≠27 by decide)];exact ⟨(hI.a2 h).1.upd hu (hI.ne h hmk),(hI.a2 h).2⟩),(bf hI.a3 (by decide)),(bf hI.b1 (by decide)),(fun h=>⟨by rw [aK b 27 true];exact phq_in1 hp2,hge⟩),(bf hI.b3 (by decide)),(fun h h'=>by rw [af b true (by decide)] at h h';exact hI.ne h h'),(bf hI.c6 (by decide)),(bf hI.c8 (by decide)),(bf hI.c11 (by decide)),(bf hI.c18 (by decide)),(bf hI.c23 (by decide)),(bf hI.c26 (by decide)),(bf hI.s1 (by decide)),(fun h=>by rw [af b true (by decide)] at h;exact ⟨hu.row (hI.s2 h).1 (bK (hI.s2 h).1 (PhQ.isMap hph).choose_spec.choose_spec),(hI.s2 h).2⟩),(bf hI.k1 (by decide)),(bf hI.k2 (by decide))⟩⟩
  ·refine bE 28 o28 rfl ?_
   intro K' hK'
   refine fH (v:=.map (some mB)) (by rw [hI.act];exact aX (by decide) (by decide) (by rw [hsz];decide) (hI.b1 (hpr 21 (by have h9:=List.all_eq_true.1 p28 21 (by decide);simpa using h9)))) ?_
   refine aW (hK' _ _ ?_)
   exact ⟨setF c 57 (some (.map (some mB))),mA,mB,bs,⟨(by rw [hI.act,a8 _ (by decide) (by decide)]),(fun j hj hn=>by rw [af _ _ (fun e=>hn (by rw [e];decide))];exact hI.oth j hj hn),(by rw [af _ _ (show 30≠28 by decide)];exact hI.at_),(hI.upd),(am hI.a1 (by decide) (by decide)),(fun h=>by rw [af b true (show 4≠28 by decide)] at h;rw [af b true (show 9≠28 by decide),af b true (show 19≠28 by decide)];exact ⟨(hI.a2 h).1,(hI.a2 h).2⟩),(am hI.a3 (by decide) (by decide)),(am hI.b1 (by decide) (by decide)),(fun h=>by rw [af b true (show 21≠28 by decide)] at h;rw [af b true (show 27≠28 by decide)];exact ⟨(hI.b2 h).1,(hI.b2 h).2⟩),(fun _=>aK _ _ _),(fun h h'=>by rw [af b true (by decide)] at h h';exact hI.ne h h'),(am hI.c6 (by decide) (by decide)),(am hI.c8 (by decide) (by decide)),(am hI.c11 (by decide) (by decide)),(am hI.c18 (by decide) (by decide)),(am hI.c23 (by decide) (by decide)),(am hI.c26 (by decide) (by decide)),(am hI.s1 (by decide) (by decide)),(fun h=>by rw [af b true (by decide)] at h;exact ⟨(hI.s2 h).1,(hI.s2 h).2⟩),(am hI.k1 (by decide) (by decide)),(am hI.k2 (by decide) (by decide))⟩⟩
  ·refine bE 29 o29 rfl ?_
   intro K' hK'
   have hmA:=(hpr 20 (by have h9:=List.all_eq_true.1 p29 20 (by decide);simpa using h9))
   have hmB:=(hpr 28 (by have h9:=List.all_eq_true.1 p29 28 (by decide);simpa using h9))
   refine jh (.map none) (.map (some mA)) (.map (some mB)) un_phs fw rfl (by rw [hI.act];exact aX (by decide) (by decide) (by rw [hsz];decide) (hI.a3 hmA)) (by rw [hI.act];exact aX (by decide) (by decide) (by rw [hsz];decide) (hI.b3 hmB)) rfl rfl (Mem.start w) ?_
   intro w' q hbb hm
   refine aW (hK' _ _ ?_)
   have hfq:=hm.fresh _ (List.mem_cons_self ..)
   simp only [List.not_mem_nil,false_or] at hfq
   exact ⟨setF c 58 (some (.slice (some ⟨q,0,none⟩) 2 2)),mA,mB,q,⟨(by rw [hI.act,a8 _ (by decide) (by decide)]),(fun j hj hn=>by rw [af _ _ (fun e=>hn (by rw [e];decide))];exact hI.oth j hj hn),(by rw [af _ _ (show 30≠29 by decide)];exact hI.at_.below hbb),(hI.upd.trans (UpdS.of_below hbb)),(am hI.a1 (by decide) (by decide)),(fun h=>by rw [af b true (show 4≠29 by decide)] at h;rw [af b true (show 9≠29 by decide),af b true (show 19≠29 by decide)];exact ⟨(hI.a2 h).1.below hbb,(hI.a2 h).2⟩),(am hI.a3 (by decide) (by decide)),(am hI.b1 (by decide) (by decide)),(fun h=>by rw [af b true (show 21≠29 by decide)] at h;rw [af b true (show 27≠29 by decide)];exact ⟨(hI.b2 h).1.below hbb,(hI.b2 h).2⟩),(am hI.b3 (by decide) (by decide)),(fun h h'=>by rw [af b true (by decide)] at h h';exact hI.ne h h'),(am hI.c6 (by decide) (by decide)),(am hI.c8 (by decide) (by decide)),(am hI.c11 (by decide) (by decide)),(am hI.c18 (by decide) (by decide)),(am hI.c23 (by decide) (by decide)),(am hI.c26 (by decide) (by decide)),(fun _=>aK _ _ _),(fun _=>⟨hm.get 0 rfl,Nat.le_trans hI.upd.size hfq⟩),(am hI.k1 (by decide) (by decide)),(am hI.k2 (by decide) (by decide))⟩⟩
  ·refine bE 30 o30 rfl ?_
   intro K' hK'
   have hbs:=(hpr 29 (by have h9:=List.all_eq_true.1 p30 29 (by decide);simpa using h9))
   have hmA:=(hcl2 29 (by decide) hbs 20 (by have h9:=List.all_eq_true.1 p29 20 (by decide);simpa using h9))
   have hmB:=(hcl2 29 (by decide) hbs 28 (by have h9:=List.all_eq_true.1 p29 28 (by decide);simpa using h9))
   have hkA:=(hcl2 20 (by decide) hmA 4 (by have h9:=List.all_eq_true.1 p20 4 (by decide);simpa using h9))
   have hkB:=(hcl2 28 (by decide) hmB 21 (by have h9:=List.all_eq_true.1 p28 21 (by decide);simpa using h9))
   have hi9:=(hcl2 20 (by decide) hmA 9 (by have h9:=List.all_eq_true.1 p20 9 (by decide);simpa using h9))
   have hi19:=(hcl2 20 (by decide) hmA 19 (by have h9:=List.all_eq_true.1 p20 19 (by decide);simpa using h9))
   have hi27:=(hcl2 28 (by decide) hmB 27 (by have h9:=List.all_eq_true.1 p28 27 (by decide);simpa using h9))
   have hpA:=hI.a2 hkA
   have hpB:=hI.b2 hkB
   rw [hi9,hi19] at hpA
   rw [hi27] at hpB
   have hsl:=hAt hbi
   refine b4 (enters_of Tryz.func22 (by kernel_rfl) rfl) (vs:=#[.pointer (some ⟨g,0,none⟩),.slice (some ⟨bs,0,none⟩) 2 2]) (by simp only [List.map_toArray,List.map_cons,List.map_nil,hI.act,bS (a:=a0) (c:=c) (show 35 ∉ [12,36,38,40,42,49,50,51,53,56,57,58,59] by decide),e35,aX (a:=a0) (show ([12,36,38,40,42,49,50,51,53,56,57,58,59]:List Nat).Nodup by decide) (show 58∈[12,36,38,40,42,49,50,51,53,56,57,58,59] by decide) (by rw [hsz];decide) (hI.s1 hbs)]) (hkp w mA mB bs hsl.dk hI.upd (hI.s2 hbs).2 (hI.s2 hbs).1 (hpA.1.ph (by decide)) hpA.2 (hpB.1.ph (by decide)) hpB.2) ?_
   rintro e w' ⟨rfl,hdk,hu⟩
   refine ⟨_,rfl,aW (hK' _ _ ?_)⟩
   exact ⟨setF c 59 (some (.int .i64 ct)),mA,mB,bs,⟨(by rw [hI.act,a8 _ (by decide) (by decide)]),(fun j hj hn=>by rw [af _ _ (fun e=>hn (by rw [e];decide))];exact hI.oth j hj hn),(by rw [aK,if_pos rfl];exact hsl.disk hdk hu),(hI.upd.trans hu),(am hI.a1 (by decide) (by decide)),(fun h=>by rw [af b true (show 4≠30 by decide)] at h;rw [af b true (show 9≠30 by decide),af b true (show 19≠30 by decide)];exact ⟨(hI.a2 h).1.keep (hu.block mA (hI.a2 h).1.lt (hnf _ (hI.a2 h).2)),(hI.a2 h).2⟩),(am hI.a3 (by decide) (by decide)),(am hI.b1 (by decide) (by decide)),(fun h=>by rw [af b true (show 21≠30 by decide)] at h;rw [af b true (show 27≠30 by decide)];exact ⟨(hI.b2 h).1.keep (hu.block mB (hI.b2 h).1.lt (hnf _ (hI.b2 h).2)),(hI.b2 h).2⟩),(am hI.b3 (by decide) (by decide)),(fun h h'=>by rw [af b true (by decide)] at h h';exact hI.ne h h'),(am hI.c6 (by decide) (by decide)),(am hI.c8 (by decide) (by decide)),(am hI.c11 (by decide) (by decide)),(am hI.c18 (by decide) (by decide)),(am hI.c23 (by decide) (by decide)),(am hI.c26 (by decide) (by decide)),(am hI.s1 (by decide) (by decide)),(fun h=>by rw [af b true (by decide)] at h;exact ⟨hu.row (hI.s2 h).1 (hnf _ (hI.s2 h).2),(hI.s2 h).2⟩),(fun _=>aK _ _ _),(am hI.k2 (by decide) (by decide))⟩⟩
  ·refine bE 31 o31 rfl ?_
   intro K' hK'
   refine wpl_asgV (v:=.int .i64 ct) (by rw [hI.act];exact aX (by decide) (by decide) (by rw [hsz];decide) (hI.k1 (hpr 30 (by have h9:=List.all_eq_true.1 p31 30 (by decide);simpa using h9)))) ?_
   refine aW (hK' _ _ ?_)
   exact ⟨setF c 12 (some (.int .i64 ct)),mA,mB,bs,⟨(by rw [hI.act,a8 _ (by decide) (by decide)]),(fun j hj hn=>by rw [af _ _ (fun e=>hn (by rw [e];decide))];exact hI.oth j hj hn),(by rw [af _ _ (show 30≠31 by decide)];exact hI.at_),(hI.upd),(am hI.a1 (by decide) (by decide)),(fun h=>by rw [af b true (show 4≠31 by decide)] at h;rw [af b true (show 9≠31 by decide),af b true (show 19≠31 by decide)];exact ⟨(hI.a2 h).1,(hI.a2 h).2⟩),(am hI.a3 (by decide) (by decide)),(am hI.b1 (by decide) (by decide)),(fun h=>by rw [af b true (show 21≠31 by decide)] at h;rw [af b true (show 27≠31 by decide)];exact ⟨(hI.b2 h).1,(hI.b2 h).2⟩),(am hI.b3 (by decide) (by decide)),(fun h h'=>by rw [af b true (by decide)] at h h';exact hI.ne h h'),(am hI.c6 (by decide) (by decide)),(am hI.c8 (by decide) (by decide)),(am hI.c11 (by decide) (by decide)),(am hI.c18 (by decide) (by decide)),(am hI.c23 (by decide) (by decide)),(am hI.c26 (by decide) (by decide)),(am hI.s1 (by decide) (by decide)),(fun h=>by rw [af b true (by decide)] at h;exact ⟨(hI.s2 h).1,(hI.s2 h).2⟩),(am hI.k1 (by decide) (by decide)),(fun _=>aK _ _ _)⟩⟩
 ·rintro b a w ⟨c,mA,mB,bs,hI⟩ hall
  have h9:=hend w mA mB bs (by have h8:=hI.at_;rw [hall 30 (by decide)] at h8;exact h8) hI.upd
  rw [hI.act,laidC]
  simp only [List.map_cons,List.map_nil,hI.a1 (hall 4 (by decide)),hI.a3 (hall 20 (by decide)),hI.b1 (hall 21 (by decide)),hI.b3 (hall 28 (by decide)),hI.s1 (hall 29 (by decide)),hI.k1 (hall 30 (by decide)),hI.k2 (hall 31 (by decide)),hI.c6 (hall 6 (by decide)),hI.c8 (hall 8 (by decide)),hI.c11 (hall 11 (by decide)),hI.c18 (hall 18 (by decide)),hI.c23 (hall 23 (by decide)),hI.c26 (hall 26 (by decide))]
  exact h9
 ·intro j hj hjt k hk
  have h9:=List.all_eq_true.1 hcl j (List.mem_range.2 hj)
  rw [hjt] at h9
  simp only [Bool.not_true,Bool.false_or] at h9
  exact List.all_eq_true.1 h9 k hk
 ·have hbL:∀j,j<32→L.getD j false = !([4,6,8,9,11,18,19,20,21,23,26,27,28,29,30,31]:List Nat).contains j:=fun j hj=>by
   have h9:=List.all_eq_true.1 hLo j (List.mem_range.2 hj)
   simpa using h9
  have hf:∀j,j∈[4,6,8,9,11,18,19,20,21,23,26,27,28,29,30,31]→L.getD j false=false:=fun j hj=>by
   rw [hbL j (by simp only [List.mem_cons,List.not_mem_nil,or_false] at hj;omega),List.contains_iff_mem.2 hj]
   rfl
  refine ⟨fun _=>none,0,0,0,(i1 a0 _).symm,fun j hj hn=>?_,(by show SlAt w g mb kv sb hb (if L.getD 30 false=true then R else d) t;rw [hf 30 (by decide)];exact hatw),hW,(fun h=>by rw [show L.getD 4 false=false from hf 4 (by decide)] at h;cases h),(fun h=>by rw [show L.getD 4 false=false from hf 4 (by decide)] at h;cases h),(fun h=>by rw [show L.getD 20 false=false from hf 20 (by decide)] at h;cases h),(fun h=>by rw [show L.getD 21 false=false from hf 21 (by decide)] at h;cases h),(fun h=>by rw [show L.getD 21 false=false from hf 21 (by decide)] at h;cases h),(fun h=>by rw [show L.getD 28 false=false from hf 28 (by decide)] at h;cases h),(fun h=>by rw [show L.getD 4 false=false from hf 4 (by decide)] at h;cases h),(fun h=>by rw [show L.getD 6 false=false from hf 6 (by decide)] at h;cases h),(fun h=>by rw [show L.getD 8 false=false from hf 8 (by decide)] at h;cases h),(fun h=>by rw [show L.getD 11 false=false from hf 11 (by decide)] at h;cases h),(fun h=>by rw [show L.getD 18 false=false from hf 18 (by decide)] at h;cases h),(fun h=>by rw [show L.getD 23 false=false from hf 23 (by decide)] at h;cases h),(fun h=>by rw [show L.getD 26 false=false from hf 26 (by decide)] at h;cases h),(fun h=>by rw [show L.getD 29 false=false from hf 29 (by decide)] at h;cases h),(fun h=>by rw [show L.getD 29 false=false from hf 29 (by decide)] at h;cases h),(fun h=>by rw [show L.getD 30 false=false from hf 30 (by decide)] at h;cases h),(fun h=>by rw [show L.getD 31 false=false from hf 31 (by decide)] at h;cases h)⟩
  show L.getD j false=true
  rw [hbL j hj]
  cases h9:([4,6,8,9,11,18,19,20,21,23,26,27,28,29,30,31]:List Nat).contains j with
  | false=>rfl
  | true=>exact absurd (List.contains_iff_mem.1 h9) hn
open Go Go.RowKit Go.Maps
def zero32:List Int:=List.replicate 32 0
def unwOk (kek:List Int) (i:Nat) (x:Ent):Bool:=decide (x.2.drop 32=tagOf kek (nonceOf (i:Int) (x.1:Int)) labWrap (x.2.take 32))
def unwV (kek:List Int) (i:Nat) (x:Ent):List Int×Int:=if unwOk kek i x=true then (encOf kek (nonceOf (i:Int) (x.1:Int)) (x.2.take 32),0) else (zero32,50)
def getV (held:Nat→Option Ent) (i:Int) (kek:List Int):List Int×Int :=
 if okI i=true then (match held i.toNat with|none=>(zero32,120)|some x=>unwV kek i.toNat x) else (zero32,70)
theorem eh (kek:List Int) (i:Nat) {x:Ent} (h:x.2.length=48):(unwV kek i x).1.length=32:=by
 unfold unwV
 split
 ·rw [cH,List.length_take,h];rfl
 ·simp [zero32]
theorem wrapUi (i:Nat) (h:i<24):IntKind.u32.wrap (i:Int)=(i:Int):=wrapw _ (by omega) (by omega)
theorem unwrapS_any (kek:List Int) (i:Nat) (x:Ent) (hkl:kek.length=32) (hkb:Bytes kek) (hi:i<24) (hx:EntOk x) (w:World) (ht:Tab w) (hq:QTab w) :
  Calls Tryz.prog 29 #[.agg (u8s kek).toArray,.int .u32 (i:Int),.int .u64 (x.1:Int),.agg (u8s x.2).toArray] w fun e w'=>e=.returned (.tuple #[.agg (u8s (unwV kek i x).1).toArray,.int .i64 (unwV kek i x).2])∧Below w.heap.size w w':=by
 unfold unwV
 cases ho:unwOk kek i x with
 | true=>exact unwrap_good kek x.2 _ (i:Int) (x.1:Int) hkl hx.len hkb hx.bytes (by omega) (of_decide_eq_true ho) rfl w ht hq
 | false=>exact unwrap_bad kek x.2 (i:Int) (x.1:Int) hkl hx.len hkb hx.bytes (by omega) (of_decide_eq_false ho) w ht hq
theorem get_no (g mb:Nat) (kv:Value) (sb hb:Nat) (d:Dk) (t:Slt) (i:Int) (kek:List Int) (hkl:kek.length=32) (hkb:Bytes kek) (w:World) (ht:Tab w) (hq:QTab w) (h:SlAt w g mb kv sb hb d t) (ho:okI i=false) :
  Calls Tryz.prog 11 #[.pointer (some ⟨sb,0,none⟩),.int .i64 i,.agg (u8s kek).toArray] w fun e w'=>e=.returned (.tuple #[.agg (u8s zero32).toArray,.int .i64 70])∧Below w.heap.size w w':=by
 have HOK:Hid (okI i=false):=ho
 clear ho
 have HA:Hid (SlAt w g mb kv sb hb d t):=h
 have HT:Hid (Tab w):=ht
 have HQT:Hid (QTab w):=hq
 have HKL:Hid (kek.length=32):=hkl
 have HKU:Hid ((u8s kek).length=32):=by show _=_;rw [ab,hkl]
 have HKB:Hid (Bytes kek):=hkb
 have hm:=Mem.start w
 clear h ht hq hkl hkb
 go_enter Tryz.func11,Tryz.ntmps11
 go_wp2_with (first
  | ((with_reducible refine aa (some 5) (.box 39 (.tmp 2)) ?_);refine aB (u8s kek) rfl hm ?_;clear hm;intro w1 g5 hm)
  | ((with_reducible refine aa (some 6) (.alloc 39) ?_);refine aj _ bd hm ?_;clear hm;intro w2 g6 hm)
  | (go_at_call 28;refine (dq _ _).mono ?_;rintro e w1 ⟨he,rfl⟩;rw [HOK.out] at he;subst he)
  | ((with_reducible refine aa (some 13) (.build 39 #[]) ?_);go_must (refine aM (u8s zero32) _ rfl dU ?_))
  | ((with_reducible refine aa none (.store 39 (.tmp 6) (.tmp 13)) ?_);refine ap 0 (u8s zero32) hm rfl rfl rfl 32 az (by simp [ab]) (by simp [ab,zero32]) (aq _) ?_;clear hm;intro w8 hm))
 exact dA 0 _ hm rfl Tryz.results11 rfl rfl _ aS rfl 32 az (by simp [ab,zero32]) rfl ⟨rfl,hm.below⟩
theorem get_none (g mb:Nat) (kv:Value) (sb hb:Nat) (d:Dk) (t:Slt) (k:Nat) (hk:k<24) (kek:List Int) (hkl:kek.length=32) (hkb:Bytes kek) (w:World) (ht:Tab w) (hq:QTab w) (h:SlAt w g mb kv sb hb d t) (hx:t.held k=none) :
  Calls Tryz.prog 11 #[.pointer (some ⟨sb,0,none⟩),.int .i64 (k:Int),.agg (u8s kek).toArray] w fun e w'=>e=.returned (.tuple #[.agg (u8s zero32).toArray,.int .i64 120])∧Below w.heap.size w w':=by
 have HOK:Hid (okI (k:Int)=true):=by show _=_;unfold okI;exact decide_eq_true (by omega)
 have HX:Hid (t.held k=none):=hx
 have HEL:Hid ((entL noEnt).length=49):=aI (by simp [noEnt])
 clear hx
 have HA:Hid (SlAt w g mb kv sb hb d t):=h
 have HT:Hid (Tab w):=ht
 have HQT:Hid (QTab w):=hq
 have HKL:Hid (kek.length=32):=hkl
 have HKU:Hid ((u8s kek).length=32):=by show _=_;rw [ab,hkl]
 have HKB:Hid (Bytes kek):=hkb
 have hm:=Mem.start w
 clear h ht hq hkl hkb
 go_enter Tryz.func11,Tryz.ntmps11
 go_wp2_with (first
  | ((with_reducible refine aa (some 5) (.box 39 (.tmp 2)) ?_);refine aB (u8s kek) rfl hm ?_;clear hm;intro w1 g5 hm)
  | ((with_reducible refine aa (some 6) (.alloc 39) ?_);refine aj _ bd hm ?_;clear hm;intro w2 g6 hm)
  | (go_at_call 28;refine (dq _ _).mono ?_;rintro e w1 ⟨he,rfl⟩;rw [HOK.out] at he;subst he)
  | ((with_reducible refine aa (some 18) (.load 60 (.tmp 17)) ?_);go_must (refine aQ (.map (some hb)) ((SlAt.cell (HA.out.below hm.below) 1).trans rfl) rfl cj ?_))
  | ((with_reducible refine aa (some 20) (.lookup 60 (.tmp 18) (.tmp 19) true) ?_);go_must (refine ae (.tuple #[.agg (entL noEnt).toArray,.bool false]) rfl (bG (by have h9:=SlAt.look (HA.out.below hm.below) k (by omega);rw [HX.out] at h9;exact h9) rfl rfl) ?_))
  | ((with_reducible refine aa (some 8) (.alloc 67) ?_);refine aj _ bF hm ?_;clear hm;intro w3 g8 hm)
  | ((with_reducible refine aa none (.store 67 (.tmp 8) (.tmp 21)) ?_);refine ap 0 (entL noEnt) hm rfl rfl rfl 49 bY (aI (by simp [noEnt])) HEL.out (cx _) ?_;clear hm;intro w4 hm)
  | ((with_reducible refine aa (some 25) (.build 39 #[]) ?_);go_must (refine aM (u8s zero32) _ rfl dU ?_))
  | ((with_reducible refine aa none (.store 39 (.tmp 6) (.tmp 25)) ?_);refine ap 1 (u8s zero32) hm rfl rfl rfl 32 az (by simp [ab]) (by simp [ab,zero32]) (aq _) ?_;clear hm;intro w8 hm))
 exact dA 1 _ hm rfl Tryz.results11 rfl rfl _ aS rfl 32 az (by simp [ab,zero32]) rfl ⟨rfl,hm.below⟩
theorem get_some (g mb:Nat) (kv:Value) (sb hb:Nat) (d:Dk) (t:Slt) (k:Nat) (hk:k<24) (kek:List Int) (hkl:kek.length=32) (hkb:Bytes kek) (w:World) (ht:Tab w) (hq:QTab w) (h:SlAt w g mb kv sb hb d t) (x:Ent) (hx:t.held k=some x) :
  Calls Tryz.prog 11 #[.pointer (some ⟨sb,0,none⟩),.int .i64 (k:Int),.agg (u8s kek).toArray] w fun e w'=>e=.returned (.tuple #[.agg (u8s (unwV kek k x).1).toArray,.int .i64 (unwV kek k x).2])∧Below w.heap.size w w':=by
 have HOK:Hid (okI (k:Int)=true):=by show _=_;unfold okI;exact decide_eq_true (by omega)
 have HX:Hid (t.held k=some x):=hx
 have HEO:Hid (EntOk x):=(h.ok.held k x hx).2
 have HEL:Hid ((entL x).length=49):=aI HEO.out.len
 have HW:IntKind.u32.wrap (k:Int)=(k:Int):=wrapUi k hk
 obtain ⟨V,hV⟩:∃V,V=unwV kek k x:=⟨_,rfl⟩
 have HV:Hid (∀_:Unit,unwV kek k x=V):=fun _=>hV.symm
 have HVL:Hid ((u8s V.1).length=32):=by show _=_;rw [hV,ab,eh kek k HEO.out.len]
 have HKS:Hid (((entL x).drop 1).take 48=u8s x.2):=by show (u8s x.2).take 48=_;rw [List.take_of_length_le (by rw [ab,HEO.out.len];omega)]
 rw [←hV]
 clear hx hV
 have HA:Hid (SlAt w g mb kv sb hb d t):=h
 have HT:Hid (Tab w):=ht
 have HQT:Hid (QTab w):=hq
 have HKL:Hid (kek.length=32):=hkl
 have HKU:Hid ((u8s kek).length=32):=by show _=_;rw [ab,hkl]
 have HKB:Hid (Bytes kek):=hkb
 have hm:=Mem.start w
 clear h ht hq hkl hkb
 go_enter Tryz.func11,Tryz.ntmps11
 go_wp2_with (first
  | ((with_reducible refine aa (some 5) (.box 39 (.tmp 2)) ?_);refine aB (u8s kek) rfl hm ?_;clear hm;intro w1 g5 hm)
  | ((with_reducible refine aa (some 6) (.alloc 39) ?_);refine aj _ bd hm ?_;clear hm;intro w2 g6 hm)
  | (go_at_call 28;refine (dq _ _).mono ?_;rintro e w1 ⟨he,rfl⟩;rw [HOK.out] at he;subst he)
  | ((with_reducible refine aa (some 18) (.load 60 (.tmp 17)) ?_);go_must (refine aQ (.map (some hb)) ((SlAt.cell (HA.out.below hm.below) 1).trans rfl) rfl cj ?_))
  | ((with_reducible refine aa (some 20) (.lookup 60 (.tmp 18) (.tmp 19) true) ?_);go_must (refine ae (.tuple #[.agg (entL x).toArray,.bool true]) rfl (bG (by have h9:=SlAt.look (HA.out.below hm.below) k (by omega);rw [HX.out] at h9;exact h9) rfl rfl) ?_))
  | ((with_reducible refine aa (some 8) (.alloc 67) ?_);refine aj _ bF hm ?_;clear hm;intro w3 g8 hm)
  | ((with_reducible refine aa none (.store 67 (.tmp 8) (.tmp 21)) ?_);refine ap 0 (entL x) hm rfl rfl rfl 49 bY (aI (by simp [noEnt])) HEL.out (cx _) ?_;clear hm;intro w4 hm)
  | ((with_reducible refine aa (some 26) (.load 39 (.tmp 5)) ?_);refine ay 2 hm rfl rfl _ aS rfl 32 az (HKU.out) ?_)
  | ((with_reducible refine aa (some 30) (.load 59 (.tmp 29)) ?_);go_must (refine bi 0 0 (.int .u64 (x.1:Int)) hm rfl rfl gI rfl ?_))
  | ((with_reducible refine aa (some 32) (.load 65 (.tmp 31)) ?_);refine eO 0 1 (u8s x.2) hm rfl rfl _ dD rfl 48 d3 (by rw [HEL.out];omega) (HKS.out) ?_)
  | (go_at_call 29;refine (unwrapS_any kek k x HKL.out HKB.out hk HEO.out _ (Tab.mem HT.out hm (by simp)) (QTab.mem HQT.out hm (by simp))).mono ?_;rintro e w5 ⟨he,hb⟩;rw [HV.out ()] at he;subst he;replace hm:=hm.call hb;clear hb)
  | ((with_reducible refine aa none (.store 39 (.tmp 6) (.tmp 34)) ?_);refine ap 1 (u8s V.1) hm rfl rfl rfl 32 az (by simp [ab]) (HVL.out) (aq _) ?_;clear hm;intro w8 hm))
 exact dA 1 _ hm rfl Tryz.results11 rfl rfl _ aS rfl 32 az (HVL.out) rfl ⟨rfl,hm.below⟩
theorem dM (g mb:Nat) (kv:Value) (sb hb:Nat) (d:Dk) (t:Slt) (i:Int) (kek:List Int) (hkl:kek.length=32) (hkb:Bytes kek) (w:World) (ht:Tab w) (hq:QTab w) (h:SlAt w g mb kv sb hb d t) :
  Calls Tryz.prog 11 #[.pointer (some ⟨sb,0,none⟩),.int .i64 i,.agg (u8s kek).toArray] w fun e w'=>e=.returned (.tuple #[.agg (u8s (getV t.held i kek).1).toArray,.int .i64 (getV t.held i kek).2])∧Below w.heap.size w w':=by
 unfold getV
 cases ho:okI i with
 | false=>exact get_no g mb kv sb hb d t i kek hkl hkb w ht hq h ho
 | true =>
  obtain ⟨k,rfl,hk⟩:=okI_nat ho
  rw [if_pos rfl,Int.toNat_natCast]
  cases hx:t.held k with
  | none=>exact get_none g mb kv sb hb d t k hk kek hkl hkb w ht hq h hx
  | some x=>exact get_some g mb kv sb hb d t k hk kek hkl hkb w ht hq h x hx
end Go.Proofs.YtnllomcajijbjaaGreatDoor
