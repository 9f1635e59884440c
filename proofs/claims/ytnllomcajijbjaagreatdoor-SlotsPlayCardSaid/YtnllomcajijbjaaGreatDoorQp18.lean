import Derived.Test.YtnllomcajijbjaaGreatDoorQp17
set_option maxRecDepth 100000
set_option maxHeartbeats 4000000
namespace Go.Proofs.YtnllomcajijbjaaGreatDoor
open Go Go.RowKit Go.Maps Go.Shelf
structure EraI (a0:Act) (W1:World) (g mb:Nat) (kv:Value) (sb hb:Nat) (d R:Dk) (t:Slt) (k:Nat) (X:Ent) (ct:Int) (b:Nat→Bool) (a:Act) (w:World) (c:Nat→Option Value) (mA mB bs:Nat):Prop where
 act:a=laidC a0 [6,17,19,26,27,28,30,32,33,34] c
 oth:∀j,j<25→j ∉ [4,6,13,14,15,16,18,20,21,22,23,24]→b j=true
 at_:SlAt w g mb kv sb hb (if b 23=true then R else d) t
 upd:UpdS (foot g mb kv) W1 w
 a1:b 4=true→c 17=some (.map (some mA))
 a2:b 4=true→PhQ w mA (((b 14)).toNat) (ph1 (2+k) (unE X) (b 14))∧W1.heap.size≤mA
 a3:b 15=true→c 27=some (.map (some mA))
 b1:b 16=true→c 28=some (.map (some mB))
 b2:b 16=true→PhQ w mB (((b 20)).toNat) (ph1 (2+k) (zeroK) (b 20))∧W1.heap.size≤mB
 b3:b 21=true→c 32=some (.map (some mB))
 ne:b 4=true→b 16=true→mA≠mB
 c6:b 6=true→c 19=some (.int .i64 ((2+k:Nat):Int))
 c13:b 13=true→c 26=some (.agg (u8s (unE X)).toArray)
 c18:b 18=true→c 30=some (.int .i64 ((2+k:Nat):Int))
 s1:b 22=true→c 33=some (.slice (some ⟨bs,0,none⟩) 2 2)
 s2:b 22=true→Row w bs [.map (some mA),.map (some mB)] 55∧W1.heap.size≤bs
 k1:b 23=true→c 34=some (.int .i64 ct)
 k2:b 24=true→c 6=some (.int .i64 ct)
theorem EraI_dag {ops:Array Oper} {T:World→Prop} {Rr:Act→World→Prop} {ty4 ty6 ty13 ty14 ty15 ty16 ty18 ty20 ty21 ty22 ty23 ty24:TypeId} {ps4 ps6 ps13 ps14 ps15 ps16 ps18 ps20 ps21 ps22 ps23 ps24:String} {af4 af6 af13 af14 af15 af16 af18 af20 af21 af22 af23 af24:Array Edge} {at6 at13 at18 at23:Array TypeId} (hn:ops.size=25)
  (o4:ops[4]?=some {dst:=some 17,op:=.makeMap 55 none,type:=ty4,pos:=ps4,after:=af4,guard:=none}) (o6:ops[6]?=some {dst:=some 19,op:=.call {callee:=.value (.func 21),args:=#[.tmp 18],argTypes:=at6},type:=ty6,pos:=ps6,after:=af6,guard:=none}) (o13:ops[13]?=some {dst:=some 26,op:=.call {callee:=.value (.func 20),args:=#[.tmp 25],argTypes:=at13},type:=ty13,pos:=ps13,after:=af13,guard:=none}) (o14:ops[14]?=some {dst:=none,op:=.insert 55 (.tmp 17) (.tmp 19) (.tmp 26),type:=ty14,pos:=ps14,after:=af14,guard:=none}) (o15:ops[15]?=some {dst:=some 27,op:=.move (.tmp 17),type:=ty15,pos:=ps15,after:=af15,guard:=none}) (o16:ops[16]?=some {dst:=some 28,op:=.makeMap 55 none,type:=ty16,pos:=ps16,after:=af16,guard:=none}) (o18:ops[18]?=some {dst:=some 30,op:=.call {callee:=.value (.func 21),args:=#[.tmp 29],argTypes:=at18},type:=ty18,pos:=ps18,after:=af18,guard:=none}) (o20:ops[20]?=some {dst:=none,op:=.insert 55 (.tmp 28) (.tmp 30) (.tmp 31),type:=ty20,pos:=ps20,after:=af20,guard:=none}) (o21:ops[21]?=some {dst:=some 32,op:=.move (.tmp 28),type:=ty21,pos:=ps21,after:=af21,guard:=none}) (o22:ops[22]?=some {dst:=some 33,op:=.buildSlice 90 2 #[(0,.tmp 27),(1,.tmp 32)],type:=ty22,pos:=ps22,after:=af22,guard:=none}) (o23:ops[23]?=some {dst:=some 34,op:=.call {callee:=.value (.func 22),args:=#[.tmp 16,.tmp 33],argTypes:=at23},type:=ty23,pos:=ps23,after:=af23,guard:=none}) (o24:ops[24]?=some {dst:=some 6,op:=.assign (.tmp 34),type:=ty24,pos:=ps24,after:=af24,guard:=none})
  (hup:((List.range ops.size).all fun i=>(predsOf ops i).all fun j=>decide (j<i))=true) (p14:[4,6,13].all (fun j=>(predsOf ops 14).contains j)=true) (p15:[4,14].all (fun j=>(predsOf ops 15).contains j)=true) (p20:[16,18].all (fun j=>(predsOf ops 20).contains j)=true) (p21:[16,20].all (fun j=>(predsOf ops 21).contains j)=true) (p22:[15,21].all (fun j=>(predsOf ops 22).contains j)=true) (p23:[22].all (fun j=>(predsOf ops 23).contains j)=true) (p24:[23].all (fun j=>(predsOf ops 24).contains j)=true)
  (a0:Act) (hsz:a0.tmps.size=45)
  (W1:World) (g mb:Nat) (kv:Value) (sb hb:Nat) (d R:Dk) (t:Slt) (k:Nat) (X:Ent) (ct:Int) (e16:a0.eval (.tmp 16)=.pointer (some ⟨g,0,none⟩)) (e18:a0.eval (.tmp 18)=.int .i64 (k:Int)) (e25:a0.eval (.tmp 25)=.agg (entL X).toArray) (e29:a0.eval (.tmp 29)=.int .i64 (k:Int)) (hk:k<24) (hX:X.2.length=48) (e31:a0.eval (.tmp 31)=.agg (u8s zeroK).toArray)
  (hkp:∀(w:World) (mA mB bs:Nat),DkAt w g mb kv d→UpdS (foot g mb kv) W1 w→W1.heap.size≤bs→Row w bs [.map (some mA),.map (some mB)] 55→PhM w mA (ph1 (2+k) (unE X) true)→W1.heap.size≤mA→PhM w mB (ph1 (2+k) (zeroK) true)→W1.heap.size≤mB→Calls Tryz.prog 22 #[.pointer (some ⟨g,0,none⟩),.slice (some ⟨bs,0,none⟩) 2 2] w fun e w'=>e=.returned (.int .i64 ct)∧DkAt w' g mb kv R∧UpdS (foot g mb kv) w w')
  (hT:∀w d',SlAt w g mb kv sb hb d' t→UpdS (foot g mb kv) W1 w→T w)
  (L:Array Bool) (fuel:Nat) (hL:L.size=25) (hc:L.toList.count false≤fuel) (hLo:((List.range 25).all fun j=>L.getD j false == !([4,6,13,14,15,16,18,20,21,22,23,24]:List Nat).contains j)=true) (hcl:((List.range 25).all fun j => !L.getD j false||(predsOf ops j).all fun k=>L.getD k false)=true)
  (w:World) (hW:UpdS (foot g mb kv) W1 w) (hat:SlAt W1 g mb kv sb hb d t) (hatw:SlAt w g mb kv sb hb d t)
  (hend:∀(w':World) (mA mB bs:Nat),SlAt w' g mb kv sb hb R t→UpdS (foot g mb kv) W1 w'→Rr (laidL a0 [(6,some (.int .i64 ct)),(17,some (.map (some mA))),(19,some (.int .i64 ((2+k:Nat):Int))),(26,some (.agg (u8s (unE X)).toArray)),(27,some (.map (some mA))),(28,some (.map (some mB))),(30,some (.int .i64 ((2+k:Nat):Int))),(32,some (.map (some mB))),(33,some (.slice (some ⟨bs,0,none⟩) 2 2)),(34,some (.int .i64 ct))]) w') :
  wpAnyH Tryz.prog .any ops (endsIn Rr) T fuel L a0 w:=by
 have hft:∀k∈footS g mb kv sb hb,k<W1.heap.size:=hat.lt
 have hnf:∀m,W1.heap.size≤m→m ∉ foot g mb kv:=fun m hm h=>by have:=hft m (by simp [footS,h]);omega
 refine dag_go (n:=25) (fun b a w=>∃c mA mB bs,EraI a0 W1 g mb kv sb hb d R t k X ct b a w c mA mB bs) hn (fun b a w ⟨c,mA,mB,bs,h⟩=>hT w _ h.at_ h.upd) hup ?_ ?_ fuel L a0 w hL hc ?_ ?_
 ·rintro b a w i ⟨c,mA,mB,bs,hI⟩ hi hbi hpr hcl2
  have hmem:i∈[4,6,13,14,15,16,18,20,21,22,23,24]:=by
   rcases Classical.em (i∈[4,6,13,14,15,16,18,20,21,22,23,24]) with h|h
   ·exact h
   ·rw [hI.oth i hi h] at hbi;cases hbi
  simp only [List.mem_cons,List.not_mem_nil,or_false] at hmem
  have hAt:b 23=false→SlAt w g mb kv sb hb d t:=fun h=>by have h9:=hI.at_;rw [h] at h9;exact h9
  rcases hmem with rfl|rfl|rfl|rfl|rfl|rfl|rfl|rfl|rfl|rfl|rfl|rfl
  ·refine bE 4 o4 rfl ?_
   intro K' hK'
   refine db (Mem.start w) ?_
   intro w' m hmp hge hbb _
   refine aW (hK' _ _ ?_)
   have hf14:b 14=false:=by
    cases h9:b 14 with
    | false=>rfl
    | true=>rw [(hcl2 14 (by decide) h9 4 (by have h9:=List.all_eq_true.1 p14 4 (by decide);simpa using h9))] at hbi;cases hbi
   have hfm:b 15=false:=by
    cases h9:b 15 with
    | false=>rfl
    | true=>rw [(hcl2 15 (by decide) h9 4 (by have h9:=List.all_eq_true.1 p15 4 (by decide);simpa using h9))] at hbi;cases hbi
   have hfs:b 22=false:=by
    cases h9:b 22 with
    | false=>rfl
    | true=>rw [(hcl2 22 (by decide) h9 15 (by have h9:=List.all_eq_true.1 p22 15 (by decide);simpa using h9))] at hfm;cases hfm
   exact ⟨setF c 17 (some (.map (some m))),m,mB,bs,⟨(by rw [hI.act,a8 _ (by decide) (by decide)]),(fun j hj hn=>by rw [af _ _ (fun e=>hn (by rw [e];decide))];exact hI.oth j hj hn),(by rw [af _ _ (show 23≠4 by decide)];exact hI.at_.below hbb),(hI.upd.trans (UpdS.of_below hbb)),(fun _=>aK _ _ _),(fun _=>⟨by rw [af b true (show 14≠4 by decide),hf14];exact gK _ _ hmp,Nat.le_trans hI.upd.size hge⟩),(fun h=>by rw [af b true (by decide),hfm] at h;cases h),(am hI.b1 (by decide) (by decide)),(fun h=>by rw [af b true (show 16≠4 by decide)] at h;rw [af b true (show 20≠4 by decide)];exact ⟨(hI.b2 h).1.below hbb,(hI.b2 h).2⟩),(am hI.b3 (by decide) (by decide)),(fun _ h=>by rw [af b true (by decide)] at h;have h8:=(hI.b2 h).1.lt;omega),(am hI.c6 (by decide) (by decide)),(am hI.c13 (by decide) (by decide)),(am hI.c18 (by decide) (by decide)),(am hI.s1 (by decide) (by decide)),(fun h=>by rw [af b true (by decide),hfs] at h;cases h),(am hI.k1 (by decide) (by decide)),(am hI.k2 (by decide) (by decide))⟩⟩
  ·refine bE 6 o6 rfl ?_
   intro K' hK'
   refine b4 (enters_of Tryz.func21 (by kernel_rfl) rfl) (vs:=#[.int .i64 (k:Int)]) (by simp only [List.map_toArray,List.map_cons,List.map_nil,hI.act,bS (a:=a0) (c:=c) (show 18 ∉ [6,17,19,26,27,28,30,32,33,34] by decide),e18]) (bD k (by omega) w) ?_
   rintro e w' ⟨rfl,hw⟩
   replace hw:=hw.symm
   subst hw
   refine ⟨_,rfl,aW (hK' _ _ ?_)⟩
   exact ⟨setF c 19 (some (.int .i64 ((2+k:Nat):Int))),mA,mB,bs,⟨(by rw [hI.act,a8 _ (by decide) (by decide)]),(fun j hj hn=>by rw [af _ _ (fun e=>hn (by rw [e];decide))];exact hI.oth j hj hn),(by rw [af _ _ (show 23≠6 by decide)];exact hI.at_),(hI.upd),(am hI.a1 (by decide) (by decide)),(fun h=>by rw [af b true (show 4≠6 by decide)] at h;rw [af b true (show 14≠6 by decide)];exact ⟨(hI.a2 h).1,(hI.a2 h).2⟩),(am hI.a3 (by decide) (by decide)),(am hI.b1 (by decide) (by decide)),(fun h=>by rw [af b true (show 16≠6 by decide)] at h;rw [af b true (show 20≠6 by decide)];exact ⟨(hI.b2 h).1,(hI.b2 h).2⟩),(am hI.b3 (by decide) (by decide)),(fun h h'=>by rw [af b true (by decide)] at h h';exact hI.ne h h'),(fun _=>aK _ _ _),(am hI.c13 (by decide) (by decide)),(am hI.c18 (by decide) (by decide)),(am hI.s1 (by decide) (by decide)),(fun h=>by rw [af b true (by decide)] at h;exact ⟨(hI.s2 h).1,(hI.s2 h).2⟩),(am hI.k1 (by decide) (by decide)),(am hI.k2 (by decide) (by decide))⟩⟩
  ·refine bE 13 o13 rfl ?_
   intro K' hK'
   refine b4 (enters_of Tryz.func20 (by kernel_rfl) rfl) (vs:=#[.agg (entL X).toArray]) (by simp only [List.map_toArray,List.map_cons,List.map_nil,hI.act,bS (a:=a0) (c:=c) (show 25 ∉ [6,17,19,26,27,28,30,32,33,34] by decide),e25]) (dI X hX w) ?_
   rintro e w' ⟨rfl,hbb⟩
   refine ⟨_,rfl,aW (hK' _ _ ?_)⟩
   exact ⟨setF c 26 (some (.agg (u8s (unE X)).toArray)),mA,mB,bs,⟨(by rw [hI.act,a8 _ (by decide) (by decide)]),(fun j hj hn=>by rw [af _ _ (fun e=>hn (by rw [e];decide))];exact hI.oth j hj hn),(by rw [af _ _ (show 23≠13 by decide)];exact hI.at_.below hbb),(hI.upd.trans (UpdS.of_below hbb)),(am hI.a1 (by decide) (by decide)),(fun h=>by rw [af b true (show 4≠13 by decide)] at h;rw [af b true (show 14≠13 by decide)];exact ⟨(hI.a2 h).1.below hbb,(hI.a2 h).2⟩),(am hI.a3 (by decide) (by decide)),(am hI.b1 (by decide) (by decide)),(fun h=>by rw [af b true (show 16≠13 by decide)] at h;rw [af b true (show 20≠13 by decide)];exact ⟨(hI.b2 h).1.below hbb,(hI.b2 h).2⟩),(am hI.b3 (by decide) (by decide)),(fun h h'=>by rw [af b true (by decide)] at h h';exact hI.ne h h'),(am hI.c6 (by decide) (by decide)),(fun _=>aK _ _ _),(am hI.c18 (by decide) (by decide)),(am hI.s1 (by decide) (by decide)),(fun h=>by rw [af b true (by decide)] at h;exact ⟨Row.bel (hI.s2 h).1 hbb,(hI.s2 h).2⟩),(am hI.k1 (by decide) (by decide)),(am hI.k2 (by decide) (by decide))⟩⟩
  ·refine bE 14 o14 rfl ?_
   intro K' hK'
   have hmk:=(hpr 4 (by have h9:=List.all_eq_true.1 p14 4 (by decide);simpa using h9))
   have hph:=(hI.a2 hmk).1
   rw [hbi] at hph
   refine dt hph (by decide) (2+k) (by omega) (unE X) (by rw [hI.act];exact aX (by decide) (by decide) (by rw [hsz];decide) (hI.a1 hmk)) (by rw [hI.act];exact aX (by decide) (by decide) (by rw [hsz];decide) (hI.c6 (hpr 6 (by have h9:=List.all_eq_true.1 p14 6 (by decide);simpa using h9)))) (by rw [hI.act];exact aX (by decide) (by decide) (by rw [hsz];decide) (hI.c13 (hpr 13 (by have h9:=List.all_eq_true.1 p14 13 (by decide);simpa using h9)))) ?_
   intro w' hp2 hu
   refine aW (hK' _ _ ?_)
   have hge:=(hI.a2 hmk).2
   exact ⟨c,mA,mB,bs,⟨(hI.act),(fun j hj hn=>by rw [af _ _ (fun e=>hn (by rw [e];decide))];exact hI.oth j hj hn),(by rw [af _ _ (show 23≠14 by decide)];exact hI.at_.updO (fun k hk=>Nat.lt_of_lt_of_le (hft k hk) hge) hu),(UpdS.newU hI.upd hge hu),(bf hI.a1 (by decide)),(fun h=>⟨by rw [aK b 14 true];exact phq_in1 hp2,hge⟩),(bf hI.a3 (by decide)),(bf hI.b1 (by decide)),(fun h=>by rw [af b true (show 16≠14 by decide)] at h;rw [af b true (show 20≠14 by decide)];exact ⟨(hI.b2 h).1.upd hu (fun e=>hI.ne hmk h e.symm),(hI.b2 h).2⟩),(bf hI.b3 (by decide)),(fun h h'=>by rw [af b true (by decide)] at h h';exact hI.ne h h'),(bf hI.c6 (by decide)),(bf hI.c13 (by decide)),(bf hI.c18 (by decide)),(bf hI.s1 (by decide)),(fun h=>by rw [af b true (by decide)] at h;exact ⟨hu.row (hI.s2 h).1 (bK (hI.s2 h).1 (PhQ.isMap hph).choose_spec.choose_spec),(hI.s2 h).2⟩),(bf hI.k1 (by decide)),(bf hI.k2 (by decide))⟩⟩
  ·refine bE 15 o15 rfl ?_
   intro K' hK'
   refine fH (v:=.map (some mA)) (by rw [hI.act];exact aX (by decide) (by decide) (by rw [hsz];decide) (hI.a1 (hpr 4 (by have h9:=List.all_eq_true.1 p15 4 (by decide);simpa using h9)))) ?_
   refine aW (hK' _ _ ?_)
   exact ⟨setF c 27 (some (.map (some mA))),mA,mB,bs,⟨(by rw [hI.act,a8 _ (by decide) (by decide)]),(fun j hj hn=>by rw [af _ _ (fun e=>hn (by rw [e];decide))];exact hI.oth j hj hn),(by rw [af _ _ (show 23≠15 by decide)];exact hI.at_),(hI.upd),(am hI.a1 (by decide) (by decide)),(fun h=>by rw [af b true (show 4≠15 by decide)] at h;rw [af b true (show 14≠15 by decide)];exact ⟨(hI.a2 h).1,(hI.a2 h).2⟩),(fun _=>aK _ _ _),(am hI.b1 (by decide) (by decide)),(fun h=>by rw [af b true (show 16≠15 by decide)] at h;rw [af b true (show 20≠15 by decide)];exact ⟨(hI.b2 h).1,(hI.b2 h).2⟩),(am hI.b3 (by decide) (by decide)),(fun h h'=>by rw [af b true (by decide)] at h h';exact hI.ne h h'),(am hI.c6 (by decide) (by decide)),(am hI.c13 (by decide) (by decide)),(am hI.c18 (by decide) (by decide)),(am hI.s1 (by decide) (by decide)),(fun h=>by rw [af b true (by decide)] at h;exact ⟨(hI.s2 h).1,(hI.s2 h).2⟩),(am hI.k1 (by decide) (by decide)),(am hI.k2 (by decide) (by decide))⟩⟩
  ·refine bE 16 o16 rfl ?_
   intro K' hK'
   refine db (Mem.start w) ?_
   intro w' m hmp hge hbb _
   refine aW (hK' _ _ ?_)
   have hf20:b 20=false:=by
    cases h9:b 20 with
    | false=>rfl
    | true=>rw [(hcl2 20 (by decide) h9 16 (by have h9:=List.all_eq_true.1 p20 16 (by decide);simpa using h9))] at hbi;cases hbi
   have hfm:b 21=false:=by
    cases h9:b 21 with
    | false=>rfl
    | true=>rw [(hcl2 21 (by decide) h9 16 (by have h9:=List.all_eq_true.1 p21 16 (by decide);simpa using h9))] at hbi;cases hbi
   have hfs:b 22=false:=by
    cases h9:b 22 with
    | false=>rfl
    | true=>rw [(hcl2 22 (by decide) h9 21 (by have h9:=List.all_eq_true.1 p22 21 (by decide);simpa using h9))] at hfm;cases hfm
   exact ⟨setF c 28 (some (.map (some m))),mA,m,bs,⟨(by rw [hI.act,a8 _ (by decide) (by decide)]),(fun j hj hn=>by rw [af _ _ (fun e=>hn (by rw [e];decide))];exact hI.oth j hj hn),(by rw [af _ _ (show 23≠16 by decide)];exact hI.at_.below hbb),(hI.upd.trans (UpdS.of_below hbb)),(am hI.a1 (by decide) (by decide)),(fun h=>by rw [af b true (show 4≠16 by decide)] at h;rw [af b true (show 14≠16 by decide)];exact ⟨(hI.a2 h).1.below hbb,(hI.a2 h).2⟩),(am hI.a3 (by decide) (by decide)),(fun _=>aK _ _ _),(fun _=>⟨by rw [af b true (show 20≠16 by decide),hf20];exact gK _ _ hmp,Nat.le_trans hI.upd.size hge⟩),(fun h=>by rw [af b true (by decide),hfm] at h;cases h),(fun h _=>by rw [af b true (by decide)] at h;have h8:=(hI.a2 h).1.lt;omega),(am hI.c6 (by decide) (by decide)),(am hI.c13 (by decide) (by decide)),(am hI.c18 (by decide) (by decide)),(am hI.s1 (by decide) (by decide)),(fun h=>by rw [af b true (by decide),hfs] at h;cases h),(am hI.k1 (by decide) (by decide)),(am hI.k2 (by decide) (by decide))⟩⟩
  ·refine bE 18 o18 rfl ?_
   intro K' hK'
   refine b4 (enters_of Tryz.func21 (by kernel_rfl) rfl) (vs:=#[.int .i64 (k:Int)]) (by simp only [List.map_toArray,List.map_cons,List.map_nil,hI.act,bS (a:=a0) (c:=c) (show 29 ∉ [6,17,19,26,27,28,30,32,33,34] by decide),e29]) (bD k (by omega) w) ?_
   rintro e w' ⟨rfl,hw⟩
   replace hw:=hw.symm
   subst hw
   refine ⟨_,rfl,aW (hK' _ _ ?_)⟩
   exact ⟨setF c 30 (some (.int .i64 ((2+k:Nat):Int))),mA,mB,bs,⟨(by rw [hI.act,a8 _ (by decide) (by decide)]),(fun j hj hn=>by rw [af _ _ (fun e=>hn (by rw [e];decide))];exact hI.oth j hj hn),(by rw [af _ _ (show 23≠18 by decide)];exact hI.at_),(hI.upd),(am hI.a1 (by decide) (by decide)),(fun h=>by rw [af b true (show 4≠18 by decide)] at h;rw [af b true (show 14≠18 by decide)];exact ⟨(hI.a2 h).1,(hI.a2 h).2⟩),(am hI.a3 (by decide) (by decide)),(am hI.b1 (by decide) (by decide)),(fun h=>by rw [af b true (show 16≠18 by decide)] at h;rw [af b true (show 20≠18 by decide)];exact ⟨(hI.b2 h).1,(hI.b2 h).2⟩),(am hI.b3 (by decide) (by decide)),(fun h h'=>by rw [af b true (by decide)] at h h';exact hI.ne h h'),(am hI.c6 (by decide) (by decide)),(am hI.c13 (by decide) (by decide)),(fun _=>aK _ _ _),(am hI.s1 (by decide) (by decide)),(fun h=>by rw [af b true (by decide)] at h;exact ⟨(hI.s2 h).1,(hI.s2 h).2⟩),(am hI.k1 (by decide) (by decide)),(am hI.k2 (by decide) (by decide))⟩⟩
  ·refine bE 20 o20 rfl ?_
   intro K' hK'
   have hmk:=(hpr 16 (by have h9:=List.all_eq_true.1 p20 16 (by decide);simpa using h9))
   have hph:=(hI.b2 hmk).1
   rw [hbi] at hph
   refine dt hph (by decide) (2+k) (by omega) (zeroK) (by rw [hI.act];exact aX (by decide) (by decide) (by rw [hsz];decide) (hI.b1 hmk)) (by rw [hI.act];exact aX (by decide) (by decide) (by rw [hsz];decide) (hI.c18 (hpr 18 (by have h9:=List.all_eq_true.1 p20 18 (by decide);simpa using h9)))) (by rw [hI.act];exact (bS (by decide)).trans e31) ?_
   intro w' hp2 hu
   refine aW (hK' _ _ ?_)
   have hge:=(hI.b2 hmk).2
   exact ⟨c,mA,mB,bs,⟨(hI.act),(fun j hj hn=>by rw [af _ _ (fun e=>hn (by rw [e];decide))];exact hI.oth j hj hn),(by rw [af _ _ (show 23≠20 by decide)];exact hI.at_.updO (fun k hk=>Nat.lt_of_lt_of_le (hft k hk) hge) hu),(UpdS.newU hI.upd hge hu),(bf hI.a1 (by decide)),(fun h=>by rw [af b true (show 4≠20 by decide)] at h;rw [af b true (show 14≠20 by decide)];exact ⟨(hI.a2 h).1.upd hu (hI.ne h hmk),(hI.a2 h).2⟩),(bf hI.a3 (by decide)),(bf hI.b1 (by decide)),(fun h=>⟨by rw [aK b 20 true];exact phq_in1 hp2,hge⟩),(bf hI.b3 (by decide)),(fun h h'=>by rw [af b true (by decide)] at h h';exact hI.ne h h'),(bf hI.c6 (by decide)),(bf hI.c13 (by decide)),(bf hI.c18 (by decide)),(bf hI.s1 (by decide)),(fun h=>by rw [af b true (by decide)] at h;exact ⟨hu.row (hI.s2 h).1 (bK (hI.s2 h).1 (PhQ.isMap hph).choose_spec.choose_spec),(hI.s2 h).2⟩),(bf hI.k1 (by decide)),(bf hI.k2 (by decide))⟩⟩
  ·refine bE 21 o21 rfl ?_
   intro K' hK'
   refine fH (v:=.map (some mB)) (by rw [hI.act];exact aX (by decide) (by decide) (by rw [hsz];decide) (hI.b1 (hpr 16 (by have h9:=List.all_eq_true.1 p21 16 (by decide);simpa using h9)))) ?_
   refine aW (hK' _ _ ?_)
   exact ⟨setF c 32 (some (.map (some mB))),mA,mB,bs,⟨(by rw [hI.act,a8 _ (by decide) (by decide)]),(fun j hj hn=>by rw [af _ _ (fun e=>hn (by rw [e];decide))];exact hI.oth j hj hn),(by rw [af _ _ (show 23≠21 by decide)];exact hI.at_),(hI.upd),(am hI.a1 (by decide) (by decide)),(fun h=>by rw [af b true (show 4≠21 by decide)] at h;rw [af b true (show 14≠21 by decide)];exact ⟨(hI.a2 h).1,(hI.a2 h).2⟩),(am hI.a3 (by decide) (by decide)),(am hI.b1 (by decide) (by decide)),(fun h=>by rw [af b true (show 16≠21 by decide)] at h;rw [af b true (show 20≠21 by decide)];exact ⟨(hI.b2 h).1,(hI.b2 h).2⟩),(fun _=>aK _ _ _),(fun h h'=>by rw [af b true (by decide)] at h h';exact hI.ne h h'),(am hI.c6 (by decide) (by decide)),(am hI.c13 (by decide) (by decide)),(am hI.c18 (by decide) (by decide)),(am hI.s1 (by decide) (by decide)),(fun h=>by rw [af b true (by decide)] at h;exact ⟨(hI.s2 h).1,(hI.s2 h).2⟩),(am hI.k1 (by decide) (by decide)),(am hI.k2 (by decide) (by decide))⟩⟩
  ·refine bE 22 o22 rfl ?_
   intro K' hK'
   have hmA:=(hpr 15 (by have h9:=List.all_eq_true.1 p22 15 (by decide);simpa using h9))
   have hmB:=(hpr 21 (by have h9:=List.all_eq_true.1 p22 21 (by decide);simpa using h9))
   refine jh (.map none) (.map (some mA)) (.map (some mB)) un_phs fw rfl (by rw [hI.act];exact aX (by decide) (by decide) (by rw [hsz];decide) (hI.a3 hmA)) (by rw [hI.act];exact aX (by decide) (by decide) (by rw [hsz];decide) (hI.b3 hmB)) rfl rfl (Mem.start w) ?_
   intro w' q hbb hm
   refine aW (hK' _ _ ?_)
   have hfq:=hm.fresh _ (List.mem_cons_self ..)
   simp only [List.not_mem_nil,false_or] at hfq
   exact ⟨setF c 33 (some (.slice (some ⟨q,0,none⟩) 2 2)),mA,mB,q,⟨(by rw [hI.act,a8 _ (by decide) (by decide)]),(fun j hj hn=>by rw [af _ _ (fun e=>hn (by rw [e];decide))];exact hI.oth j hj hn),(by rw [af _ _ (show 23≠22 by decide)];exact hI.at_.below hbb),(hI.upd.trans (UpdS.of_below hbb)),(am hI.a1 (by decide) (by decide)),(fun h=>by rw [af b true (show 4≠22 by decide)] at h;rw [af b true (show 14≠22 by decide)];exact ⟨(hI.a2 h).1.below hbb,(hI.a2 h).2⟩),(am hI.a3 (by decide) (by decide)),(am hI.b1 (by decide) (by decide)),(fun h=>by rw [af b true (show 16≠22 by decide)] at h;rw [af b true (show 20≠22 by decide)];exact ⟨(hI.b2 h).1.below hbb,(hI.b2 h).2⟩),(am hI.b3 (by decide) (by decide)),(fun h h'=>by rw [af b true (by decide)] at h h';exact hI.ne h h'),(am hI.c6 (by decide) (by decide)),(am hI.c13 (by decide) (by decide)),(am hI.c18 (by decide) (by decide)),(fun _=>aK _ _ _),(fun _=>⟨hm.get 0 rfl,Nat.le_trans hI.upd.size hfq⟩),(am hI.k1 (by decide) (by decide)),(am hI.k2 (by decide) (by decide))⟩⟩
  ·refine bE 23 o23 rfl ?_
   intro K' hK'
   have hbs:=(hpr 22 (by have h9:=List.all_eq_true.1 p23 22 (by decide);simpa using h9))
   have hmA:=(hcl2 22 (by decide) hbs 15 (by have h9:=List.all_eq_true.1 p22 15 (by decide);simpa using h9))
   have hmB:=(hcl2 22 (by decide) hbs 21 (by have h9:=List.all_eq_true.1 p22 21 (by decide);simpa using h9))
   have hkA:=(hcl2 15 (by decide) hmA 4 (by have h9:=List.all_eq_true.1 p15 4 (by decide);simpa using h9))
   have hkB:=(hcl2 21 (by decide) hmB 16 (by have h9:=List.all_eq_true.1 p21 16 (by decide);simpa using h9))
   have hi14:=(hcl2 15 (by decide) hmA 14 (by have h9:=List.all_eq_true.1 p15 14 (by decide);simpa using h9))
   have hi20:=(hcl2 21 (by decide) hmB 20 (by have h9:=List.all_eq_true.1 p21 20 (by decide);simpa using h9))
   have hpA:=hI.a2 hkA
   have hpB:=hI.b2 hkB
   rw [hi14] at hpA
   rw [hi20] at hpB
   have hsl:=hAt hbi
   refine b4 (enters_of Tryz.func22 (by kernel_rfl) rfl) (vs:=#[.pointer (some ⟨g,0,none⟩),.slice (some ⟨bs,0,none⟩) 2 2]) (by simp only [List.map_toArray,List.map_cons,List.map_nil,hI.act,bS (a:=a0) (c:=c) (show 16 ∉ [6,17,19,26,27,28,30,32,33,34] by decide),e16,aX (a:=a0) (show ([6,17,19,26,27,28,30,32,33,34]:List Nat).Nodup by decide) (show 33∈[6,17,19,26,27,28,30,32,33,34] by decide) (by rw [hsz];decide) (hI.s1 hbs)]) (hkp w mA mB bs hsl.dk hI.upd (hI.s2 hbs).2 (hI.s2 hbs).1 (hpA.1.ph (by decide)) hpA.2 (hpB.1.ph (by decide)) hpB.2) ?_
   rintro e w' ⟨rfl,hdk,hu⟩
   refine ⟨_,rfl,aW (hK' _ _ ?_)⟩
   exact ⟨setF c 34 (some (.int .i64 ct)),mA,mB,bs,⟨(by rw [hI.act,a8 _ (by decide) (by decide)]),(fun j hj hn=>by rw [af _ _ (fun e=>hn (by rw [e];decide))];exact hI.oth j hj hn),(by rw [aK,if_pos rfl];exact hsl.disk hdk hu),(hI.upd.trans hu),(am hI.a1 (by decide) (by decide)),(fun h=>by rw [af b true (show 4≠23 by decide)] at h;rw [af b true (show 14≠23 by decide)];exact ⟨(hI.a2 h).1.keep (hu.block mA (hI.a2 h).1.lt (hnf _ (hI.a2 h).2)),(hI.a2 h).2⟩),(am hI.a3 (by decide) (by decide)),(am hI.b1 (by decide) (by decide)),(fun h=>by rw [af b true (show 16≠23 by decide)] at h;rw [af b true (show 20≠23 by decide)];exact ⟨(hI.b2 h).1.keep (hu.block mB (hI.b2 h).1.lt (hnf _ (hI.b2 h).2)),(hI.b2 h).2⟩),(am hI.b3 (by decide) (by decide)),(fun h h'=>by rw [af b true (by decide)] at h h';exact hI.ne h h'),(am hI.c6 (by decide) (by decide)),(am hI.c13 (by decide) (by decide)),(am hI.c18 (by decide) (by decide)),(am hI.s1 (by decide) (by decide)),(fun h=>by rw [af b true (by decide)] at h;exact ⟨hu.row (hI.s2 h).1 (hnf _ (hI.s2 h).2),(hI.s2 h).2⟩),(fun _=>aK _ _ _),(am hI.k2 (by decide) (by decide))⟩⟩
  ·refine bE 24 o24 rfl ?_
   intro K' hK'
   refine wpl_asgV (v:=.int .i64 ct) (by rw [hI.act];exact aX (by decide) (by decide) (by rw [hsz];decide) (hI.k1 (hpr 23 (by have h9:=List.all_eq_true.1 p24 23 (by decide);simpa using h9)))) ?_
   refine aW (hK' _ _ ?_)
   exact ⟨setF c 6 (some (.int .i64 ct)),mA,mB,bs,⟨(by rw [hI.act,a8 _ (by decide) (by decide)]),(fun j hj hn=>by rw [af _ _ (fun e=>hn (by rw [e];decide))];exact hI.oth j hj hn),(by rw [af _ _ (show 23≠24 by decide)];exact hI.at_),(hI.upd),(am hI.a1 (by decide) (by decide)),(fun h=>by rw [af b true (show 4≠24 by decide)] at h;rw [af b true (show 14≠24 by decide)];exact ⟨(hI.a2 h).1,(hI.a2 h).2⟩),(am hI.a3 (by decide) (by decide)),(am hI.b1 (by decide) (by decide)),(fun h=>by rw [af b true (show 16≠24 by decide)] at h;rw [af b true (show 20≠24 by decide)];exact ⟨(hI.b2 h).1,(hI.b2 h).2⟩),(am hI.b3 (by decide) (by decide)),(fun h h'=>by rw [af b true (by decide)] at h h';exact hI.ne h h'),(am hI.c6 (by decide) (by decide)),(am hI.c13 (by decide) (by decide)),(am hI.c18 (by decide) (by decide)),(am hI.s1 (by decide) (by decide)),(fun h=>by rw [af b true (by decide)] at h;exact ⟨(hI.s2 h).1,(hI.s2 h).2⟩),(am hI.k1 (by decide) (by decide)),(fun _=>aK _ _ _)⟩⟩
 ·rintro b a w ⟨c,mA,mB,bs,hI⟩ hall
  have h9:=hend w mA mB bs (by have h8:=hI.at_;rw [hall 23 (by decide)] at h8;exact h8) hI.upd
  rw [hI.act,laidC]
  simp only [List.map_cons,List.map_nil,hI.a1 (hall 4 (by decide)),hI.a3 (hall 15 (by decide)),hI.b1 (hall 16 (by decide)),hI.b3 (hall 21 (by decide)),hI.s1 (hall 22 (by decide)),hI.k1 (hall 23 (by decide)),hI.k2 (hall 24 (by decide)),hI.c6 (hall 6 (by decide)),hI.c13 (hall 13 (by decide)),hI.c18 (hall 18 (by decide))]
  exact h9
 ·intro j hj hjt k hk
  have h9:=List.all_eq_true.1 hcl j (List.mem_range.2 hj)
  rw [hjt] at h9
  simp only [Bool.not_true,Bool.false_or] at h9
  exact List.all_eq_true.1 h9 k hk
 ·have hbL:∀j,j<25→L.getD j false = !([4,6,13,14,15,16,18,20,21,22,23,24]:List Nat).contains j:=fun j hj=>by
   have h9:=List.all_eq_true.1 hLo j (List.mem_range.2 hj)
   simpa using h9
  have hf:∀j,j∈[4,6,13,14,15,16,18,20,21,22,23,24]→L.getD j false=false:=fun j hj=>by
   rw [hbL j (by simp only [List.mem_cons,List.not_mem_nil,or_false] at hj;omega),List.contains_iff_mem.2 hj]
   rfl
  refine ⟨fun _=>none,0,0,0,(i1 a0 _).symm,fun j hj hn=>?_,(by show SlAt w g mb kv sb hb (if L.getD 23 false=true then R else d) t;rw [hf 23 (by decide)];exact hatw),hW,(fun h=>by rw [show L.getD 4 false=false from hf 4 (by decide)] at h;cases h),(fun h=>by rw [show L.getD 4 false=false from hf 4 (by decide)] at h;cases h),(fun h=>by rw [show L.getD 15 false=false from hf 15 (by decide)] at h;cases h),(fun h=>by rw [show L.getD 16 false=false from hf 16 (by decide)] at h;cases h),(fun h=>by rw [show L.getD 16 false=false from hf 16 (by decide)] at h;cases h),(fun h=>by rw [show L.getD 21 false=false from hf 21 (by decide)] at h;cases h),(fun h=>by rw [show L.getD 4 false=false from hf 4 (by decide)] at h;cases h),(fun h=>by rw [show L.getD 6 false=false from hf 6 (by decide)] at h;cases h),(fun h=>by rw [show L.getD 13 false=false from hf 13 (by decide)] at h;cases h),(fun h=>by rw [show L.getD 18 false=false from hf 18 (by decide)] at h;cases h),(fun h=>by rw [show L.getD 22 false=false from hf 22 (by decide)] at h;cases h),(fun h=>by rw [show L.getD 22 false=false from hf 22 (by decide)] at h;cases h),(fun h=>by rw [show L.getD 23 false=false from hf 23 (by decide)] at h;cases h),(fun h=>by rw [show L.getD 24 false=false from hf 24 (by decide)] at h;cases h)⟩
  show L.getD j false=true
  rw [hbL j hj]
  cases h9:([4,6,13,14,15,16,18,20,21,22,23,24]:List Nat).contains j with
  | false=>rfl
  | true=>exact absurd (List.contains_iff_mem.1 h9) hn
end Go.Proofs.YtnllomcajijbjaaGreatDoor
