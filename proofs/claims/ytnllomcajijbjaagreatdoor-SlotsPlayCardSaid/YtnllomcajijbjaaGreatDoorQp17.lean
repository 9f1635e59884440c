import Derived.Test.YtnllomcajijbjaaGreatDoorQp16
set_option maxRecDepth 100000
set_option maxHeartbeats 4000000
namespace Go.Proofs.YtnllomcajijbjaaGreatDoor
open Go Go.RowKit Go.Maps
section
variable {P:Program} {ops:Array Oper} {rest:List Oper} {a:Act} {w w0:World} {Q:Exit→Act→World→Prop} {dst:Option Tmp} {typ:TypeId} {pos:String} {aft:Array Edge} {gd:Option (Nat×Bool)} {S:List Nat} {rows:List (Nat×List Value×TypeId)}
theorem db {ty:TypeId} (hm:Mem w0 S w rows) (h:∀w' m,w'.heap[m]?=some (.map #[] 0)→w.heap.size≤m→Below w.heap.size w w'→Mem w0 S w' rows→wpList P ops Q rest (a.put dst (.map (some m))) w') :
  wpList P ops Q ({dst:=dst,op:=.makeMap ty none,type:=typ,pos:=pos,after:=aft,guard:=none}::rest) a w:=by
 refine wpList_plain rfl fun K hK=>?_
 have hh:=hK _ _ (h (w.alloc (.map #[] 0)) w.heap.size (heap_alloc_new w _) (Nat.le_refl _) ((Below.refl _ _).alloc (Nat.le_refl _) _) (hm.allocO _))
 unfold Oper.wp execOp
 simp only [Option.map_none,run_makeMap,Sem.run_bind,Sem.run_pure,Result.andThen_ok]
 exact hh
theorem bv {ty:TypeId} {x:Operand} {b j:Nat} {v:Value} (hc:w.cell? ⟨b,j,none⟩=some v) (hx:a.eval x=.pointer (some ⟨b,j,none⟩)) (ha:∀w,(isAgg ty).run P w=.ok false w) :
  (execOp a.eval {dst:=dst,op:=.load ty x,type:=typ,pos:=pos,after:=aft,guard:=gd}).run P w=.ok (.value v) w:=by
 have hr:(loadVar ty ⟨b,j,none⟩).run P w=.ok v w:=by simp [loadVar,ha,go_sem,hc]
 unfold execOp
 simp only [hx,Instr.loadAt,Instr.sureAddr,Sem.run_bind,Sem.run_pure,Result.andThen_ok,hr]
theorem gE {t:TypeId} {xs:Array (Nat×Operand)} (l:List Value) (vs:List (Nat×Value)) (hv:(xs.map fun q=>(q.1,a.eval q.2)).toList=vs) (hb:P.built t vs=some l.toArray) :
  (execOp a.eval {dst:=dst,op:=.build t xs,type:=typ,pos:=pos,after:=aft,guard:=gd}).run P w=.ok (.value (.agg l.toArray)) w:=by
 have e:(xs.map fun (i,x)=>(i,a.eval x)).toList=vs:=hv
 unfold execOp
 simp only [Sem.run_bind,run_build w t _ l.toArray (by rw [e];exact hb),Result.andThen_ok,Sem.run_pure]
end
theorem built_slo (g hb:Nat) (n:Int):Tryz.prog.built 62 [(0,.pointer (some ⟨g,0,none⟩)),(1,.map (some hb)),(2,.int .u64 n)]=some [.pointer (some ⟨g,0,none⟩),.map (some hb),.int .u64 n,.bool false].toArray:=by rfl
theorem eq_cons (l l':List Int) (h:l.length=64) (h':l'.length=64):∀W,(Op.equalIn 10000 64 (.agg (u8s l).toArray) (.agg (u8s l').toArray)).run Tryz.prog W=.ok (decide (l=l')) W:=by
 intro W
 exact iH (P:=Tryz.prog) W 9998 64 5 64 .u8 b7 cy be l l' h h'
def heldUp (d:Dk) (i:Nat):Nat→Option Ent:=fun j=>if j<i then entOf j (d.now (2+j)) else none
theorem heldUp_zero (d:Dk):heldUp d 0=fun _=>none:=by funext j;simp [heldUp]
theorem iv (d:Dk) (i:Nat):heldUp d (i+1)=upf (heldUp d i) i (entOf i (d.now (2+i))):=by
 funext j
 show (if j<i+1 then entOf j (d.now (2+j)) else none)=if j=i then entOf i (d.now (2+i)) else (if j<i then entOf j (d.now (2+j)) else none)
 by_cases h:j=i
 ·subst h;simp
 ·by_cases h2:j<i
  ·rw [if_pos (by omega),if_neg h,if_pos h2]
  ·rw [if_neg (by omega),if_neg h,if_neg h2]
theorem heldUp_at (d:Dk) (i:Nat):heldUp d i i=none:=by simp [heldUp]
theorem heldUp_none {d:Dk} {i:Nat} (h:entOf i (d.now (2+i))=none):heldUp d (i+1)=heldUp d i:=by
 rw [iv,h]
 funext j
 by_cases he:j=i
 ·subst he;rw [bo,heldUp_at]
 ·rw [aR _ _ he]
theorem leftP_zero (d:Dk):leftP d 0=fun _=>none:=by
 funext s
 unfold leftP
 rw [if_neg (by omega)]
theorem leftP_yes {d:Dk} {i:Nat} (h:leftAt d i=true):leftP d (i+1)=upf (leftP d i) (2+i) (some zeroK):=by
 funext s
 show (if 2≤s∧s<2+(i+1)∧leftAt d (s - 2)=true then some zeroK else none)=if s=2+i then some zeroK else (if 2≤s∧s<2+i∧leftAt d (s - 2)=true then some zeroK else none)
 by_cases he:s=2+i
 ·subst he
  rw [if_pos rfl,if_pos ⟨by omega,by omega,by rw [Nat.add_sub_cancel_left];exact h⟩]
 ·rw [if_neg he]
  by_cases h2:2≤s∧s<2+i∧leftAt d (s - 2)=true
  ·rw [if_pos ⟨h2.1,by omega,h2.2.2⟩,if_pos h2]
  ·rw [if_neg (fun h3=>h2 ⟨h3.1,by omega,h3.2.2⟩),if_neg h2]
theorem i2 {d:Dk} {i:Nat} (h:leftAt d i=false):leftP d (i+1)=leftP d i:=by
 funext s
 unfold leftP
 by_cases h2:2≤s∧s<2+i∧leftAt d (s - 2)=true
 ·rw [if_pos ⟨h2.1,by omega,h2.2.2⟩,if_pos h2]
 ·rw [if_neg h2,if_neg]
  rintro ⟨h3,h4,h5⟩
  apply h2
  refine ⟨h3,?_,h5⟩
  by_cases he:s=2+i
  ·rw [he,Nat.add_sub_cancel_left,h] at h5;cases h5
  ·omega
theorem leftP_ok (d:Dk) (m n:Nat) (h:2+m≤n):PhOk n (leftP d m):=⟨fun i l hl=>by
 unfold leftP at hl
 split at hl
 ·rename_i hh
  simp only [Option.some.injEq] at hl
  subst hl
  exact ⟨by omega,aL,ce⟩
 ·cases hl⟩
structure LdAt (w0 w:World) (g sb hb lb:Nat) (d:Dk) (i:Nat):Prop where
 mem:Mem w0 [] w [(sb,[.pointer (some ⟨g,0,none⟩),.map (some hb),.int .u64 (cntOf d:Int),.bool false],62)]
 held:∃q,q≤i∧KM Tryz.prog 3 w hb q (hvK (heldUp d i))
 left:∃q,q≤i∧PhQ w lb q (leftP d i)
 nh:w0.heap.size≤hb
 nl:w0.heap.size≤lb
 ne:hb≠lb
section
variable {w0 w w':World} {g sb hb lb:Nat} {d:Dk} {i:Nat}
theorem LdAt.below (h:LdAt w0 w g sb hb lb d i) (hbb:Below w.heap.size w w'):LdAt w0 w' g sb hb lb d i:=by
 obtain ⟨q,hq,hk⟩:=h.held
 obtain ⟨q2,hq2,hl⟩:=h.left
 exact ⟨h.mem.call hbb,⟨q,hq,hk.below hbb⟩,⟨q2,hq2,hl.below hbb⟩,h.nh,h.nl,h.ne⟩
theorem LdAt.same (h:LdAt w0 w g sb hb lb d i) (h1:heldUp d (i+1)=heldUp d i) (h2:leftP d (i+1)=leftP d i):LdAt w0 w g sb hb lb d (i+1):=by
 obtain ⟨q,hq,hk⟩:=h.held
 obtain ⟨q2,hq2,hl⟩:=h.left
 exact ⟨h.mem,⟨q,by omega,by rw [h1];exact hk⟩,⟨q2,by omega,by rw [h2];exact hl⟩,h.nh,h.nl,h.ne⟩
theorem LdAt.putL (h:LdAt w0 w g sb hb lb d i) {q:Nat} (hq:q≤i) {p:Nat→Option (List Int)} (hl:PhQ w' lb (q+1) p) (hu:Upd lb w w') {es:Array MapEntry} {c:Nat} (hmap:w.heap[lb]?=some (.map es c)) (h1:heldUp d (i+1)=heldUp d i) (h2:leftP d (i+1)=p):LdAt w0 w' g sb hb lb d (i+1):=by
 obtain ⟨q1,hq1,hk⟩:=h.held
 exact ⟨h.mem.updO hmap (Or.inr h.nl) hu,⟨q1,by omega,by rw [h1];exact hk.upd hu h.ne.symm⟩,⟨q+1,by omega,by rw [h2];exact hl⟩,h.nh,h.nl,h.ne⟩
end
theorem jq (g mb:Nat) (kv:Value) (d:Dk) (ho:d.off=false) (hn:64≤d.n) (hok:SltOk (loadS d)) (hf2:∀k∈foot g mb kv,2≤k) (w:World) (ht:Tab w) (hd:DkAt w g mb kv d) :
  Calls Tryz.prog 18 #[.pointer (some ⟨g,0,none⟩)] w fun e w'=>∃sb hb lb,e=.returned (.tuple #[.pointer (some ⟨sb,0,none⟩),.map (some lb),.int .i64 0])∧SlAt w' g mb kv sb hb d (loadS d)∧PhM w' lb (leftP d 24)∧w.heap.size≤sb∧w.heap.size≤hb∧w.heap.size≤lb∧Below w.heap.size w w':=by
 have HD:Hid (DkAt w g mb kv d):=hd
 have HO:Hid (d.off=false):=ho
 have HT:Hid (Tab w):=ht
 have HN2:Hid (64≤d.n):=hn
 have HSO:Hid (SltOk (loadS d)):=hok
 have HF2:Hid (∀k∈foot g mb kv,2≤k):=hf2
 have hm:=Mem.start w
 have hng:¬(d.n:Int)<64:=by omega
 obtain ⟨c,hc⟩:∃c,c=cntOf d:=⟨_,rfl⟩
 have HCN:Hid (∀_:Unit,cntOf d=c):=fun _=>hc.symm
 clear hd ho ht hn hok hc hf2
 go_enter Tryz.func18,Tryz.ntmps18
 go_wp2_with (first
  | (go_at_call 33;refine (len_any g mb kv d _ HD.out).mono ?_;rintro e w1 ⟨rfl,hw⟩;replace hw:=hw.symm;subst hw)
  | (go_at_call 34;refine (jG g mb kv d HO.out (by have:=HN2.out;omega) _ HT.out HD.out).mono ?_;rintro e w1 ⟨he,hb1⟩;rw [HCN.out ()] at he;subst he;replace hm:=hm.call hb1;clear hb1)
  | ((with_reducible refine aa (some 26) (.makeMap 60 none) ?_);go_must (refine wpl_mkM hm ?_);clear hm;intro w2 hb hmp hnh hm;have HH:Hid (w2.heap[hb]?=some (.map #[] 0)):=hmp;have HNH:Hid (w.heap.size≤hb):=hnh;clear hmp hnh)
  | ((with_reducible refine aa (some 28) (.build 62 #[(0,.tmp 25),(1,.tmp 26),(2,.tmp 27)]) ?_);go_must (refine aM [.pointer (some ⟨g,0,none⟩),.map (some hb),.int .u64 (c:Int),.bool false] _ rfl (built_slo g hb _) ?_))
  | ((with_reducible refine aa (some 29) (.box 62 (.tmp 28)) ?_);go_must (refine fk [.pointer (some ⟨g,0,none⟩),.map (some hb),.int .u64 (c:Int),.bool false] rfl hm ?_);clear hm;intro w3 sb hb3 hm;have HH3:Hid (w3.heap[hb]?=some (.map #[] 0)):=(hb3.block hb (Array.getElem?_eq_some_iff.1 HH.out).1).trans HH.out;clear hb3)
  | ((with_reducible refine aa (some 30) (.makeMap 55 none) ?_);go_must (refine db hm ?_);clear hm;intro w4 lb hmp hnl hb4 hm;have HL4:Hid (w4.heap[lb]?=some (.map #[] 0)):=hmp;have HNL:Hid (w3.heap.size≤lb):=hnl;have HH4:Hid (w4.heap[hb]?=some (.map #[] 0)):=(hb4.block hb (Array.getElem?_eq_some_iff.1 HH3.out).1).trans HH3.out;clear hmp hnl hb4))
 have HL0:Hid (LdAt w w4 g sb hb lb d 0):=by
  have h3:=(Array.getElem?_eq_some_iff.1 HH3.out).1
  refine ⟨by rw [HCN.out ()];exact hm,⟨0,Nat.le_refl _,?_⟩,⟨0,Nat.le_refl _,?_⟩,HNH.out,?_,?_⟩
  ·rw [heldUp_zero]
   exact (KM.new HH4.out).same hvK_none
  ·rw [leftP_zero]
   exact PhQ.new HL4.out
  ·have:=HNL.out;have:=HNH.out;omega
  ·have:=HNL.out;omega
 clear hm HH HH3 HH4 HL4 HNL HNH
 go_loopw [31] (fun vi wr=>∃i:Nat,i≤24∧vi=.int .i64 (i:Int)∧Hid (LdAt w wr g sb hb lb d i)) (fun vi _=>24 - (intOf vi).toNat)
 case atStart=>exact ⟨0,by omega,rfl,HL0.out⟩
 case round =>
  clear HL0
  obtain ⟨i,hi,rfl,HL⟩:=hrel
  by_cases hlt:i<24
  ·have hli:(i:Int)<24:=by omega
   have HKN:Hid (2+i<d.n):=by have:=HN2.out;show 2+i<d.n;omega
   obtain ⟨C,hC⟩:∃C,C=d.now (2+i):=⟨_,rfl⟩
   have HCC:Hid (∀_:Unit,d.now (2+i)=C):=fun _=>hC.symm
   have HCL:Hid (C.length=64):=by rw [hC];exact HD.out.ok.now HKN.out
   have HCU:Hid ((u8s C).length=64):=by show _=_;rw [ab,HCL.out]
   have HCB:Hid (Bytes C):=by rw [hC];exact HD.out.ok.nowB HKN.out
   have hm:=Mem.start wr
   cases hx:entOf i C with
   | some X =>
    have HXX:Hid ((entOf i C).getD noEnt=X∧(entOf i C).isSome=true):=by show _∧_;rw [hx];exact ⟨rfl,rfl⟩
    have HEO:Hid (EntOk X):=(HSO.out.held i X (by show (if i<24 then entOf i (d.now (2+i)) else none)=_;rw [if_pos hlt,←hC,hx])).2
    have HEL:Hid ((entL X).length=49):=aI HEO.out.len
    have HHM:Hid (heldUp d (i+1)=upf (heldUp d i) i (some X)):=by show _=_;rw [iv,←hC,hx]
    have HLN:Hid (leftP d (i+1)=leftP d i):=i2 (by unfold leftAt;rw [←hC,hx];rfl)
    clear hC hx
    go_wp2_with (first
     | (go_at_call 21;refine (bD i (by omega) _).mono ?_;rintro e w1 ⟨rfl,rfl⟩)
     | (go_at_call 35;refine (dR g mb kv d (2+i) HO.out HKN.out _ (HD.out.below HL.out.mem.below)).mono ?_;rintro e w2 ⟨he,hb2⟩;rw [HCC.out ()] at he;subst he;replace hm:=hm.call hb2;clear hb2)
     | ((with_reducible refine aa (some 10) (.alloc 64) ?_);refine aj _ bP hm ?_;clear hm;intro w3 g10 hm)
     | ((with_reducible refine aa none (.store 64 (.tmp 10) (.tmp 39)) ?_);refine ap 0 (u8s C) hm rfl rfl rfl 64 br (by simp [ab]) (HCU.out) (aq _) ?_;clear hm;intro w4 hm)
     | ((with_reducible refine aa (some 46) (.load 64 (.tmp 10)) ?_);refine ay 0 hm rfl rfl _ b7 rfl 64 br (HCU.out) ?_)
     | (go_at_call 36;refine (ee i C (by omega) HCL.out HCB.out _ (Tab.mem (HT.out.below HL.out.mem.below) hm (by simp))).mono ?_;rintro e w5 ⟨he,hb2⟩;rw [HXX.out.1,HXX.out.2] at he;subst he;replace hm:=hm.call hb2;clear hb2)
     | ((with_reducible refine aa (some 12) (.alloc 67) ?_);refine aj _ bF hm ?_;clear hm;intro w6 g12 hm)
     | ((with_reducible refine aa none (.store 67 (.tmp 12) (.tmp 48)) ?_);refine ap 0 (entL X) hm rfl rfl rfl 49 bY (aI (by simp [noEnt])) HEL.out (cx _) ?_;clear hm;intro w7 hm))
    refine au ?_
    refine av (T:=fun W=>W.cell? ⟨sb,1,none⟩=some (.map (some hb))∧Row W g12 (entL X) 67) (by kernel_rfl) hm ?_
    intro wc hbw hmw
    replace hm:=hmw
    clear hbw hmw
    have HW:Hid (wc.cell? ⟨sb,1,none⟩=some (.map (some hb))∧Row wc g12 (entL X) 67):=⟨by rw [((HL.out.below hm.below).mem.cell 0 rfl 1)];rfl,hm.get 0 rfl⟩
    refine aT 0 (v:=.pointer (some ⟨sb,0,none⟩)) rfl (by kernel_rfl) rfl (fun W _=>by go_simp) HW.out ?_
    go_simp
    refine aT 1 (v:=.pointer (some ⟨sb,0,none⟩)) rfl (by kernel_rfl) rfl (fun W _=>by go_simp) HW.out ?_
    go_simp
    refine aT 2 (v:=.pointer (some ⟨sb,1,none⟩)) rfl (by kernel_rfl) rfl (fun W _=>by go_simp) HW.out ?_
    go_simp
    refine aT 3 (v:=.map (some hb)) rfl (by kernel_rfl) rfl (fun W hW=>bv hW.1 rfl cj) HW.out ?_
    go_simp
    refine aT 4 (v:=.int .i64 (i:Int)) rfl (by kernel_rfl) rfl (fun W _=>by go_simp) HW.out ?_
    go_simp
    refine aT 5 (v:=.agg (entL X).toArray) rfl (by kernel_rfl) rfl (fun W hW=>bJ 0 _ hW.2 rfl _ Tryz.underlying67 rfl 49 bY (by rw [HEL.out];omega) (by rw [List.drop_zero,List.take_of_length_le (by rw [HEL.out];omega)])) HW.out ?_
    go_simp
    obtain ⟨q,hq,hk⟩:=(HL.out.below hm.below).held
    have hkm:=hk.isMap
    refine wpAnyH_all (rs:=[6]) (by kernel_rfl) (by simp) ?_
    intro j hj
    simp only [List.mem_cons,List.not_mem_nil,or_false] at hj
    subst hj
    refine aF 6 rfl rfl ?_
    intro K hK
    go_must (refine wpl_kmPut hk cg eb (by omega) (dF i (by omega)) rfl rfl rfl ?_)
    intro w9 hk9 hu9
    refine wpList_nil ?_
    obtain ⟨es,cc,hmap⟩:=hkm
    have HL9:Hid (LdAt w w9 g sb hb lb d (i+1)):=by
     have hl9:=HL.out.below hm.below
     obtain ⟨q2,hq2,hl⟩:=hl9.left
     exact ⟨hl9.mem.updO hmap (Or.inr HL.out.nh) hu9,⟨q+1,by omega,by rw [HHM.out];exact hk9.same (hvK_put _ _ _)⟩,⟨q2,by omega,by rw [HLN.out];exact hl.upd hu9 (fun e=>HL.out.ne e.symm)⟩,HL.out.nh,HL.out.nl,HL.out.ne⟩
    refine hK _ _ ⟨?_,?_⟩ ?_
    ·rw [HL9.out.mem.cell 0 rfl 1];rfl
    ·exact hu9.row (hm.get 0 rfl) (bK (hm.get 0 rfl) hmap)
    clear hK K
    go_simp
    refine wpAnyH_done (by kernel_rfl) ?_ _
    simp only [endsIn]
    go_wp2_with fail
    go_roundw
    case rel=>exact ⟨i+1,by omega,by go_num,HL9.out⟩
    case measure=>simp [intOf];omega
   | none =>
    have HXX:Hid ((entOf i C).getD noEnt=noEnt∧(entOf i C).isSome=false):=by show _∧_;rw [hx];exact ⟨rfl,rfl⟩
    have HEL:Hid ((entL noEnt).length=49):=aI (by simp [noEnt])
    have HHM:Hid (heldUp d (i+1)=heldUp d i):=heldUp_none (by rw [←hC];exact hx)
    have HEQ:=eq_cons C zeroK HCL.out aL
    by_cases hc:0<c
    ·have HG:decide ((c:Int) > 0)=true:=decide_eq_true (by omega)
     by_cases hz:C=zeroK
     ·have HZ:decide (C=zeroK)=true:=decide_eq_true hz
      have HLN:Hid (leftP d (i+1)=leftP d i):=i2 (by unfold leftAt;rw [←hC];simp [hz])
      clear hC hx hz
      go_wp2_with (first
       | (go_at_call 21;refine (bD i (by omega) _).mono ?_;rintro e w1 ⟨rfl,rfl⟩)
       | (go_at_call 35;refine (dR g mb kv d (2+i) HO.out HKN.out _ (HD.out.below HL.out.mem.below)).mono ?_;rintro e w2 ⟨he,hb2⟩;rw [HCC.out ()] at he;subst he;replace hm:=hm.call hb2;clear hb2)
       | ((with_reducible refine aa (some 10) (.alloc 64) ?_);refine aj _ bP hm ?_;clear hm;intro w3 g10 hm)
       | ((with_reducible refine aa none (.store 64 (.tmp 10) (.tmp 39)) ?_);refine ap 0 (u8s C) hm rfl rfl rfl 64 br (by simp [ab]) (HCU.out) (aq _) ?_;clear hm;intro w4 hm)
       | ((with_reducible refine aa (some 46) (.load 64 (.tmp 10)) ?_);refine ay 0 hm rfl rfl _ b7 rfl 64 br (HCU.out) ?_)
       | (go_at_call 36;refine (ee i C (by omega) HCL.out HCB.out _ (Tab.mem (HT.out.below HL.out.mem.below) hm (by simp))).mono ?_;rintro e w5 ⟨he,hb2⟩;rw [HXX.out.1,HXX.out.2] at he;subst he;replace hm:=hm.call hb2;clear hb2)
       | ((with_reducible refine aa (some 12) (.alloc 67) ?_);refine aj _ bF hm ?_;clear hm;intro w6 g12 hm)
       | ((with_reducible refine aa none (.store 67 (.tmp 12) (.tmp 48)) ?_);refine ap 0 (entL noEnt) hm rfl rfl rfl 49 bY (aI (by simp [noEnt])) HEL.out (cx _) ?_;clear hm;intro w7 hm)
       | ((with_reducible refine bL (some 62) (.load 64 (.tmp 10)) (some (2,true)) ?_);go_must (refine ae _ rfl (ao 0 (u8s C) (hm.get 1 rfl) rfl _ b7 rfl 64 br (by rw [HCU.out];omega) (by rw [List.drop_zero,List.take_of_length_le (by rw [HCU.out];omega)])) ?_))
       | ((with_reducible refine bL (some 63) (.build 64 #[]) (some (2,true)) ?_);go_must (refine ae _ rfl (gE (u8s zeroK) [] (by simp) cY) ?_)))
      go_roundw
      case rel=>exact ⟨i+1,by omega,by go_num,(HL.out.below hm.below).same HHM.out HLN.out⟩
      case measure=>simp [intOf];omega
     ·have HZ:decide (C=zeroK)=false:=decide_eq_false hz
      have HLN:Hid (leftP d (i+1)=upf (leftP d i) (2+i) (some zeroK)):=leftP_yes (by unfold leftAt;rw [←hC,hx,HCN.out ()];simp [hz];omega)
      clear hC hx hz
      go_wp2_with (first
       | (go_at_call 21;refine (bD i (by omega) _).mono ?_;rintro e w1 ⟨rfl,rfl⟩)
       | (go_at_call 35;refine (dR g mb kv d (2+i) HO.out HKN.out _ (HD.out.below HL.out.mem.below)).mono ?_;rintro e w2 ⟨he,hb2⟩;rw [HCC.out ()] at he;subst he;replace hm:=hm.call hb2;clear hb2)
       | ((with_reducible refine aa (some 10) (.alloc 64) ?_);refine aj _ bP hm ?_;clear hm;intro w3 g10 hm)
       | ((with_reducible refine aa none (.store 64 (.tmp 10) (.tmp 39)) ?_);refine ap 0 (u8s C) hm rfl rfl rfl 64 br (by simp [ab]) (HCU.out) (aq _) ?_;clear hm;intro w4 hm)
       | ((with_reducible refine aa (some 46) (.load 64 (.tmp 10)) ?_);refine ay 0 hm rfl rfl _ b7 rfl 64 br (HCU.out) ?_)
       | (go_at_call 36;refine (ee i C (by omega) HCL.out HCB.out _ (Tab.mem (HT.out.below HL.out.mem.below) hm (by simp))).mono ?_;rintro e w5 ⟨he,hb2⟩;rw [HXX.out.1,HXX.out.2] at he;subst he;replace hm:=hm.call hb2;clear hb2)
       | ((with_reducible refine aa (some 12) (.alloc 67) ?_);refine aj _ bF hm ?_;clear hm;intro w6 g12 hm)
       | ((with_reducible refine aa none (.store 67 (.tmp 12) (.tmp 48)) ?_);refine ap 0 (entL noEnt) hm rfl rfl rfl 49 bY (aI (by simp [noEnt])) HEL.out (cx _) ?_;clear hm;intro w7 hm)
       | ((with_reducible refine bL (some 62) (.load 64 (.tmp 10)) (some (2,true)) ?_);go_must (refine ae _ rfl (ao 0 (u8s C) (hm.get 1 rfl) rfl _ b7 rfl 64 br (by rw [HCU.out];omega) (by rw [List.drop_zero,List.take_of_length_le (by rw [HCU.out];omega)])) ?_))
       | ((with_reducible refine bL (some 63) (.build 64 #[]) (some (2,true)) ?_);go_must (refine ae _ rfl (gE (u8s zeroK) [] (by simp) cY) ?_))
       | ((with_reducible refine aa (some 69) (.build 64 #[]) ?_);go_must (refine aM (u8s zeroK) _ rfl cY ?_))
       | ((with_reducible refine aa none (.mapUpdate 55 (.tmp 66) (.tmp 68) (.tmp 69)) ?_);obtain ⟨q,hq,hl⟩:=(HL.out.below hm.below).left;go_must (refine gW hl (by omega) (2+i) (by omega) zeroK rfl rfl rfl ?_);intro w9 hl9 hu9;obtain ⟨es,cc,hmap⟩:=hl.isMap;have HL9:Hid (LdAt w w9 g sb hb lb d (i+1)):=(LdAt.putL (HL.out.below hm.below) hq hl9 hu9 hmap HHM.out HLN.out);clear hl9 hu9 hmap hl hq))
      go_roundw
      case rel=>exact ⟨i+1,by omega,by go_num,HL9.out⟩
      case measure=>simp [intOf];omega
    ·have HG:decide ((c:Int) > 0)=false:=decide_eq_false (by omega)
     have HLN:Hid (leftP d (i+1)=leftP d i):=i2 (by unfold leftAt;rw [HCN.out (),decide_eq_false hc];simp)
     clear hC hx
     go_wp2_with (first
      | (go_at_call 21;refine (bD i (by omega) _).mono ?_;rintro e w1 ⟨rfl,rfl⟩)
      | (go_at_call 35;refine (dR g mb kv d (2+i) HO.out HKN.out _ (HD.out.below HL.out.mem.below)).mono ?_;rintro e w2 ⟨he,hb2⟩;rw [HCC.out ()] at he;subst he;replace hm:=hm.call hb2;clear hb2)
      | ((with_reducible refine aa (some 10) (.alloc 64) ?_);refine aj _ bP hm ?_;clear hm;intro w3 g10 hm)
      | ((with_reducible refine aa none (.store 64 (.tmp 10) (.tmp 39)) ?_);refine ap 0 (u8s C) hm rfl rfl rfl 64 br (by simp [ab]) (HCU.out) (aq _) ?_;clear hm;intro w4 hm)
      | ((with_reducible refine aa (some 46) (.load 64 (.tmp 10)) ?_);refine ay 0 hm rfl rfl _ b7 rfl 64 br (HCU.out) ?_)
      | (go_at_call 36;refine (ee i C (by omega) HCL.out HCB.out _ (Tab.mem (HT.out.below HL.out.mem.below) hm (by simp))).mono ?_;rintro e w5 ⟨he,hb2⟩;rw [HXX.out.1,HXX.out.2] at he;subst he;replace hm:=hm.call hb2;clear hb2)
      | ((with_reducible refine aa (some 12) (.alloc 67) ?_);refine aj _ bF hm ?_;clear hm;intro w6 g12 hm)
      | ((with_reducible refine aa none (.store 67 (.tmp 12) (.tmp 48)) ?_);refine ap 0 (entL noEnt) hm rfl rfl rfl 49 bY (aI (by simp [noEnt])) HEL.out (cx _) ?_;clear hm;intro w7 hm))
     go_roundw
     case rel=>exact ⟨i+1,by omega,by go_num,(HL.out.below hm.below).same HHM.out HLN.out⟩
     case measure=>simp [intOf];omega
  ·have hi24:i=24:=by omega
   have hli:¬(i:Int)<24:=by omega
   subst hi24
   go_wp2_with fail
   go_ret3
   have hbl:=HL.out.mem.below
   have hfr:=HL.out.mem.fresh _ (List.mem_cons_self ..)
   simp only [List.not_mem_nil,false_or] at hfr
   obtain ⟨q,hq,hk⟩:=HL.out.held
   obtain ⟨q2,hq2,hl⟩:=HL.out.left
   refine ⟨sb,hb,lb,rfl,⟨HD.out.below hbl,HL.out.mem.get 0 rfl,⟨q,by show q≤cntOf d+24;omega,hk⟩,HSO.out,fun h=>?_,fun h=>?_,fun k hk=>?_⟩,hl.ph (by omega),hfr,HL.out.nh,HL.out.nl,hbl⟩
   ·have:=HD.out.lt _ h;omega
   ·have:=HD.out.lt _ h;have:=HL.out.nh;omega
   ·have h9:=HT.out.lt
    simp only [footS,List.mem_cons] at hk
    rcases hk with rfl|rfl|hk
    ·omega
    ·have:=HL.out.nh;omega
    ·exact HF2.out k hk
theorem load_small (g mb:Nat) (kv:Value) (d:Dk) (hn:d.n<64) (w:World) (hd:DkAt w g mb kv d) :
  Calls Tryz.prog 18 #[.pointer (some ⟨g,0,none⟩)] w fun e w'=>e=.returned (.tuple #[.pointer none,.map none,.int .i64 70])∧w'=w:=by
 have HD:Hid (DkAt w g mb kv d):=hd
 have hng:(d.n:Int)<64:=by omega
 clear hd
 go_enter Tryz.func18,Tryz.ntmps18
 go_wp2_with (first
  | (go_at_call 33;refine (len_any g mb kv d _ HD.out).mono ?_;rintro e w1 ⟨rfl,hw⟩;replace hw:=hw.symm;subst hw))
 go_ret3
 exact ⟨rfl,rfl⟩
open Go Go.RowKit Go.Maps
def openD (d:Dk):Dk:=if (pensP (leftP d 24) d.n).length=0 then d else (phs d (phL (leftP d 24) d.n)).1
theorem lsOf_one (p:Nat→Option (List Int)) (n:Nat):lsOf (fun _=>p) n 1=[phL p n]:=rfl
theorem openS_any (g mb:Nat) (kv:Value) (d:Dk) (k0:Nat) (ho:d.off=false) (hl0:d.left=0) (hn:64≤d.n) (hn2:d.n≤200) (hnm:d.Nm k0) (hk0:k0≤1000000) (hok:SltOk (loadS d)) (hf2:∀k∈foot g mb kv,2≤k) (w:World) (ht:Tab w) (hd:DkAt w g mb kv d) :
  Calls Tryz.prog 14 #[.pointer (some ⟨g,0,none⟩)] w fun e w'=>∃sb hb,e=.returned (.tuple #[.pointer (some ⟨sb,0,none⟩),.int .i64 0])∧SlAt w' g mb kv sb hb (openD d) (loadS d)∧w.heap.size≤sb∧w.heap.size≤hb∧UpdS (foot g mb kv) w w':=by
 have HD:Hid (DkAt w g mb kv d):=hd
 have HO:Hid (d.off=false):=ho
 have HT:Hid (Tab w):=ht
 have HN:Hid (64≤d.n):=hn
 have HN2:Hid (d.n≤200):=hn2
 have HNM:Hid (d.Nm k0):=hnm
 have HSO:Hid (SltOk (loadS d)):=hok
 have HF2:Hid (∀k∈foot g mb kv,2≤k):=hf2
 have HPO:Hid (PhOk d.n (leftP d 24)):=leftP_ok d 24 d.n (by omega)
 have HCA:Hid ((phs d (phL (leftP d 24) d.n)).2=true):=(d7 _ d hl0 ho).1
 obtain ⟨J,hJ⟩:∃J,J=(pensP (leftP d 24) d.n).length:=⟨_,rfl⟩
 have HJ:Hid (∀_:Unit,(pensP (leftP d 24) d.n).length=J):=fun _=>hJ.symm
 have HOD:Hid (∀_:Unit,openD d=if J=0 then d else (phs d (phL (leftP d 24) d.n)).1):=fun _=>by rw [hJ];rfl
 clear hd ho ht hn hn2 hnm hok hf2 hJ hl0
 by_cases hz:J=0
 ·have HG:¬0<J:=by omega
  have HOE:Hid (openD d=d):=by show _=_;rw [HOD.out (),if_pos hz]
  clear hz
  go_enter Tryz.func14,Tryz.ntmps14
  go_wp2_with (first
   | (go_at_call 18;refine (jq g mb kv d HO.out HN.out HSO.out HF2.out _ HT.out HD.out).mono ?_;rintro e w1 ⟨sb,hb,lb,rfl,hs,hp,h1,h2,h3,hb1⟩;have HS:Hid _:=hs;have HP:Hid (PhM w1 lb (leftP d 24)):=hp;have HX:Hid (w.heap.size≤sb∧w.heap.size≤hb):=⟨h1,h2⟩;have HB:Hid (Below w.heap.size w w1):=hb1;clear hs hp h1 h2 h3 hb1)
   | ((with_reducible refine aa (some 18) (.call {callee:=.builtin .len,args:=#[.tmp 17],argTypes:=#[55]}) ?_);go_must (refine ae (.int .i64 (J:Int)) rfl (gZ (by have h9:=PhM.lenRun HP.out (by have:=HN2.out;omega) HPO.out 3;rw [HJ.out ()] at h9;exact h9) rfl) ?_)))
  go_ret2
  exact ⟨sb,hb,rfl,by rw [HOE.out];exact HS.out,HX.out.1,HX.out.2,UpdS.of_below HB.out⟩
 ·have HG:0<J:=by omega
  have HOE:Hid (openD d=(phs d (phL (leftP d 24) d.n)).1):=by show _=_;rw [HOD.out (),if_neg hz]
  have HKP:Hid (kps d [phL (leftP d 24) d.n]=((phs d (phL (leftP d 24) d.n)).1,true)):=by show _=_;rw [cw HCA.out];rfl
  clear hz
  go_enter Tryz.func14,Tryz.ntmps14
  go_wp2_with (first
   | (go_at_call 18;refine (jq g mb kv d HO.out HN.out HSO.out HF2.out _ HT.out HD.out).mono ?_;rintro e w1 ⟨sb,hb,lb,rfl,hs,hp,h1,h2,h3,hb1⟩;have HS:Hid _:=hs;have HP:Hid (PhM w1 lb (leftP d 24)):=hp;have HX:Hid (w.heap.size≤sb∧w.heap.size≤hb∧w.heap.size≤lb):=⟨h1,h2,h3⟩;have HB:Hid (Below w.heap.size w w1):=hb1;clear hs hp h1 h2 h3 hb1;have hm:=Mem.start w1)
   | ((with_reducible refine aa (some 18) (.call {callee:=.builtin .len,args:=#[.tmp 17],argTypes:=#[55]}) ?_);go_must (refine ae (.int .i64 (J:Int)) rfl (gZ (by have h9:=PhM.lenRun HP.out (by have:=HN2.out;omega) HPO.out 3;rw [HJ.out ()] at h9;exact h9) rfl) ?_))
   | ((with_reducible refine aa (some 22) (.buildSlice 90 1 #[(0,.tmp 21)]) ?_);go_must (refine gm rfl (.map none) (.map (some lb)) un_phs fw rfl rfl rfl hm ?_);clear hm;intro w2 bs hb2 hm)
   | (go_at_call 22;go_must (refine (jw g mb kv d 1 k0 bs (fun _=>lb) (fun _=>leftP d 24) (by omega) hk0 HN2.out (fun _ _=>HPO.out) HNM.out _ (HS.out.dk.below hm.below) (fun h=>by have h8:=HS.out.dk.lt _ h;have h9:=hm.fresh _ (List.mem_cons_self ..);simp at h9;omega) (hm.get 0 rfl).lt (fun j hj=>by obtain rfl:j=0:=(by omega);rw [hm.cell 0 rfl];rfl) (fun j _=>⟨HP.out.below hm.below,fun h=>by have h8:=HD.out.lt _ h;have h9:=HX.out.2.2;omega⟩)).mono ?_);rintro e w3 ⟨he,hd3,hu3⟩;rw [lsOf_one,HKP.out] at he hd3;subst he;have HS3:Hid (SlAt w3 g mb kv sb hb (phs d (phL (leftP d 24) d.n)).1 (loadS d)):=(HS.out.below hm.below).disk hd3 hu3;have HU3:Hid (UpdS (foot g mb kv) w w3):=((UpdS.of_below HB.out).trans (UpdS.of_below hm.below)).trans hu3;clear hd3 hu3))
  go_ret2
  exact ⟨sb,hb,rfl,by rw [HOE.out];exact HS3.out,HX.out.1,HX.out.2.1,HU3.out⟩
open Go Go.RowKit Go.Maps
def mkA (c:Nat) (held:Nat→Option Ent) (i:Nat):Nat→Option (List Int):=fun s=>if s=c then some zeroK else if 2≤s∧s<2+i then some (unC (held (s - 2))) else none
def mkB (i:Nat):Nat→Option (List Int):=fun s=>if 2≤s∧s<2+i then some zeroK else none
def mkQ (c:Nat):Nat→Option (List Int):=fun s=>if s=c then some zeroK else none
theorem mkA_zero (c:Nat) (held:Nat→Option Ent):upf (fun _=>none) c (some zeroK)=mkA c held 0:=by
 funext s
 show (if s=c then some zeroK else none)=if s=c then some zeroK else if 2≤s∧s<2+0 then some (unC (held (s - 2))) else none
 by_cases h:s=c
 ·rw [if_pos h,if_pos h]
 ·rw [if_neg h,if_neg h,if_neg (by omega)]
theorem mkA_more {c:Nat} (hc:c<2) (held:Nat→Option Ent) (i:Nat):upf (mkA c held i) (2+i) (some (unC (held i)))=mkA c held (i+1):=by
 funext s
 show (if s=2+i then some (unC (held i)) else (if s=c then some zeroK else if 2≤s∧s<2+i then some (unC (held (s - 2))) else none))=if s=c then some zeroK else if 2≤s∧s<2+(i+1) then some (unC (held (s - 2))) else none
 by_cases h:s=2+i
 ·subst h
  rw [if_pos rfl,if_neg (by omega),if_pos (by omega),Nat.add_sub_cancel_left]
 ·rw [if_neg h]
  by_cases h2:s=c
  ·rw [if_pos h2,if_pos h2]
  ·rw [if_neg h2,if_neg h2]
   by_cases h3:2≤s∧s<2+i
   ·rw [if_pos h3,if_pos (by omega)]
   ·rw [if_neg h3,if_neg (by omega)]
theorem mkB_zero:(fun _=>none)=mkB 0:=by
 funext s
 show none=if 2≤s∧s<2+0 then some zeroK else none
 rw [if_neg (by omega)]
theorem mkB_more (i:Nat):upf (mkB i) (2+i) (some zeroK)=mkB (i+1):=by
 funext s
 show (if s=2+i then some zeroK else (if 2≤s∧s<2+i then some zeroK else none))=if 2≤s∧s<2+(i+1) then some zeroK else none
 by_cases h:s=2+i
 ·subst h
  rw [if_pos rfl,if_pos (by omega)]
 ·rw [if_neg h]
  by_cases h3:2≤s∧s<2+i
  ·rw [if_pos h3,if_pos (by omega)]
  ·rw [if_neg h3,if_neg (by omega)]
theorem mkA_ok {c n:Nat} {held:Nat→Option Ent} (hc:c<2) (hn:64≤n) (h:∀i y,held i=some y→EntOk y):PhOk n (mkA c held 24):=⟨fun i l hl=>by
 unfold mkA at hl
 split at hl
 ·simp only [Option.some.injEq] at hl
  subst hl
  exact ⟨by omega,aL,ce⟩
 ·split at hl
  ·simp only [Option.some.injEq] at hl
   subst hl
   exact ⟨by omega,ji (h _),unC_bytes (h _)⟩
  ·cases hl⟩
theorem mkB_ok {n:Nat} (hn:64≤n):PhOk n (mkB 24):=⟨fun i l hl=>by
 unfold mkB at hl
 split at hl
 ·simp only [Option.some.injEq] at hl
  subst hl
  exact ⟨by omega,aL,ce⟩
 ·cases hl⟩
theorem mkQ_ok {c n:Nat} (hc:c<2) (hn:64≤n):PhOk n (mkQ c):=⟨fun i l hl=>by
 unfold mkQ at hl
 split at hl
 ·simp only [Option.some.injEq] at hl
  subst hl
  exact ⟨by omega,aL,ce⟩
 ·cases hl⟩
def mkPh (t:Slt):Nat→Nat→Option (List Int)
 | 0=>mkA ((t.puts+1) % 2) t.held 24
 | 1=>mkB 24
 | _=>mkQ (t.puts % 2)
def makeD (d:Dk):Dk:=(kps d (lsOf (mkPh (loadS d)) d.n 3)).1
def newS:Slt:=⟨fun _=>none,0,false⟩
theorem newS_ok:SltOk newS:=⟨fun _ _ h=>(by cases h),by show 0≤200;omega⟩
theorem i9:∀(ls:List (List (Nat×List Int))) (d:Dk),d.left=0→d.off=false→(kps d ls).2=true∧(kps d ls).1.left=0∧(kps d ls).1.off=false
 | [],d,h1,h2=>⟨rfl,h1,h2⟩
 | l::ls,d,h1,h2=>by
  obtain ⟨a,b,c⟩:=d7 l d h1 h2
  rw [cw a]
  exact i9 ls _ b c
theorem built_slo2 (g hb:Nat):Tryz.prog.built 62 [(0,.pointer (some ⟨g,0,none⟩)),(1,.map (some hb))]=some [.pointer (some ⟨g,0,none⟩),.map (some hb),.int .u64 0,.bool false].toArray:=by rfl
structure MkAt (w0 w:World) (g mb:Nat) (kv:Value) (sb hb:Nat) (d:Dk) (t:Slt) (mA mB:Nat) (i:Nat):Prop where
 bel:Below w0.heap.size w0 w
 at_:SlAt w g mb kv sb hb d t
 a:PhQ w mA (1+i) (mkA ((t.puts+1) % 2) t.held i)
 b:PhQ w mB i (mkB i)
 na:∀k∈footS g mb kv sb hb,k<mA
 nb:∀k∈footS g mb kv sb hb,k<mB
 wa:w0.heap.size≤mA
 wb:w0.heap.size≤mB
 ne:mA≠mB
section
variable {w0 w w':World} {g mb:Nat} {kv:Value} {sb hb:Nat} {d:Dk} {t:Slt} {mA mB i:Nat}
theorem MkAt.below (h:MkAt w0 w g mb kv sb hb d t mA mB i) (hbb:Below w.heap.size w w'):MkAt w0 w' g mb kv sb hb d t mA mB i :=
 ⟨h.bel.trans (hbb.mono h.bel.size),h.at_.below hbb,h.a.below hbb,h.b.below hbb,h.na,h.nb,h.wa,h.wb,h.ne⟩
theorem eN {m:Nat} (h:Below w0.heap.size w0 w) (hm:w0.heap.size≤m) (hu:Upd m w w'):Below w0.heap.size w0 w' :=
 ⟨hu.os.trans h.os,hu.tape.trans h.tape,hu.output.trans h.output,Nat.le_trans h.size hu.size,fun k hk=>(hu.block k (Nat.lt_of_lt_of_le hk h.size) (by omega)).trans (h.block k hk)⟩
theorem SlAt.updO (h:SlAt w g mb kv sb hb d t) {m:Nat} (hm:∀k∈footS g mb kv sb hb,k<m) (hu:Upd m w w'):SlAt w' g mb kv sb hb d t:=h.keep (fun k hk=>hu.block k (h.lt k hk) (fun e=>by have:=hm k hk;omega))
theorem mk_ph (h:MkAt w0 w g mb kv sb hb d t mA mB 24) {mQ:Nat} (hq:PhQ w mQ 1 (mkQ (t.puts % 2))) {B:Nat} (hB:B≤mQ) (hlt:∀k∈footS g mb kv sb hb,k<B) (hbb:Below w.heap.size w w') (j:Nat) (hj:j<3) :
  PhM w' (if j=0 then mA else if j=1 then mB else mQ) (mkPh t j)∧(if j=0 then mA else if j=1 then mB else mQ) ∉ foot g mb kv:=by
 rcases (by omega:j=0∨j=1∨j=2) with rfl|rfl|rfl
 ·exact ⟨(h.a.below hbb).ph (by omega),fun hh=>by have h9:=h.na mA (by simp only [footS,List.mem_cons];exact Or.inr (Or.inr hh));omega⟩
 ·exact ⟨(h.b.below hbb).ph (by omega),fun hh=>by have h9:=h.nb mB (by simp only [footS,List.mem_cons];exact Or.inr (Or.inr hh));omega⟩
 ·exact ⟨(hq.below hbb).ph (by omega),fun hh=>by have h9:=hlt mQ (by simp only [footS,List.mem_cons];exact Or.inr (Or.inr hh));omega⟩
end
theorem makeS_any (g mb:Nat) (kv:Value) (d:Dk) (k0:Nat) (ho:d.off=false) (hl0:d.left=0) (hn:64≤d.n) (hn2:d.n≤200) (hnm:d.Nm k0) (hk0:k0≤1000000) (hok:SltOk (loadS d)) (hf2:∀k∈foot g mb kv,2≤k) (w:World) (ht:Tab w) (hd:DkAt w g mb kv d) :
  Calls Tryz.prog 6 #[.pointer (some ⟨g,0,none⟩)] w fun e w'=>∃sb hb,e=.returned (.tuple #[.pointer (some ⟨sb,0,none⟩),.int .i64 0])∧SlAt w' g mb kv sb hb (makeD d) newS∧w.heap.size≤sb∧w.heap.size≤hb∧UpdS (foot g mb kv) w w':=by
 have HD:Hid (DkAt w g mb kv d):=hd
 have HO:Hid (d.off=false):=ho
 have HT:Hid (Tab w):=ht
 have HN:Hid (64≤d.n):=hn
 have HN2:Hid (d.n≤200):=hn2
 have HNM:Hid (d.Nm k0):=hnm
 have HSO:Hid (SltOk (loadS d)):=hok
 have HF2:Hid (∀k∈foot g mb kv,2≤k):=hf2
 obtain ⟨t,ht0⟩:∃t,t=loadS d:=⟨_,rfl⟩
 have HTT:Hid (∀_:Unit,loadS d=t):=fun _=>ht0.symm
 have HKP:Hid (kps d (lsOf (mkPh t) d.n 3)=(makeD d,true)):=by
  show _=_
  rw [ht0]
  exact Prod.ext rfl (i9 _ d hl0 ho).1
 obtain ⟨c,hc⟩:∃c,c=t.puts:=⟨_,rfl⟩
 have HC:Hid (∀_:Unit,t.puts=c):=fun _=>hc.symm
 have hc2:c≤200:=by rw [hc,ht0];exact hok.puts
 have HW1:IntKind.u64.wrap ((c:Int)+1)=((c+1:Nat):Int):=by rw [show (c:Int)+1=((c+1:Nat):Int) by omega];exact fx _ (by omega)
 clear hd ho ht hn hn2 hnm hok hf2 hl0 hc ht0
 have tk1:Nat:=0
 go_enter Tryz.func6,Tryz.ntmps6
 go_wp2_with (first
  | (go_at_call 18;refine (jq g mb kv d HO.out HN.out HSO.out HF2.out _ HT.out HD.out).mono ?_;rintro e w1 ⟨sb,hb,lb,rfl,hs,hp,h1,h2,h3,hb1⟩;rw [HTT.out ()] at hs;have HS:Hid (SlAt w1 g mb kv sb hb d t):=hs;have HX:Hid (w.heap.size≤sb∧w.heap.size≤hb):=⟨h1,h2⟩;have HB:Hid (Below w.heap.size w w1):=hb1;clear hs hp h1 h2 h3 hb1;have hm:=Mem.start w1)
  | ((with_reducible refine aa (some 20) (.makeMap 55 none) ?_);go_must (refine db hm ?_);clear hm;intro w2 mA hmp hna hb2 hm;have HMA:Hid (PhQ w2 mA 0 (fun _=>none)):=PhQ.new hmp;have HNA:Hid (w1.heap.size≤mA):=hna;clear hmp hna hb2)
  | ((with_reducible refine aa (some 24) (.load 59 (.tmp 23)) ?_);go_must (refine aQ (.int .u64 (c:Int)) (by rw [←HC.out ()];exact (SlAt.cell (HS.out.below hm.below) 2).trans rfl) rfl gI ?_))
  | (go_at_call 19;clear tk1;go_must (refine (ej (c+1) (by omega) _).mono ?_);rintro e w3 ⟨rfl,hw3⟩;replace hw3:=hw3.symm;subst hw3)
  | ((with_reducible refine aa (some 27) (.build 64 #[]) ?_);go_must (refine aM (u8s zeroK) _ rfl cY ?_))
  | ((with_reducible refine aa none (.insert 55 (.tmp 20) (.tmp 26) (.tmp 27)) ?_);go_must (refine dt HMA.out (by omega) ((c+1) % 2) (by omega) zeroK rfl rfl rfl ?_);intro w4 hA4 hu4;obtain ⟨es,cc,hmap⟩:=PhQ.isMap HMA.out;rw [mkA_zero ((c+1) % 2) t.held] at hA4;have HMA4:Hid (PhQ w4 mA (1+0) (mkA ((c+1) % 2) t.held 0)):=hA4;have HS4:Hid (SlAt w4 g mb kv sb hb d t∧Below w1.heap.size w1 w4):=⟨(HS.out.below hm.below).updO (fun k hk=>by have:=HS.out.lt k hk;have:=HNA.out;omega) hu4,eN hm.below HNA.out hu4⟩;clear hA4 hu4 hmap HMA hm;have hm:=Mem.start w4)
  | ((with_reducible refine aa (some 29) (.makeMap 55 none) ?_);go_must (refine db hm ?_);clear hm;intro w5 mB hmp hnb hb5 hm;have HMB:Hid (PhQ w5 mB 0 (fun _=>none)):=PhQ.new hmp;have HNB:Hid (w4.heap.size≤mB):=hnb;have HMA5:Hid (PhQ w5 mA (1+0) (mkA ((c+1) % 2) t.held 0)):=HMA4.out.below hb5;clear hmp hnb hb5))
 have HM0:Hid (MkAt w w5 g mb kv sb hb d t mA mB 0):=by
  have h1:=HS4.out.2.size
  have h2:=HMA4.out.lt
  refine ⟨(HB.out.trans (HS4.out.2.mono HB.out.size)).trans (hm.below.mono (Nat.le_trans HB.out.size h1)),HS4.out.1.below hm.below,by rw [HC.out ()];exact HMA5.out,by rw [←mkB_zero];exact HMB.out,fun k hk=>?_,fun k hk=>?_,?_,?_,?_⟩
  ·have:=HS.out.lt k hk;have:=HNA.out;omega
  ·have:=HS4.out.1.lt k hk;have:=HNB.out;omega
  ·have:=HB.out.size;have:=HNA.out;omega
  ·have:=HB.out.size;have:=HNB.out;omega
  ·have:=HNB.out;omega
 clear hm HS4 HMA4 HMA5 HMB HNA HNB
 go_loopw [30] (fun vi wr=>∃i:Nat,i≤24∧vi=.int .i64 (i:Int)∧Hid (MkAt w wr g mb kv sb hb d t mA mB i)) (fun vi _=>24 - (intOf vi).toNat)
 case atStart=>exact ⟨0,by omega,rfl,HM0.out⟩
 case round =>
  clear HM0
  obtain ⟨i,hi,rfl,HM⟩:=hrel
  by_cases hlt:i<24
  ·have hli:(i:Int)<24:=by omega
   have hm:=Mem.start wr
   go_wp2_with fail
   refine au ?_
   refine av (T:=fun W=>SlAt W g mb kv sb hb d t) (by kernel_rfl) hm ?_
   intro wc hbw hmw
   have HM5:Hid (MkAt w wc g mb kv sb hb d t mA mB i):=HM.out.below hbw
   clear hm hbw hmw
   refine aT 0 (v:=.map (some mA)) rfl (by kernel_rfl) rfl (fun W _=>by go_simp) HM5.out.at_ ?_
   go_simp
   refine aT 1 (v:=.int .i64 (i:Int)) rfl (by kernel_rfl) rfl (fun W _=>by go_simp) HM5.out.at_ ?_
   go_simp
   refine aT 3 (v:=.pointer (some ⟨sb,0,none⟩)) rfl (by kernel_rfl) rfl (fun W _=>by go_simp) HM5.out.at_ ?_
   go_simp
   refine aT 4 (v:=.pointer (some ⟨sb,0,none⟩)) rfl (by kernel_rfl) rfl (fun W _=>by go_simp) HM5.out.at_ ?_
   go_simp
   refine aT 5 (v:=.pointer (some ⟨sb,1,none⟩)) rfl (by kernel_rfl) rfl (fun W _=>by go_simp) HM5.out.at_ ?_
   go_simp
   refine aT 6 (v:=.map (some hb)) rfl (by kernel_rfl) rfl (fun W hW=>bv ((SlAt.cell hW 1).trans rfl) rfl cj) HM5.out.at_ ?_
   go_simp
   refine aT 7 (v:=.int .i64 (i:Int)) rfl (by kernel_rfl) rfl (fun W _=>by go_simp) HM5.out.at_ ?_
   go_simp
   refine aT 8 (v:=.agg (entL ((t.held i).getD noEnt)).toArray) rfl (by kernel_rfl) rfl (fun W hW=>bG (SlAt.look1 hW i (by omega)) rfl rfl) HM5.out.at_ ?_
   go_simp
   refine aO 2 (by kernel_rfl) rfl rfl ?_
   intro K hK
   go_wp2_with (go_at_call 21;refine (bD i (by omega) _).mono ?_;rintro e w6 ⟨rfl,hw6⟩;replace hw6:=hw6.symm;subst hw6)
   refine hK _ _ HM5.out.at_ ?_
   clear hK K
   go_simp
   refine aO 9 (by kernel_rfl) rfl rfl ?_
   intro K hK
   go_wp2_with (go_at_call 20;refine (dI ((t.held i).getD noEnt) (HM.out.at_.ok.len i) _).mono ?_;rintro e w6 ⟨he,hb6⟩;rw [←unC_get] at he;subst he;have HM6:Hid (MkAt w w6 g mb kv sb hb d t mA mB i):=HM5.out.below hb6;clear hb6)
   refine hK _ _ HM6.out.at_ ?_
   clear hK K
   go_simp
   refine aO 10 (by kernel_rfl) rfl rfl ?_
   intro K hK
   go_must (refine gW HM6.out.a (by omega) (2+i) (by omega) (unC (t.held i)) rfl (by first|rfl|(show Value.int .i64 _=_;congr 1;omega)) rfl ?_)
   intro w7 ha7 hu7
   refine wpList_nil ?_
   have HM7:Hid (SlAt w7 g mb kv sb hb d t∧Below w.heap.size w w7∧PhQ w7 mA (1+(i+1)) (mkA ((t.puts+1) % 2) t.held (i+1))∧PhQ w7 mB i (mkB i)):=⟨HM6.out.at_.updO HM6.out.na hu7,eN HM6.out.bel HM6.out.wa hu7,by rw [←mkA_more (by omega)];exact ha7,HM6.out.b.upd hu7 (fun e=>HM6.out.ne e.symm)⟩
   refine hK _ _ HM7.out.1 ?_
   clear hK K ha7 hu7
   go_simp
   refine wpAnyH_done (by kernel_rfl) ?_ _
   simp only [endsIn]
   go_wp2_with (first
    | (go_at_call 21;refine (bD i (by omega) _).mono ?_;rintro e w8 ⟨rfl,hw8⟩;replace hw8:=hw8.symm;subst hw8)
    | ((with_reducible refine aa (some 46) (.build 64 #[]) ?_);go_must (refine aM (u8s zeroK) _ rfl cY ?_))
    | ((with_reducible refine aa none (.mapUpdate 55 (.tmp 43) (.tmp 45) (.tmp 46)) ?_);go_must (refine gW HM7.out.2.2.2 (by omega) (2+i) (by omega) zeroK rfl rfl rfl ?_);intro w9 hb9 hu9;have HM9:Hid (MkAt w w9 g mb kv sb hb d t mA mB (i+1)):=⟨eN HM7.out.2.1 HM6.out.wb hu9,HM7.out.1.updO HM6.out.nb hu9,HM7.out.2.2.1.upd hu9 HM6.out.ne,by rw [←mkB_more];exact hb9,HM6.out.na,HM6.out.nb,HM6.out.wa,HM6.out.wb,HM6.out.ne⟩;clear hb9 hu9))
   go_roundw
   case rel=>exact ⟨i+1,by omega,by go_num,HM9.out⟩
   case measure=>simp [intOf];omega
  ·have hi24:i=24:=by omega
   have hli:¬(i:Int)<24:=by omega
   subst hi24
   have hm:=Mem.start wr
   go_wp2_with (first
    | ((with_reducible refine aa (some 51) (.makeMap 55 none) ?_);go_must (refine db hm ?_);clear hm;intro w2 mQ hmp hnq hb2 hm;have HMQ:Hid (PhQ w2 mQ 0 (fun _=>none)):=PhQ.new hmp;have HNQ:Hid (wr.heap.size≤mQ):=hnq;have HM2:Hid (MkAt w w2 g mb kv sb hb d t mA mB 24):=HM.out.below hm.below;clear hmp hnq hb2)
    | ((with_reducible refine aa (some 55) (.load 59 (.tmp 54)) ?_);go_must (refine aQ (.int .u64 (c:Int)) (by rw [←HC.out ()];exact (SlAt.cell HM2.out.at_ 2).trans rfl) rfl gI ?_))
    | (go_at_call 19;refine (ej c (by omega) _).mono ?_;rintro e w3 ⟨rfl,hw3⟩;replace hw3:=hw3.symm;subst hw3)
    | ((with_reducible refine aa (some 57) (.build 64 #[]) ?_);go_must (refine aM (u8s zeroK) _ rfl cY ?_))
    | ((with_reducible refine aa none (.insert 55 (.tmp 51) (.tmp 56) (.tmp 57)) ?_);go_must (refine dt HMQ.out (by omega) (c % 2) (by omega) zeroK rfl rfl rfl ?_);intro w4 hq4 hu4;have HMQ4:Hid (PhQ w4 mQ 1 (mkQ (c % 2))):=hq4;have hlta:mA<wr.heap.size:=HM.out.a.lt;have hltb:mB<wr.heap.size:=HM.out.b.lt;have hnq9:=HNQ.out;have HM4:Hid (MkAt w w4 g mb kv sb hb d t mA mB 24):=⟨eN HM2.out.bel (by have:=HM.out.bel.size;omega) hu4,HM2.out.at_.updO (fun k hk=>by have:=HM.out.at_.lt k hk;omega) hu4,HM2.out.a.upd hu4 (by omega),HM2.out.b.upd hu4 (by omega),HM.out.na,HM.out.nb,HM.out.wa,HM.out.wb,HM.out.ne⟩;clear hq4 hu4 hm hlta hltb hnq9;have hm:=Mem.start w4)
    | ((with_reducible refine aa (some 59) (.buildSlice 90 3 #[(0,.tmp 49),(1,.tmp 50),(2,.tmp 58)]) ?_);go_must (refine wpl_bsl3 (.map none) (.map (some mA)) (.map (some mB)) (.map (some mQ)) un_phs fw rfl rfl rfl rfl rfl rfl rfl hm ?_);clear hm;intro w5 bs hb5 hm)
    | (go_at_call 22;go_must (refine (jw g mb kv d 3 k0 bs (fun j=>if j=0 then mA else if j=1 then mB else mQ) (mkPh t) (by omega) hk0 HN2.out (fun j hj=>(by rcases (by omega:j=0∨j=1∨j=2) with rfl|rfl|rfl;exact mkA_ok (by omega) HN.out HM.out.at_.ok.ent;exact mkB_ok HN.out;exact mkQ_ok (by omega) HN.out)) HNM.out _ (HM4.out.at_.dk.below hm.below) (fun h=>by have h8:=HM4.out.at_.dk.lt _ h;have h9:=hm.fresh _ (List.mem_cons_self ..);simp at h9;omega) (hm.get 0 rfl).lt (fun j hj=>by rcases (by omega:j=0∨j=1∨j=2) with rfl|rfl|rfl<;>(rw [hm.cell 0 rfl];rfl)) (fun j hj=>mk_ph HM4.out (by rw [HC.out ()];exact HMQ4.out) HNQ.out HM.out.at_.lt hm.below j hj)).mono ?_);rintro e w6 ⟨he,hd6,hu6⟩;rw [HKP.out] at he hd6;subst he;have HD6:Hid (DkAt w6 g mb kv (makeD d)):=hd6;have HU6:Hid (UpdS (foot g mb kv) w w6):=((UpdS.of_below HM4.out.bel).trans (UpdS.of_below hm.below)).trans hu6;clear hd6 hu6 hm;have hm:=Mem.start w6)
    | ((with_reducible refine aa (some 65) (.makeMap 60 none) ?_);go_must (refine db hm ?_);clear hm;intro w7 h2 hmp hnh hb7 hm;have HH7:Hid (w7.heap[h2]?=some (.map #[] 0)):=hmp;have HNH:Hid (w6.heap.size≤h2):=hnh;clear hmp hnh hb7)
    | ((with_reducible refine aa (some 66) (.build 62 #[(0,.tmp 64),(1,.tmp 65)]) ?_);go_must (refine aM [.pointer (some ⟨g,0,none⟩),.map (some h2),.int .u64 0,.bool false] _ rfl (built_slo2 g h2) ?_))
    | ((with_reducible refine aa (some 67) (.box 62 (.tmp 66)) ?_);go_must (refine fk [.pointer (some ⟨g,0,none⟩),.map (some h2),.int .u64 0,.bool false] rfl hm ?_);clear hm;intro w8 s2 hb8 hm;have HH8:Hid (w8.heap[h2]?=some (.map #[] 0)):=(hb8.block h2 (Array.getElem?_eq_some_iff.1 HH7.out).1).trans HH7.out;clear hb8))
   go_ret2
   have hfr:=hm.fresh _ (List.mem_cons_self ..)
   simp only [List.not_mem_nil,false_or] at hfr
   have hsz:=HU6.out.size
   have hnh:=HNH.out
   have hft:∀q∈foot g mb kv,q<w.heap.size:=HD.out.lt
   have ht2:=HT.out.lt
   refine ⟨s2,h2,rfl,⟨HD6.out.below hm.below,hm.get 0 rfl,⟨0,by omega,(KM.new HH8.out).same hvK_none⟩,newS_ok,fun h=>?_,fun h=>?_,fun q hq=>?_⟩,by omega,by omega,HU6.out.trans (UpdS.of_below hm.below)⟩
   ·have:=hft _ h;omega
   ·have:=hft _ h;omega
   ·simp only [footS,List.mem_cons] at hq
    rcases hq with rfl|rfl|hq
    ·omega
    ·omega
    ·exact HF2.out q hq
theorem make_small (g mb:Nat) (kv:Value) (d:Dk) (hn:d.n<64) (w:World) (hd:DkAt w g mb kv d) :
  Calls Tryz.prog 6 #[.pointer (some ⟨g,0,none⟩)] w fun e w'=>e=.returned (.tuple #[.pointer none,.int .i64 70])∧w'=w:=by
 have HD:Hid (DkAt w g mb kv d):=hd
 clear hd
 go_enter Tryz.func6,Tryz.ntmps6
 go_wp2_with (first
  | (go_at_call 18;refine (load_small g mb kv d hn _ HD.out).mono ?_;rintro e w1 ⟨rfl,hw⟩;replace hw:=hw.symm;subst hw))
 go_ret2
 exact ⟨rfl,rfl⟩
open Go Go.RowKit Go.Maps Go.Shelf
theorem am {b:Nat→Bool} {c:Nat→Option Value} {i t j s:Nat} {v x:Value} (h:b j=true→c s=some x) (hj:j≠i) (hs:s≠t):setF b i true j=true→setF c t (some v) s=some x:=by
 rw [af b true hj,af c _ hs]
 exact h
theorem bf {b:Nat→Bool} {c:Nat→Option Value} {i j s:Nat} {x:Value} (h:b j=true→c s=some x) (hj:j≠i):setF b i true j=true→c s=some x:=by
 rw [af b true hj]
 exact h
theorem Row.bel {w w':World} {g:Nat} {l:List Value} {t:TypeId} (h:Row w g l t) (hb:Below w.heap.size w w'):Row w' g l t:=by
 unfold Row
 rw [hb.block g h.lt]
 exact h
theorem UpdS.newU {L:List Nat} {W w w':World} {m:Nat} (h:UpdS L W w) (hm:W.heap.size≤m) (hu:Upd m w w'):UpdS L W w' :=
 ⟨hu.os.trans h.os,hu.tape.trans h.tape,hu.output.trans h.output,Nat.le_trans h.size hu.size,fun k hk hn=>(hu.block k (Nat.lt_of_lt_of_le hk h.size) (by omega)).trans (h.block k hk hn)⟩
def ph1 (k:Nat) (v:List Int) (f:Bool):Nat→Option (List Int):=fun s=>if f=true∧s=k then some v else none
def ph2 (k1:Nat) (v1:List Int) (k2:Nat) (v2:List Int) (f1 f2:Bool):Nat→Option (List Int):=fun s=>if f1=true∧s=k1 then some v1 else if f2=true∧s=k2 then some v2 else none
theorem gK {w:World} {m:Nat} (k:Nat) (v:List Int) (h:w.heap[m]?=some (.map #[] 0)):PhQ w m (false.toNat) (ph1 k v false):=by
 have e:ph1 k v false=fun _=>none:=by funext s;simp [ph1]
 rw [e]
 exact PhQ.new h
theorem phq_zero2 {w:World} {m:Nat} (k1:Nat) (v1:List Int) (k2:Nat) (v2:List Int) (h:w.heap[m]?=some (.map #[] 0)):PhQ w m (false.toNat+false.toNat) (ph2 k1 v1 k2 v2 false false):=by
 have e:ph2 k1 v1 k2 v2 false false=fun _=>none:=by funext s;simp [ph2]
 rw [e]
 exact PhQ.new h
theorem phq_in1 {w:World} {m k:Nat} {v:List Int} (h:PhQ w m (false.toNat+1) (upf (ph1 k v false) k (some v))):PhQ w m (true.toNat) (ph1 k v true):=by
 have e:upf (ph1 k v false) k (some v)=ph1 k v true:=by
  funext s
  show (if s=k then some v else if false=true∧s=k then some v else none)=if true=true∧s=k then some v else none
  simp
 rw [e] at h
 exact h
theorem phq_in2a {w:World} {m k1 k2:Nat} {v1 v2:List Int} {f:Bool} (_:k1≠k2) (h:PhQ w m (false.toNat+f.toNat+1) (upf (ph2 k1 v1 k2 v2 false f) k1 (some v1))):PhQ w m (true.toNat+f.toNat) (ph2 k1 v1 k2 v2 true f):=by
 have e:upf (ph2 k1 v1 k2 v2 false f) k1 (some v1)=ph2 k1 v1 k2 v2 true f:=by
  funext s
  show (if s=k1 then some v1 else if false=true∧s=k1 then some v1 else if f=true∧s=k2 then some v2 else none)=if true=true∧s=k1 then some v1 else if f=true∧s=k2 then some v2 else none
  simp
 rw [e,show false.toNat+f.toNat+1=true.toNat+f.toNat by simp;omega] at h
 exact h
theorem phq_in2b {w:World} {m k1 k2:Nat} {v1 v2:List Int} {f:Bool} (hk:k1≠k2) (h:PhQ w m (f.toNat+false.toNat+1) (upf (ph2 k1 v1 k2 v2 f false) k2 (some v2))):PhQ w m (f.toNat+true.toNat) (ph2 k1 v1 k2 v2 f true):=by
 have e:upf (ph2 k1 v1 k2 v2 f false) k2 (some v2)=ph2 k1 v1 k2 v2 f true:=by
  funext s
  show (if s=k2 then some v2 else if f=true∧s=k1 then some v1 else if false=true∧s=k2 then some v2 else none)=if f=true∧s=k1 then some v1 else if true=true∧s=k2 then some v2 else none
  by_cases h1:s=k2
  ·subst h1
   simp [hk.symm]
  ·simp [h1]
 rw [e,show f.toNat+false.toNat+1=f.toNat+true.toNat by simp] at h
 exact h
section
variable {P:Program} {ops:Array Oper} {rest:List Oper} {a:Act} {w:World} {Q:Exit→Act→World→Prop} {dst:Option Tmp} {typ:TypeId} {pos:String} {aft:Array Edge}
theorem wpl_asgV {x:Operand} {v:Value} (hx:a.eval x=v) (h:wpList P ops Q rest (a.put dst v) w) :
  wpList P ops Q ({dst:=dst,op:=.assign x,type:=typ,pos:=pos,after:=aft,guard:=none}::rest) a w:=by
 refine wpList_plain rfl fun K hK=>?_
 unfold Oper.wp execOp
 simp only [hx,Sem.run_pure]
 exact hK _ _ h
end
end Go.Proofs.YtnllomcajijbjaaGreatDoor
