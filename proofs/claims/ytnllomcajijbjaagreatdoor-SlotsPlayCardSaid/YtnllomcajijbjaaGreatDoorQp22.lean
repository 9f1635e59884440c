import Derived.Test.YtnllomcajijbjaaGreatDoorQp21
set_option maxRecDepth 100000
set_option maxHeartbeats 4000000
namespace Go.Proofs.YtnllomcajijbjaaGreatDoor
open Go Go.RowKit Go.Maps
theorem clamp64:clampK 64=64:=by decide
theorem clamp63:clampK 63=63:=by decide
theorem exec_eqT {P:Program} {a:Act} {w:World} {dst:Option Tmp} {typ:TypeId} {pos:String} {aft:Array Edge} {gd:Option (Nat×Bool)} {t:TypeId} {x y:Operand} {rt:TypeId} (e:TypeId) (n:Nat) (k:IntKind) (xs:List Int) (hx:a.eval x=.agg (xs.map (Value.int k)).toArray) (hy:a.eval y=.agg (xs.map (Value.int k)).toArray) (ht:P.underlying t=some (.array n e)) (he:P.underlying e=some (.int k)) (hs:(P.info? e).map (·.size)=some 1) (hm:P.eqGuardType P.depth t=false) (h1:xs.length=n) :
  (execOp a.eval {dst:=dst,op:=.binOp .eql t x y rt,type:=typ,pos:=pos,after:=aft,guard:=gd}).run P w=.ok (.value (.bool true)) w:=by
 rw [exec_eqa e n k xs xs hx hy ht he hs hm h1 h1,decide_eq_true rfl]
def k12:Slt:=putS newS 3 (entN newS 3 (keyB 1) (keyB 2))
theorem k12_free:freeI newS.held=0:=by decide
theorem k12_used:usedL k12.held 24=[3]:=by
 unfold usedL
 have h:∀j,(k12.held j).isSome=decide (j=3):=by
  intro j
  by_cases hj:j=3
  ·subst hj;rfl
  ·rw [show k12.held j=none from aR _ _ hj,decide_eq_false hj];rfl
 rw [show (fun j=>(k12.held j).isSome)=fun j=>decide (j=3) from funext h]
 decide
theorem k12_none:usedL (eraS k12 3).held 24=[]:=by
 unfold usedL
 have h:∀j,((eraS k12 3).held j).isSome=false:=by
  intro j
  by_cases hj:j=3
  ·subst hj;rfl
  ·rw [show (eraS k12 3).held j=none from (aR _ _ hj).trans (aR _ _ hj)];rfl
 rw [show (fun j=>((eraS k12 3).held j).isSome)=fun _=>false from funext h]
 decide
theorem k12_a:getV k12.held 3 (keyB 1)=(keyB 2,0):=putS_get (t:=newS) (i:=3) (by omega) (keyB 1) (keyB 2) (aD 2) (bg (by omega))
theorem k12_b:getV k12.held 3 (keyB 2)=(zero32,50):=by
 have h:getV k12.held ((3:Nat):Int) (keyB 2)=unwV (keyB 2) 3 (entN newS 3 (keyB 1) (keyB 2)):=dZ (by omega) (bo _ _ _) _
 refine h.trans ?_
 unfold unwV
 rw [if_neg]
 rw [show unwOk (keyB 2) 3 (entN newS 3 (keyB 1) (keyB 2))=false from reckS]
 simp
theorem k12_four:k12.held 4=none:=aR newS.held (some (entN newS 3 (keyB 1) (keyB 2))) (show (4:Nat)≠3 by decide)
theorem k12_c:getV k12.held 4 (keyB 1)=(zero32,120):=fO (i:=4) (by omega) k12_four _
theorem ig (w:World) (ht:Tab w) (hq:QTab w) :
  Calls Tryz.prog 4 #[] w fun e w'=>e=.returned (.bool true)∧Below w.heap.size w w':=by
 have HT:Hid (Tab w):=ht
 have HQT:Hid (QTab w):=hq
 have tk1:Nat:=0
 have tk2:Nat:=0
 have tk3:Nat:=0
 have tk4:Nat:=0
 have tk5:Nat:=0
 have hm:=Mem.start w
 clear ht hq
 go_enter Tryz.func4,Tryz.ntmps4
 go_wp2_with (first
  | (go_at_call 5;(first|(clear tk1;go_must (refine (i3 64 _).mono ?_);rintro e w1 ⟨g,rfl,mb,kv,hd,hf,hb1⟩;rw [clamp64] at hd;have HD:Hid (DkAt w1 g mb kv (Dk.new 64)):=hd;have HF:Hid (∀q∈foot g mb kv,w.heap.size≤q):=hf;replace hm:=hm.call hb1;clear hd hf hb1)|(go_must (refine (i3 63 _).mono ?_);rintro e w1 ⟨g9,rfl,mb9,kv9,hd,hf,hb1⟩;rw [clamp63] at hd;have HD9:Hid (DkAt w1 g9 mb9 kv9 (Dk.new 63)):=hd;replace st:=st.below hb1;clear hd hf hb1)))
  | (go_at_call 6;(first|(clear tk2;go_must (refine (make_new (by omega) (by omega) hm HD.out HF.out (by simp) HT.out).mono ?_);rintro e w2 ⟨sb,hb,rfl,st,_,_,_⟩;obtain ⟨d0,hd0⟩:∃x,x=makeD (Dk.new 64):=⟨_,rfl⟩;rw [←hd0] at st;clear hd0 hm HD HF)|(go_must (refine (make_small g9 mb9 kv9 (Dk.new 63) (by show 63<64;omega) _ HD9.out).mono ?_);rintro e w2 ⟨rfl,hw2⟩;replace hw2:=hw2.symm;subst hw2)))
  | (go_at_call 16;go_must (refine (free_v st).mono ?_);rintro e wf ⟨he,st9⟩;rw [k12_free] at he;subst he;replace st:=st9;clear st9)
  | (go_at_call 9;refine (aZ _ _).mono ?_;rintro e wk ⟨rfl,hbk⟩;replace st:=st.below hbk;clear hbk)
  | (go_at_call 8;(first|(clear tk3;go_must (refine (put_w st HT.out HQT.out (by omega) (by decide) 3 (by omega) (keyB 1) (keyB 2) (aD 1) (bg (by omega)) (aD 2) (bg (by omega)) k12 rfl).mono ?_);rintro e wp ⟨rfl,⟨d1,st9⟩,_⟩;replace st:=st9;clear st9)|(go_must (refine (put_nv st 24 (by decide) (keyB 1) (keyB 2)).mono ?_);rintro e wp ⟨rfl,st9⟩;replace st:=st9;clear st9)))
  | (go_at_call 13;go_must (refine (crash_w st [] _ bytes_nil (SlA.nil _ _)).mono ?_);rintro e wc ⟨rfl,d2,st9⟩;replace st:=st9;clear st9)
  | (go_at_call 14;go_must (refine (open_v st HT.out (by omega)).mono ?_);rintro e wo ⟨s2,h2,rfl,st9⟩;replace st:=st9;clear st9)
  | (go_at_call 11;(first|(clear tk4;go_must (refine (get_v st HT.out HQT.out 3 (keyB 1) (aD 1) (bg (by omega))).mono ?_);rintro e wg ⟨he,st9⟩;rw [k12_a] at he;subst he;replace st:=st9;clear st9)|(clear tk5;go_must (refine (get_v st HT.out HQT.out 3 (keyB 2) (aD 2) (bg (by omega))).mono ?_);rintro e wg ⟨he,st9⟩;rw [k12_b] at he;subst he;replace st:=st9;clear st9)|(go_must (refine (get_v st HT.out HQT.out 4 (keyB 1) (aD 1) (bg (by omega))).mono ?_);rintro e wg ⟨he,st9⟩;rw [k12_c] at he;subst he;replace st:=st9;clear st9)))
  | ((with_reducible refine aa (some 6) (.alloc 39) ?_);go_must (refine aC _ bd ?_);intro wa q6 hba hqa hra;replace st:=st.add hba hra hqa;clear hba hqa hra)
  | ((with_reducible refine aa none (.store 39 (.tmp 6) (.tmp 55)) ?_);go_must (refine aw (u8s (keyB 2)) (st.mem.get 0 rfl) rfl rfl 32 az (by simp [ab]) (by rw [ab,aD]) (aq _) ?_);intro wb hub hrb;replace st:=st.upd 0 rfl hub hrb;clear hub hrb)
  | ((with_reducible refine aa (some 8) (.alloc 39) ?_);go_must (refine aC _ bd ?_);intro wa q8 hba hqa hra;replace st:=st.add hba hra hqa;clear hba hqa hra)
  | ((with_reducible refine aa none (.store 39 (.tmp 8) (.tmp 61)) ?_);go_must (refine aw (u8s zero32) (st.mem.get 0 rfl) rfl rfl 32 az (by simp [ab]) (by simp [ab,zero32]) (aq _) ?_);intro wb hub hrb;replace st:=st.upd 0 rfl hub hrb;clear hub hrb)
  | ((with_reducible refine aa (some 10) (.alloc 39) ?_);go_must (refine aC _ bd ?_);intro wa q10 hba hqa hra;replace st:=st.add hba hra hqa;clear hba hqa hra)
  | ((with_reducible refine aa none (.store 39 (.tmp 10) (.tmp 67)) ?_);go_must (refine aw (u8s zero32) (st.mem.get 0 rfl) rfl rfl 32 az (by simp [ab]) (by simp [ab,zero32]) (aq _) ?_);intro wb hub hrb;replace st:=st.upd 0 rfl hub hrb;clear hub hrb)
  | (go_at_call 17;go_must (refine (used_v st).mono ?_);rintro e wu ⟨vu,rfl,hin,st9,hbu⟩;rw [k12_used] at hin;have HIN:Hid (Ints wu _ vu [3]):=hin;have HLT:Hid (∀q∈footS g mb kv s2 h2,q<_):=st.at_.lt;replace st:=st9;clear st9 hbu hin))
 obtain ⟨pu,cu,rfl,hpu⟩:=HIN.out
 obtain ⟨bu,rfl,hbu1,hbu2,hbc⟩:=hpu (by decide)
 have HBU:Hid (bu ∉ footS g mb kv s2 h2):=fun hh=>by have:=HLT.out bu hh;omega
 have HCU:=hbc 0 3 rfl
 rw [show [3].length=1 from rfl]
 clear hbc hpu HLT HIN
 refine au ?_
 refine av (T:=fun W=>(Row W q6 (u8s (keyB 2)) 39∧W.cell? ⟨bu,0,none⟩=some (.int .i64 3))) (by kernel_rfl) st.mem ?_
 intro wz hbz hmz
 have HTW:Hid (Row wz q6 (u8s (keyB 2)) 39∧wz.cell? ⟨bu,0,none⟩=some (.int .i64 3)):=⟨hmz.get 2 rfl,(World.cell?_of_block (hbz.block bu (block_lt_of_cell HCU))).trans HCU⟩
 replace st:=st.below hbz
 clear hbz hmz HCU
 refine aT 0 (v:=.int .i64 0) rfl (by kernel_rfl) rfl (fun W _=>by go_simp) HTW.out ?_
 go_simp
 refine aT 1 (v:=.bool true) rfl (by kernel_rfl) rfl (fun W _=>by go_simp) HTW.out ?_
 go_simp
 refine aT 2 (v:=.bool true) rfl (by kernel_rfl) rfl (fun W _=>by go_simp) HTW.out ?_
 go_simp
 refine aG 3 (v:=.agg (u8s (keyB 2)).toArray) rfl (by kernel_rfl) rfl (fun W hW=>ao 0 _ hW.1 rfl _ aS rfl 32 az (by rw [ab,aD];omega) (by rw [List.drop_zero,List.take_of_length_le (by rw [ab,aD];omega)])) HTW.out ?_
 go_simp
 refine aO 4 (by kernel_rfl) rfl rfl ?_
 intro K hK
 go_wp2_with ((go_at_call 9;refine (aZ _ _).mono ?_;rintro e wk ⟨rfl,hbk⟩;have HTW':Hid (Row wk q6 (u8s (keyB 2)) 39∧wk.cell? ⟨bu,0,none⟩=some (.int .i64 3)):=⟨Row.bel HTW.out.1 hbk,(World.cell?_of_block (hbk.block bu (block_lt_of_cell HTW.out.2))).trans HTW.out.2⟩;replace st:=st.below hbk;clear hbk HTW;have HTW:=HTW';clear HTW'))
 refine hK _ _ HTW.out ?_
 clear hK K
 go_simp
 refine aG 5 (v:=.bool true) rfl (by kernel_rfl) rfl (fun W hW=>exec_eqT 5 32 .u8 (keyB 2) rfl rfl aS cy be eg_key (aD 2)) HTW.out ?_
 go_simp
 refine aT 6 (v:=.bool true) rfl (by kernel_rfl) rfl (fun W _=>by go_simp) HTW.out ?_
 go_simp
 refine aT 7 (v:=.bool true) rfl (by kernel_rfl) rfl (fun W _=>by go_simp) HTW.out ?_
 go_simp
 refine aG 8 (v:=.int .i64 50) rfl (by kernel_rfl) rfl (fun W _=>by go_simp) HTW.out ?_
 go_simp
 refine aG 9 (v:=.bool true) rfl (by kernel_rfl) rfl (fun W _=>by go_simp) HTW.out ?_
 go_simp
 refine aT 10 (v:=.bool true) rfl (by kernel_rfl) rfl (fun W _=>by go_simp) HTW.out ?_
 go_simp
 refine aT 11 (v:=.bool true) rfl (by kernel_rfl) rfl (fun W _=>by go_simp) HTW.out ?_
 go_simp
 refine aG 12 (v:=.int .i64 120) rfl (by kernel_rfl) rfl (fun W _=>by go_simp) HTW.out ?_
 go_simp
 refine aG 13 (v:=.bool true) rfl (by kernel_rfl) rfl (fun W _=>by go_simp) HTW.out ?_
 go_simp
 refine aT 14 (v:=.bool true) rfl (by kernel_rfl) rfl (fun W _=>by go_simp) HTW.out ?_
 go_simp
 refine aT 15 (v:=.bool true) rfl (by kernel_rfl) rfl (fun W _=>by go_simp) HTW.out ?_
 go_simp
 refine aG 16 (v:=.int .i64 70) rfl (by kernel_rfl) rfl (fun W _=>by go_simp) HTW.out ?_
 go_simp
 refine aG 17 (v:=.bool true) rfl (by kernel_rfl) rfl (fun W _=>by go_simp) HTW.out ?_
 go_simp
 refine aT 18 (v:=.bool true) rfl (by kernel_rfl) rfl (fun W _=>by go_simp) HTW.out ?_
 go_simp
 refine aT 19 (v:=.bool true) rfl (by kernel_rfl) rfl (fun W _=>by go_simp) HTW.out ?_
 go_simp
 refine aG 20 (v:=.slice (some ⟨bu,0,none⟩) 1 cu) rfl (by kernel_rfl) rfl (fun W _=>by go_simp) HTW.out ?_
 go_simp
 refine aG 21 (v:=.int .i64 1) rfl (by kernel_rfl) rfl (fun W _=>by go_simp) HTW.out ?_
 go_simp
 refine aG 22 (v:=.bool true) rfl (by kernel_rfl) rfl (fun W _=>by go_simp) HTW.out ?_
 go_simp
 refine aT 23 (v:=.bool true) rfl (by kernel_rfl) rfl (fun W _=>by go_simp) HTW.out ?_
 go_simp
 refine aT 24 (v:=.bool true) rfl (by kernel_rfl) rfl (fun W _=>by go_simp) HTW.out ?_
 go_simp
 refine aG 25 (v:=.slice (some ⟨bu,0,none⟩) 1 cu) rfl (by kernel_rfl) rfl (fun W _=>by go_simp) HTW.out ?_
 go_simp
 refine aG 26 (v:=.pointer (some ⟨bu,0+0,none⟩)) rfl (by kernel_rfl) rfl (fun W hW=>cC cM fo 0 rfl rfl rfl (by omega)) HTW.out ?_
 go_simp
 refine aG 27 (v:=.int .i64 3) rfl (by kernel_rfl) rfl (fun W hW=>bv hW.2 rfl ak) HTW.out ?_
 go_simp
 refine aG 28 (v:=.bool true) rfl (by kernel_rfl) rfl (fun W _=>by go_simp) HTW.out ?_
 go_simp
 refine aT 29 (v:=.bool true) rfl (by kernel_rfl) rfl (fun W _=>by go_simp) HTW.out ?_
 go_simp
 refine aT 30 (v:=.bool true) rfl (by kernel_rfl) rfl (fun W _=>by go_simp) HTW.out ?_
 go_simp
 refine aG 31 (v:=.pointer (some ⟨s2,0,none⟩)) rfl (by kernel_rfl) rfl (fun W _=>by go_simp) HTW.out ?_
 go_simp
 refine aO 32 (by kernel_rfl) rfl rfl ?_
 intro K hK
 go_wp2_with ((go_at_call 10;go_must (refine (erase_w st (by omega) 3 (by omega) (eraS k12 3) rfl).mono ?_);rintro e we ⟨rfl,⟨d9,st9⟩,hue⟩;have HTW':Hid (Row we q6 (u8s (keyB 2)) 39∧we.cell? ⟨bu,0,none⟩=some (.int .i64 3)):=⟨st9.mem.get 2 rfl,(World.cell?_of_block (hue.block bu (block_lt_of_cell HTW.out.2) HBU.out)).trans HTW.out.2⟩;replace st:=st9;clear st9 hue HTW;have HTW:=HTW';clear HTW'))
 refine hK _ _ HTW.out ?_
 clear hK K
 go_simp
 refine aG 33 (v:=.bool true) rfl (by kernel_rfl) rfl (fun W _=>by go_simp) HTW.out ?_
 go_simp
 refine aT 34 (v:=.bool true) rfl (by kernel_rfl) rfl (fun W _=>by go_simp) HTW.out ?_
 go_simp
 refine aT 35 (v:=.bool true) rfl (by kernel_rfl) rfl (fun W _=>by go_simp) HTW.out ?_
 go_simp
 refine aG 36 (v:=.pointer (some ⟨s2,0,none⟩)) rfl (by kernel_rfl) rfl (fun W _=>by go_simp) HTW.out ?_
 go_simp
 refine aO 37 (by kernel_rfl) rfl rfl ?_
 intro K hK
 go_wp2_with ((go_at_call 17;go_must (refine (used_v st).mono ?_);rintro e wu ⟨vu9,rfl,hin9,st9,hb9⟩;rw [k12_none] at hin9;have HTW':Hid (Row wu q6 (u8s (keyB 2)) 39∧wu.cell? ⟨bu,0,none⟩=some (.int .i64 3)):=⟨st9.mem.get 2 rfl,(World.cell?_of_block (hb9.block bu (block_lt_of_cell HTW.out.2))).trans HTW.out.2⟩;obtain ⟨pu9,cu9,rfl,_⟩:=hin9;replace st:=st9;clear st9 hb9 HTW;have HTW:=HTW';clear HTW'))
 refine hK _ _ HTW.out ?_
 clear hK K
 go_simp
 refine aG 38 (v:=.int .i64 0) rfl (by kernel_rfl) rfl (fun W _=>by go_simp) HTW.out ?_
 go_simp
 refine aG 39 (v:=.bool true) rfl (by kernel_rfl) rfl (fun W _=>by go_simp) HTW.out ?_
 go_simp
 refine aT 40 (v:=.bool true) rfl (by kernel_rfl) rfl (fun W _=>by go_simp) HTW.out ?_
 go_simp
 refine aT 41 (v:=.bool true) rfl (by kernel_rfl) rfl (fun W _=>by go_simp) HTW.out ?_
 go_simp
 refine wpAnyH_done (by kernel_rfl) ?_ _
 simp only [endsIn]
 go_wp2_with fail
 go_ret
 exact ⟨rfl,st.mem.below⟩
open Go Go.RowKit Go.Maps
theorem Sv.cell {w0 w:World} {g mb:Nat} {kv:Value} {sb hb:Nat} {d:Dk} {t:Slt} {k:Nat} {rows:List (Nat×List Value×TypeId)} (h:Sv w0 w g mb kv sb hb d t k rows) {b o:Nat} {v:Value} (hc:w0.cell? ⟨b,o,none⟩=some v):w.cell? ⟨b,o,none⟩=some v :=
 (h.mem.old (p:=⟨b,o,none⟩) (block_lt_of_cell hc) (by simp)).trans hc
theorem jl {P:Program} {a:Act} {w:World} {dst:Option Tmp} {typ:TypeId} {pos:String} {aft:Array Edge} {gd:Option (Nat×Bool)} {t:TypeId} {x y:Operand} {rt:TypeId} (e:TypeId) (n:Nat) (k:IntKind) (xs:List Int) (hx:a.eval x=.agg (xs.map (Value.int k)).toArray) (hy:a.eval y=.agg (xs.map (Value.int k)).toArray) (ht:P.underlying t=some (.array n e)) (he:P.underlying e=some (.int k)) (hs:(P.info? e).map (·.size)=some 1) (hm:P.eqGuardType P.depth t=false) (h1:xs.length=n) :
  (execOp a.eval {dst:=dst,op:=.binOp .neq t x y rt,type:=typ,pos:=pos,after:=aft,guard:=gd}).run P w=.ok (.value (.bool false)) w:=by
 have hq:=i8 (P:=P) w t e n k ht he hs xs xs h1 h1
 unfold execOp
 simp only [hx,hy,Sem.run_bind,run_eqGuard_agg w .neq t x y _ _ hm,Sem.run_pure,Result.andThen_ok,hq]
 simp
open Go Go.RowKit Go.Maps
def tA:Nat→Slt
 | 0=>newS
 | i+1=>putS (tA i) i (entN (tA i) i (keyB 1) (keyB (i:Int)))
theorem ik {held:Nat→Option Ent} {i:Nat} (hs:∀j,j<i→(held j).isSome=true) (hn:held i=none):∀(m k f:Nat),k+m=i→m<f→freeFrom held f k=(i:Int)
 | 0,k,f,hk,hf=>by
  obtain ⟨f',rfl⟩:∃f',f=f'+1:=⟨f - 1,by omega⟩
  have e:k=i:=by omega
  subst e
  rw [freeFrom,if_neg (by rw [hn];simp)]
 | m+1,k,f,hk,hf=>by
  obtain ⟨f',rfl⟩:∃f',f=f'+1:=⟨f - 1,by omega⟩
  rw [freeFrom,if_pos (hs k (by omega))]
  exact ik hs hn m (k+1) f' (by omega) (by omega)
theorem gy {held:Nat→Option Ent} {n:Nat} (hs:∀j,j<n→(held j).isSome=true):∀(f k:Nat),k+f=n→freeFrom held f k = -1
 | 0,_,_=>rfl
 | f+1,k,hk=>by
  rw [freeFrom,if_pos (hs k (by omega))]
  exact gy hs f (k+1) (by omega)
def bls (l:List Bool):List Value:=l.map Value.bool
section
variable {ops:Array Oper} {rest:List Oper} {a:Act} {w:World} {Q:Exit→Act→World→Prop} {typ:TypeId} {pos:String} {aft:Array Edge} {P:Program}
end
open Go Go.RowKit Go.Maps
structure Tn (d:Dk) (t:Slt):Prop where
 ok:SltOk t
 dead:t.dead=false
 n:64≤d.n
 n2:d.n≤200
 pend:∀s,d.pend s=none
 ent:∀i,i<24→entOf i (d.kept (2+i))=t.held i
 rest:∀i,i<24→t.held i=none→d.kept (2+i)≠zeroK→0<t.puts
 z7:∀a,a<2→(d.kept a).take 7=z7
 cle:∀a n,a<2→numOf a ((d.kept a).take 16)=some n→n≤t.puts∧n % 2=a
 cnt:0<t.puts→numOf (t.puts % 2) ((d.kept (t.puts % 2)).take 16)=some t.puts
 zero:t.puts=0→∀i,t.held i=none
theorem Tn.now {d:Dk} {t:Slt} (h:Tn d t) (s:Nat):d.now s=d.kept s:=by simp [Dk.now,h.pend s]
theorem tn_cnt {d:Dk} {t:Slt} (h:Tn d t):cntOf d=t.puts:=by
 unfold cntOf
 rw [h.now,h.now]
 have b:∀a,a<2→(numOf a ((d.kept a).take 16)).getD 0≤t.puts:=by
  intro a ha
  cases hh:numOf a ((d.kept a).take 16) with
  | none=>exact Nat.zero_le _
  | some n=>exact (h.cle a n ha hh).1
 have b0:=b 0 (by omega)
 have b1:=b 1 (by omega)
 rcases Nat.eq_zero_or_pos t.puts with h0|h0
 ·omega
 ·have hc:=h.cnt h0
  rcases (by omega:t.puts % 2=0∨t.puts % 2=1) with e|e<;>(rw [e] at hc;rw [hc,Option.getD_some];omega)
theorem tn_load {d:Dk} {t:Slt} (h:Tn d t):loadS d=t:=by
 have e2:=tn_cnt h
 obtain ⟨held,puts,dead⟩:=t
 have e1:(fun i=>if i<24 then entOf i (d.now (2+i)) else none)=held:=by
  funext i
  by_cases hi:i<24
  ·rw [if_pos hi,h.now]
   exact h.ent i hi
  ·rw [if_neg hi]
   cases hx:held i with
   | none=>rfl
   | some x=>exact absurd (h.ok.held i x hx).1 hi
 have e3:dead=false:=h.dead
 unfold loadS
 rw [e1,e2,e3]
theorem tn_open {d:Dk} {t:Slt} (h:Tn d t) (hl:d.left=0) (ho:d.off=false):Inv (openD d) t∧(openD d).n=d.n:=by
 have hn:=h.n
 have hok:=leftP_ok d 24 d.n (by omega)
 have key:(openD d).n=d.n∧(∀s,(openD d).pend s=none)∧∀s,(openD d).kept s=(leftP d 24 s).getD (d.kept s):=by
  unfold openD
  split
  ·rename_i h0
   refine ⟨rfl,h.pend,fun s=>?_⟩
   have hs:leftP d 24 s=none:=by
    cases hx:leftP d 24 s with
    | none=>rfl
    | some c =>
     have hm:s∈pensP (leftP d 24) d.n:=(eF _ _ _).2 ⟨(hok.at_ s c hx).1,by rw [hx];rfl⟩
     rw [List.eq_nil_of_length_eq_zero h0] at hm
     cases hm
   rw [hs]
   rfl
  ·have hc:=(d7 (phL (leftP d 24) d.n) d hl ho).1
   have hk:=(di d _ (cE (leftP d 24) d.n)).1 hc
   exact ⟨hk.n,hk.pend,fun s=>by rw [hk.at_ hok s,h.now]⟩
 obtain ⟨e1,e2,e3⟩:=key
 have low:∀a,a<2→(openD d).kept a=d.kept a:=by
  intro a ha
  rw [e3]
  have:leftP d 24 a=none:=by unfold leftP;rw [if_neg (by omega)]
  rw [this]
  rfl
 refine ⟨⟨h.ok,h.dead,by rw [e1];exact h.n,by rw [e1];exact h.n2,e2,fun i hi=>?_,fun a ha=>by rw [low a ha];exact h.z7 a ha,fun a n ha hn=>by rw [low a ha] at hn;exact h.cle a n ha hn,fun h0=>by rw [low _ (by omega)];exact h.cnt h0,h.zero⟩,e1⟩
 rw [e3]
 have he:=h.ent i hi
 cases hx:t.held i with
 | some x =>
  rw [hx] at he
  have hc:=(f0 he).1
  have:leftP d 24 (2+i)=none:=by
   unfold leftP
   rw [if_neg]
   rintro ⟨_,_,h3⟩
   rw [Nat.add_sub_cancel_left] at h3
   unfold leftAt at h3
   rw [h.now,he] at h3
   simp at h3
  rw [this]
  exact hc
 | none =>
  rw [hx] at he
  show _=zeroK
  by_cases hz:d.kept (2+i)=zeroK
  ·have:leftP d 24 (2+i)=none:=by
    unfold leftP
    rw [if_neg]
    rintro ⟨_,_,h3⟩
    rw [Nat.add_sub_cancel_left] at h3
    unfold leftAt at h3
    rw [h.now,hz] at h3
    simp at h3
   rw [this]
   exact hz
  ·have hp:=h.rest i hi hx hz
   have:leftP d 24 (2+i)=some zeroK:=by
    unfold leftP
    rw [if_pos]
    refine ⟨by omega,by omega,?_⟩
    rw [Nat.add_sub_cancel_left]
    unfold leftAt
    rw [h.now,he,tn_cnt h]
    simp [hp,hz]
   rw [this]
   rfl
theorem eW (d:Dk) (cs:List Int) (s:Nat):(d.crash cs).pend s=none:=rfl
theorem eR {α:Type} (f:Nat→α) (k i:Nat) (y:α):upf f k y i=if i=k then y else f i:=by
 by_cases h:i=k
 ·subst h;rw [if_pos rfl];exact bo _ _ _
 ·rw [if_neg h];exact aR _ _ h
theorem upf_ok {t:Slt} {k p:Nat} {y:Option Ent} (h:SltOk t) (hk:k<24) (hy:∀z,y=some z→EntOk z) (hp:p≤200):SltOk ⟨upf t.held k y,p,false⟩:=by
 refine ⟨fun i x hx=>?_,hp⟩
 change upf t.held k y i=some x at hx
 rw [eR] at hx
 by_cases he:i=k
 ·rw [if_pos he] at hx
  exact ⟨by omega,hy x hx⟩
 ·rw [if_neg he] at hx
  exact h.held i x hx
/-- What a disk at rest holds behind a call at slot k that wrote the slot and a count, or a part of them. -/
theorem tn_of {d d':Dk} {t:Slt} {k p:Nat} {y:Option Ent} (h:Inv d t) (hk:k<24) (hn:d'.n=d.n) (hpd:∀s,d'.pend s=none) (hy:∀z,y=some z→EntOk z) (hp:p≤200)
  (hs:∀i,i<24→i≠k→d'.kept (2+i)=d.kept (2+i)) (he:entOf k (d'.kept (2+k))=y) (hr:y=none→d'.kept (2+k)≠zeroK→0<p)
  (h7:∀a,a<2→(d'.kept a).take 7=z7) (hcl:∀a n,a<2→numOf a ((d'.kept a).take 16)=some n→n≤p∧n % 2=a) (hc:0<p→numOf (p % 2) ((d'.kept (p % 2)).take 16)=some p) (hz:p=0→t.puts=0∧y=none) :
  Tn d' ⟨upf t.held k y,p,false⟩:=by
 refine ⟨upf_ok h.ok hk hy hp,rfl,by rw [hn];exact h.n,by rw [hn];exact h.n2,hpd,fun i hi=>?_,fun i hi hx hne=>?_,h7,hcl,hc,fun h0 i=>?_⟩
 ·show _=upf t.held k y i
  rw [eR]
  by_cases e:i=k
  ·subst e;rw [if_pos rfl];exact he
  ·rw [if_neg e,hs i hi e,h.slot i hi];exact fq i (h.ok.ent i)
 ·change upf t.held k y i=none at hx
  rw [eR] at hx
  by_cases e:i=k
  ·subst e;rw [if_pos rfl] at hx;exact hr hx hne
  ·rw [if_neg e] at hx
   rw [hs i hi e,h.slot i hi,hx] at hne
   exact absurd rfl hne
 ·show upf t.held k y i=none
  rw [eR]
  by_cases e:i=k
  ·rw [if_pos e];exact (hz h0).2
  ·rw [if_neg e];exact h.zero (hz h0).1 i
theorem held_pos {d:Dk} {t:Slt} (h:Inv d t) {i:Nat} {x:Ent} (hx:t.held i=some x):0<t.puts:=by
 rcases Nat.eq_zero_or_pos t.puts with h0|h0
 ·rw [h.zero h0 i] at hx;cases hx
 ·exact h0
theorem era_torn {d:Dk} {t:Slt} {k:Nat} (h:Inv d t) (hk:k<24) (hr:(eraR d t k).2=false) (cs:List Int) :
  ∃y,(y=t.held k∨y=none)∧Tn ((eraR d t k).1.crash cs) ⟨upf t.held k y,t.puts,false⟩:=by
 obtain ⟨e1,e2⟩:=iL h.pend (eA h.ok hk h.n 0) hr
 change (eraR d t k).1.n=d.n at e1
 have hx:=h.ok.ent k
 have go:∀K:Nat→List Int,(∀s,s≠2+k→K s=d.kept s)→(∀s,s≠2+k→((eraR d t k).1.crash cs).kept s=K s)→∀y,(y=t.held k∨y=none)→entOf k (((eraR d t k).1.crash cs).kept (2+k))=y→(t.held k=none→((eraR d t k).1.crash cs).kept (2+k)=zeroK)→Tn ((eraR d t k).1.crash cs) ⟨upf t.held k y,t.puts,false⟩:=by
  intro K hK hc y hy he hz
  have low:∀s,s≠2+k→((eraR d t k).1.crash cs).kept s=d.kept s:=fun s hs=>(hc s hs).trans (hK s hs)
  have hyk:∀z,y=some z→EntOk z:=by
   intro z hz
   rcases hy with rfl|rfl
   ·exact hx z hz
   ·cases hz
  refine tn_of h hk e1 (eW _ cs) hyk h.ok.puts (fun i _ hik=>low _ (by omega)) he (fun _ hne=>?_) (fun a ha=>by rw [low a (by omega)];exact h.z7 a ha) (fun a n ha hn=>by rw [low a (by omega)] at hn;exact h.cle a n ha hn) (fun h0=>by rw [low _ (by omega)];exact h.cnt h0) (fun h0=>⟨h0,?_⟩)
  ·cases hh:t.held k with
   | none=>exact absurd (hz hh) hne
   | some x=>exact held_pos h hh
  ·rcases hy with rfl|rfl
   ·exact h.zero h0 k
   ·rfl
 rcases e2 with ⟨ek,ep⟩|⟨ek,ep⟩
 ·change (eraR d t k).1.kept=d.kept at ek
  change ∀s,(eraR d t k).1.pend s=none∨(eraR d t k).1.pend s=eraPh t k 0 s at ep
  have other:∀s,s≠2+k→((eraR d t k).1.crash cs).kept s=d.kept s:=by
   intro s hs
   rcases cD (eraR d t k).1 cs s with h1|⟨l,c,h1,_⟩
   ·rw [h1,ek]
   ·rcases ep s with h2|h2
    ·rw [h2] at h1;cases h1
    ·rw [h2,dS,if_neg hs] at h1;cases h1
  have slot:((eraR d t k).1.crash cs).kept (2+k)=slC k (t.held k)∨∃c,((eraR d t k).1.crash cs).kept (2+k)=tornOf (slC k (t.held k)) (unC (t.held k)) c:=by
   rcases cD (eraR d t k).1 cs (2+k) with h1|⟨l,c,h1,h2⟩
   ·exact Or.inl (by rw [h1,ek,h.slot k hk])
   ·rcases ep (2+k) with h3|h3
    ·rw [h3] at h1;cases h1
    ·rw [h3,dS,if_pos rfl] at h1
     simp only [Option.some.injEq] at h1
     exact Or.inr ⟨c,by rw [h2,ek,h.slot k hk,h1]⟩
  rcases slot with hs|⟨c,hs⟩
  ·exact ⟨t.held k,Or.inl rfl,go d.kept (fun _ _=>rfl) other _ (Or.inl rfl) (by rw [hs];exact fq k hx) (fun hh=>by rw [hs,hh];rfl)⟩
  ·refine ⟨entOf k (tornOf (slC k (t.held k)) (unC (t.held k)) c),torn_un k (t.held k) c hx,go d.kept (fun _ _=>rfl) other _ (torn_un k (t.held k) c hx) (by rw [hs]) (fun hh=>?_)⟩
   rw [hs,hh]
   exact fA zeroK c
 ·change ∀s,(eraR d t k).1.kept s=(eraPh t k 0 s).getD (d.now s) at ek
  change ∀s,(eraR d t k).1.pend s=none∨(eraR d t k).1.pend s=eraPh t k 1 s at ep
  have other:∀s,s≠2+k→((eraR d t k).1.crash cs).kept s=d.kept s:=by
   intro s hs
   rcases cD (eraR d t k).1 cs s with h1|⟨l,c,h1,_⟩
   ·rw [h1,ek,dS,if_neg hs,h.now];rfl
   ·rcases ep s with h2|h2
    ·rw [h2] at h1;cases h1
    ·rw [h2,gH,if_neg hs] at h1;cases h1
  have kk:(eraR d t k).1.kept (2+k)=unC (t.held k):=by rw [ek,dS,if_pos rfl];rfl
  have slot:((eraR d t k).1.crash cs).kept (2+k)=unC (t.held k)∨∃c,((eraR d t k).1.crash cs).kept (2+k)=tornOf (unC (t.held k)) zeroK c:=by
   rcases cD (eraR d t k).1 cs (2+k) with h1|⟨l,c,h1,h2⟩
   ·exact Or.inl (by rw [h1,kk])
   ·rcases ep (2+k) with h3|h3
    ·rw [h3] at h1;cases h1
    ·rw [h3,gH,if_pos rfl] at h1
     simp only [Option.some.injEq] at h1
     exact Or.inr ⟨c,by rw [h2,kk,h1]⟩
  refine ⟨none,Or.inr rfl,go d.kept (fun _ _=>rfl) other _ (Or.inr rfl) ?_ (fun hh=>?_)⟩
  ·rcases slot with hs|⟨c,hs⟩
   ·rw [hs];exact entOf_un k hx
   ·rw [hs];exact torn_zero k _ c hx
  ·rcases slot with hs|⟨c,hs⟩
   ·rw [hs,hh];rfl
   ·rw [hs,hh];exact fA zeroK c
theorem put_torn {d:Dk} {t:Slt} {k:Nat} {N:Ent} (h:Inv d t) (hp:t.puts<200) (hk:k<24) (hN:EntOk N) (hr:(putR d t k N).2=false) (cs:List Int) :
  ∃y p,(y=t.held k∨y=none∨y=some N)∧(p=t.puts∨p=t.puts+1)∧Tn ((putR d t k N).1.crash cs) ⟨upf t.held k y,p,false⟩:=by
 obtain ⟨e1,e2⟩:=iL h.pend (eB h.ok hN hk h.n 0) hr
 change (putR d t k N).1.n=d.n at e1
 have hx:=h.ok.ent k
 obtain ⟨a1,ha1⟩:∃a,a=(t.puts+1) % 2:=⟨_,rfl⟩
 have ha2:a1<2:=by omega
 have hyk:∀y:Option Ent,(y=t.held k∨y=none∨y=some N)→∀z,y=some z→EntOk z:=by
  rintro y (rfl|rfl|rfl) z hz
  ·exact hx z hz
  ·cases hz
  ·simp only [Option.some.injEq] at hz;subst hz;exact hN
 rcases e2 with ⟨ek,ep⟩|⟨ek,ep⟩
 ·change (putR d t k N).1.kept=d.kept at ek
  change ∀s,(putR d t k N).1.pend s=none∨(putR d t k N).1.pend s=putPh t k N 0 s at ep
  have all:∀s,((putR d t k N).1.crash cs).kept s=d.kept s∨∃l c,putPh t k N 0 s=some l∧((putR d t k N).1.crash cs).kept s=tornOf (d.kept s) l c:=by
   intro s
   rcases cD (putR d t k N).1 cs s with h1|⟨l,c,h1,h2⟩
   ·exact Or.inl (by rw [h1,ek])
   ·rcases ep s with h3|h3
    ·rw [h3] at h1;cases h1
    ·exact Or.inr ⟨l,c,h3▸h1,by rw [h2,ek]⟩
  have other:∀s,s≠2+k→s≠a1→((putR d t k N).1.crash cs).kept s=d.kept s:=by
   intro s hs hs2
   rcases all s with h1|⟨l,c,h1,_⟩
   ·exact h1
   ·rw [cR,if_neg (by omega),if_neg hs] at h1;cases h1
  have slot:((putR d t k N).1.crash cs).kept (2+k)=slC k (t.held k)∨∃c,((putR d t k N).1.crash cs).kept (2+k)=tornOf (slC k (t.held k)) (unC (t.held k)) c:=by
   rcases all (2+k) with h1|⟨l,c,h1,h2⟩
   ·exact Or.inl (by rw [h1,h.slot k hk])
   ·rw [cR,if_neg (by omega),if_pos rfl] at h1
    simp only [Option.some.injEq] at h1
    exact Or.inr ⟨c,by rw [h2,h.slot k hk,h1]⟩
  have cntr:(((putR d t k N).1.crash cs).kept a1).take 7=z7∧(numOf a1 ((((putR d t k N).1.crash cs).kept a1).take 16)=numOf a1 ((d.kept a1).take 16)∨numOf a1 ((((putR d t k N).1.crash cs).kept a1).take 16)=none∨numOf a1 ((((putR d t k N).1.crash cs).kept a1).take 16)=some (t.puts+1)):=by
   rcases all a1 with h1|⟨l,c,h1,h2⟩
   ·rw [h1];exact ⟨h.z7 a1 ha2,Or.inl rfl⟩
   ·rw [cR,if_pos ha1] at h1
    simp only [Option.some.injEq] at h1
    rw [h2,←h1]
    have:=torn_cnt (t.puts+1) (d.kept a1) c (by omega) (h.z7 a1 ha2)
    rw [←ha1] at this
    exact this
  obtain ⟨y,hy,he,hz⟩:∃y,(y=t.held k∨y=none)∧entOf k (((putR d t k N).1.crash cs).kept (2+k))=y∧(t.held k=none→((putR d t k N).1.crash cs).kept (2+k)=zeroK):=by
   rcases slot with hs|⟨c,hs⟩
   ·exact ⟨t.held k,Or.inl rfl,by rw [hs];exact fq k hx,fun hh=>by rw [hs,hh];rfl⟩
   ·exact ⟨_,torn_un k (t.held k) c hx,by rw [hs],fun hh=>by rw [hs,hh];exact fA zeroK c⟩
  have hy3:y=t.held k∨y=none∨y=some N:=by
   rcases hy with h1|h1
   ·exact Or.inl h1
   ·exact Or.inr (Or.inl h1)
  have hpos:y=none→((putR d t k N).1.crash cs).kept (2+k)≠zeroK→0<t.puts:=by
   intro _ hne
   cases hh:t.held k with
   | none=>exact absurd (hz hh) hne
   | some x=>exact held_pos h hh
  have h7:∀a,a<2→(((putR d t k N).1.crash cs).kept a).take 7=z7:=by
   intro a ha
   by_cases e:a=a1
   ·rw [e];exact cntr.1
   ·rw [other a (by omega) e];exact h.z7 a ha
  have hsl:∀i,i<24→i≠k→((putR d t k N).1.crash cs).kept (2+i)=d.kept (2+i):=fun i _ hik=>other _ (by omega) (by omega)
  by_cases hnew:numOf a1 ((((putR d t k N).1.crash cs).kept a1).take 16)=some (t.puts+1)
  ·refine ⟨y,t.puts+1,hy3,Or.inr rfl,tn_of h hk e1 (eW _ cs) (hyk y hy3) (by omega) hsl he (fun _ _=>by omega) h7 (fun a n ha hn=>?_) (fun _=>?_) (fun h0=>absurd h0 (by omega))⟩
   ·by_cases e:a=a1
    ·rw [e,hnew] at hn
     simp only [Option.some.injEq] at hn
     omega
    ·rw [other a (by omega) e] at hn
     have:=h.cle a n ha hn
     omega
   ·rw [←ha1];exact hnew
  ·refine ⟨y,t.puts,hy3,Or.inl rfl,tn_of h hk e1 (eW _ cs) (hyk y hy3) h.ok.puts hsl he hpos h7 (fun a n ha hn=>?_) (fun h0=>?_) (fun h0=>⟨h0,?_⟩)⟩
   ·by_cases e:a=a1
    ·subst e
     rcases cntr.2 with h1|h1|h1
     ·rw [h1] at hn;exact h.cle a n ha hn
     ·rw [h1] at hn;cases hn
     ·exact absurd h1 hnew
    ·rw [other a (by omega) e] at hn
     exact h.cle a n ha hn
   ·rw [other _ (by omega) (by omega)];exact h.cnt h0
   ·rcases hy with rfl|rfl
    ·exact h.zero h0 k
    ·rfl
 ·change ∀s,(putR d t k N).1.kept s=(putPh t k N 0 s).getD (d.now s) at ek
  change ∀s,(putR d t k N).1.pend s=none∨(putR d t k N).1.pend s=putPh t k N 1 s at ep
  have kk:(putR d t k N).1.kept (2+k)=unC (t.held k):=by rw [ek,cR,if_neg (by omega),if_pos rfl];rfl
  have ka:(putR d t k N).1.kept a1=cntC (t.puts+1):=by rw [ek,cR,if_pos ha1];rfl
  have other:∀s,s≠2+k→((putR d t k N).1.crash cs).kept s=(putR d t k N).1.kept s:=by
   intro s hs
   rcases cD (putR d t k N).1 cs s with h1|⟨l,c,h1,_⟩
   ·exact h1
   ·rcases ep s with h3|h3
    ·rw [h3] at h1;cases h1
    ·rw [h3,gN,if_neg hs] at h1;cases h1
  have rest:∀s,s≠2+k→s≠a1→((putR d t k N).1.crash cs).kept s=d.kept s:=by
   intro s hs hs2
   rw [other s hs,ek,cR,if_neg (by omega),if_neg hs,h.now]
   rfl
  have slot:((putR d t k N).1.crash cs).kept (2+k)=unC (t.held k)∨∃c,((putR d t k N).1.crash cs).kept (2+k)=tornOf (unC (t.held k)) (mkC k N) c:=by
   rcases cD (putR d t k N).1 cs (2+k) with h1|⟨l,c,h1,h2⟩
   ·exact Or.inl (by rw [h1,kk])
   ·rcases ep (2+k) with h3|h3
    ·rw [h3] at h1;cases h1
    ·rw [h3,gN,if_pos rfl] at h1
     simp only [Option.some.injEq] at h1
     exact Or.inr ⟨c,by rw [h2,kk,h1]⟩
  obtain ⟨y,hy3,he⟩:∃y,(y=t.held k∨y=none∨y=some N)∧entOf k (((putR d t k N).1.crash cs).kept (2+k))=y:=by
   rcases slot with hs|⟨c,hs⟩
   ·exact ⟨none,Or.inr (Or.inl rfl),by rw [hs];exact entOf_un k hx⟩
   ·refine ⟨_,?_,by rw [hs]⟩
    rcases torn_mk k (t.held k) N c hx hN with h1|h1
    ·exact Or.inr (Or.inr h1)
    ·exact Or.inr (Or.inl h1)
  have kc:((putR d t k N).1.crash cs).kept a1=cntC (t.puts+1):=by rw [other a1 (by omega),ka]
  have hnum:numOf a1 ((cntC (t.puts+1)).take 16)=some (t.puts+1):=by rw [ha1];exact iZ _ (by omega) (by omega)
  refine ⟨y,t.puts+1,hy3,Or.inr rfl,tn_of h hk e1 (eW _ cs) (hyk y hy3) (by omega) (fun i _ hik=>rest _ (by omega) (by omega)) he (fun _ _=>by omega) (fun a ha=>?_) (fun a n ha hn=>?_) (fun _=>?_) (fun h0=>absurd h0 (by omega))⟩
  ·by_cases e:a=a1
   ·rw [e,kc];exact cntC_7 _ (by omega)
   ·rw [rest a (by omega) e];exact h.z7 a ha
  ·by_cases e:a=a1
   ·rw [e,kc,hnum] at hn
    simp only [Option.some.injEq] at hn
    omega
   ·rw [rest a (by omega) e] at hn
    have:=h.cle a n ha hn
    omega
  ·rw [←ha1,kc];exact hnum
open Go Go.RowKit Go.Maps
abbrev Mdl:=Bool×Int×Int
def slV (x:Mdl):List Value:=[.bool x.1,.int .u8 x.2.1,.int .u8 x.2.2]
def modL (M:Nat→Mdl):Nat→List Value
 | 0=>[]
 | n+1=>modL M n++slV (M n)
theorem eL (x:Mdl):(slV x).length=3:=rfl
theorem bz (M:Nat→Mdl):∀n,(modL M n).length=n * 3
 | 0=>rfl
 | n+1=>by rw [modL,List.length_append,bz M n,eL];omega
theorem bO (M:Nat→Mdl) (j:Nat) (hj:j<3):∀n i,i<n→(modL M n)[i * 3+j]?=(slV (M i))[j]?
 | 0,_,h=>absurd h (by omega)
 | n+1,i,h=>by
  rw [modL]
  by_cases e:i=n
  ·subst e
   rw [List.getElem?_append_right (by rw [bz];omega),bz]
   congr 1
   omega
  ·rw [List.getElem?_append_left (by rw [bz];omega)]
   exact bO M j hj n i (by omega)
theorem iQ {M M':Nat→Mdl}:∀n,(∀i,i<n→M i=M' i)→modL M n=modL M' n
 | 0,_=>rfl
 | n+1,h=>by rw [modL,modL,iQ n (fun i hi=>h i (by omega)),h n (by omega)]
theorem fh (M:Nat→Mdl) (i:Nat) (x:Mdl):∀n,i<n→splice (modL M n) (i * 3) (slV x)=modL (upf M i x) n
 | 0,h=>absurd h (by omega)
 | n+1,h=>by
  have hl:=bz M n
  rw [modL,modL]
  by_cases he:i=n
  ·subst he
   rw [iQ (M:=upf M i x) (M':=M) i (fun j hj=>aR _ _ (by omega)),bo]
   unfold splice
   rw [List.take_append_of_le_length (by omega),List.take_of_length_le (by omega),List.drop_of_length_le (by rw [List.length_append,hl,eL,eL];omega),List.append_nil]
  ·rw [aR _ _ (fun e=>he e.symm),←fh M i x n (by omega)]
   unfold splice
   rw [List.take_append_of_le_length (by omega),List.drop_append_of_le_length (by rw [eL];omega)]
   simp
theorem ed (x:Mdl):∀v∈slV x,v.oneCell'=true:=by
 intro v hv
 simp only [slV,List.mem_cons,List.not_mem_nil,or_false] at hv
 rcases hv with rfl|rfl|rfl<;>rfl
theorem aH (M:Nat→Mdl):∀n,∀v∈modL M n,v.oneCell'=true
 | 0,_,h=>by cases h
 | n+1,v,h=>by
  rw [modL] at h
  rcases List.mem_append.1 h with h|h
  ·exact aH M n v h
  ·exact ed _ v h
def slotOk (i:Nat) (h:Option Ent) (x:Mdl):Bool :=
 if x.1=true then (match h with|some e=>decide (unwV (keyB x.2.1) i e=(keyB x.2.2,0))|none=>false) else h.isNone
def agB (held:Nat→Option Ent) (M:Nat→Mdl) (m:Nat):Bool:=(List.range m).all fun j=>slotOk j (held j) (M j)
theorem dh {held:Nat→Option Ent} {M:Nat→Mdl} {m:Nat}:agB held M m=true↔∀j,j<m→slotOk j (held j) (M j)=true:=by simp [agB]
theorem gD {held:Nat→Option Ent} {M:Nat→Mdl} {m i:Nat} (hi:i<m) (h:slotOk i (held i) (M i)=false):agB held M m=false:=by
 cases hh:agB held M m with
 | false=>rfl
 | true=>rw [dh.1 hh i hi] at h;cases h
theorem agB_next {held:Nat→Option Ent} {M:Nat→Mdl} {i:Nat} (h:agB held M i=true) (hs:slotOk i (held i) (M i)=true):agB held M (i+1)=true:=by
 refine dh.2 fun j hj=>?_
 by_cases e:j=i
 ·subst e;exact hs
 ·exact dh.1 h j (by omega)
theorem cQ {i:Nat} {h:Option Ent} {x:Mdl} (hx:x.1=false):slotOk i h x=h.isNone:=by simp [slotOk,hx]
theorem fu {i:Nat} {x:Mdl} (hx:x.1=true):slotOk i none x=false:=by simp [slotOk,hx]
theorem cB {i:Nat} {e:Ent} {x:Mdl} (hx:x.1=true):slotOk i (some e) x=decide (unwV (keyB x.2.1) i e=(keyB x.2.2,0)):=by simp [slotOk,hx]
/-- Of two that agree everywhere but at k, with k agreed. -/
theorem gh {held:Nat→Option Ent} {M:Nat→Mdl} {k m:Nat} {y:Option Ent} {x:Mdl} (h:agB held M m=true) (hs:slotOk k y x=true):agB (upf held k y) (upf M k x) m=true:=by
 refine dh.2 fun j hj=>?_
 rw [eR,eR]
 by_cases e:j=k
 ·subst e;rw [if_pos rfl,if_pos rfl];exact hs
 ·rw [if_neg e,if_neg e];exact dh.1 h j hj
theorem agB_slot {held:Nat→Option Ent} {M:Nat→Mdl} {k m:Nat} {y:Option Ent} (h:agB held M m=true) (hk:k<m):agB (upf held k y) M m=slotOk k y (M k):=by
 cases hs:slotOk k y (M k) with
 | true =>
  refine dh.2 fun j hj=>?_
  rw [eR]
  by_cases e:j=k
  ·subst e;rw [if_pos rfl];exact hs
  ·rw [if_neg e];exact dh.1 h j hj
 | false=>exact gD hk (by rw [eR,if_pos rfl];exact hs)
theorem eM (held:Nat→Option Ent) (m:Nat):usedL held (m+1)=usedL held m++(if (held m).isSome=true then [m] else []):=by
 unfold usedL
 rw [List.range_succ,List.filter_append]
 congr 1
 by_cases h:(held m).isSome=true<;>simp [h]
theorem usedL_pre (held:Nat→Option Ent):∀(q m:Nat),usedL held m <+: usedL held (m+q)
 | 0,m=>List.prefix_refl _
 | q+1,m=>by
  rw [show m+(q+1)=(m+q)+1 by omega,eM]
  exact (usedL_pre held q m).trans (List.prefix_append _ _)
theorem usedL_at {held:Nat→Option Ent} {i m:Nat} (hi:i<m) (h:(held i).isSome=true):(usedL held m)[(usedL held i).length]?=some i:=by
 have h1:=usedL_pre held (m - (i+1)) (i+1)
 rw [show i+1+(m - (i+1))=m by omega,eM,if_pos h] at h1
 obtain ⟨r,hr⟩:=h1
 rw [←hr,List.append_assoc,List.getElem?_append_right (Nat.le_refl _),Nat.sub_self]
 rfl
theorem usedL_not {held:Nat→Option Ent} {i m n:Nat} (h:held i=none):(usedL held m)[n]?≠some i:=by
 intro hh
 have hm:=List.mem_of_getElem? hh
 unfold usedL at hm
 rw [List.mem_filter,h] at hm
 exact absurd hm.2 (by simp)
end Go.Proofs.YtnllomcajijbjaaGreatDoor
