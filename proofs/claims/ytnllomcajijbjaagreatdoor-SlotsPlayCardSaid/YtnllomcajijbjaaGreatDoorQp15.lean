import Derived.Test.YtnllomcajijbjaaGreatDoorQp14
import Derived.Test.YtnllomcajijbjaaGreatDoorQp12
set_option maxRecDepth 100000
set_option maxHeartbeats 4000000
namespace Go.Proofs.YtnllomcajijbjaaGreatDoor
open Go Go.RowKit Go.Maps
def okI (i:Int):Bool:=decide (0≤i∧i<24)
theorem okI_nat {i:Int} (h:okI i=true):∃k:Nat,i=(k:Int)∧k<24:=by
 unfold okI at h
 simp only [decide_eq_true_eq] at h
 exact ⟨i.toNat,by omega,by omega⟩
theorem eg_mrk:Tryz.prog.eqGuardType Tryz.prog.depth 99=false:=by kernel_rfl
theorem fx (n:Nat) (h:n<18446744073709551616):IntKind.u64.wrap (n:Int)=(n:Int):=by simp [IntKind.wrap,IntKind.signed,IntKind.bits];omega
theorem ej (p:Nat) (h:p<9223372036854775808) (w:World) :
  Calls Tryz.prog 19 #[.int .u64 (p:Int)] w fun e w'=>e=.returned (.int .i64 ((p % 2:Nat):Int))∧w'=w:=by
 have H1:wrap64 ((p:Int) % 2)=(p:Int) % 2:=by unfold wrap64;omega
 go_enter Tryz.func19,Tryz.ntmps19
 go_wp2
 go_ret
 refine ⟨?_,rfl⟩
 first|rfl|(rw [show ((p % 2:Nat):Int)=(p:Int) % 2 by omega])
theorem bD (i:Nat) (h:i≤100) (w:World) :
  Calls Tryz.prog 21 #[.int .i64 (i:Int)] w fun e w'=>e=.returned (.int .i64 ((2+i:Nat):Int))∧w'=w:=by
 have H1:wrap64 (2+(i:Int))=2+(i:Int):=by unfold wrap64;omega
 go_enter Tryz.func21,Tryz.ntmps21
 go_wp2
 go_ret
 refine ⟨?_,rfl⟩
 first|rfl|(rw [show ((2+i:Nat):Int)=2+(i:Int) by omega])
theorem dq (i:Int) (w:World) :
  Calls Tryz.prog 28 #[.int .i64 i] w fun e w'=>e=.returned (.bool (okI i))∧w'=w:=by
 unfold okI
 by_cases h0:0≤i
 ·by_cases h1:i<24
  ·rw [show decide (0≤i∧i<24)=true from decide_eq_true ⟨h0,h1⟩]
   have H0:decide (i≥0)=true:=decide_eq_true h0
   have H1:decide (i<24)=true:=decide_eq_true h1
   go_enter Tryz.func28,Tryz.ntmps28
   go_wp2
   go_ret
   exact ⟨rfl,rfl⟩
  ·rw [show decide (0≤i∧i<24)=false from decide_eq_false (fun h=>h1 h.2)]
   have H0:decide (i≥0)=true:=decide_eq_true h0
   have H1:decide (i<24)=false:=decide_eq_false h1
   go_enter Tryz.func28,Tryz.ntmps28
   go_wp2
   go_ret
   exact ⟨rfl,rfl⟩
 ·rw [show decide (0≤i∧i<24)=false from decide_eq_false (fun h=>h0 h.1)]
  have H0:decide (i≥0)=false:=decide_eq_false h0
  go_enter Tryz.func28,Tryz.ntmps28
  go_wp2
  go_ret
  exact ⟨rfl,rfl⟩
theorem dY (a:Nat) (n:Int) (ha:a≤100) (w:World) (ht:Tab w) :
  Calls Tryz.prog 42 #[.int .i64 (a:Int),.int .u64 n] w fun e w'=>e=.returned (.agg (u8s (mkOf a n)).toArray)∧Below w.heap.size w w':=by
 have HT:Hid (Tab w):=ht
 have tk1:Nat:=0
 have H1:IntKind.u64.wrap (a:Int)=(a:Int):=fx a (by omega)
 have hm:=Mem.start w
 obtain ⟨X,hX⟩:∃X,X=macOf labSlots (be8 n++be2 (a:Int)):=⟨_,rfl⟩
 have HXX:Hid (∀_:Unit,macOf labSlots (be8 n++be2 (a:Int))=X):=fun _=>hX.symm
 have HXU:Hid ((u8s X).length=32):=by show _=_;rw [ab,hX,bw]
 have HX8:Hid ((X.take 8).length=8):=by show _=_;rw [List.length_take,hX,bw];rfl
 have HMK:Hid (∀_:Unit,be8 n++X.take 8=mkOf a n):=fun _=>by rw [hX];rfl
 have HMU:Hid ((u8s (mkOf a n)).length=16):=by show _=_;rw [ab,bh]
 clear ht hX
 go_enter Tryz.func42,Tryz.ntmps42
 go_wp2_with (first
  | ((with_reducible refine aa (some 4) (.alloc 99) ?_);refine aj _ eZ hm ?_;clear hm;intro w1 g4 hm)
  | (go_at_call 55;(first|(clear tk1;refine (fG n _).mono ?_;rintro e w2 ⟨g5,rfl,hge,hr,hb⟩;replace hm:=hm.callNew hb hr hge;clear hb hr hge)|(refine (put_two (be8 n) _ (a:Int) (by rw [bx];omega) _ (bB (hm.get 0 rfl) (bx n) (Nat.le_refl _))).mono ?_;rintro e w4 ⟨g6,he,hge,hr,hb⟩;rw [bx] at he;subst he;have HL2:Hid (SlOld w4 (.slice (some ⟨gj,0,none⟩) 5 5) labSlots):=SlOld.below HJ.out hb;replace hm:=hm.callNew hb hr hge;clear hb hr hge HJ)))
  | ((with_reducible refine aa (some 10) (.convert 33 33 (.tmp 9)) ?_);go_must (refine wpl_cvc labSlots rfl aU cy rfl rfl hm ?_);clear hm;intro w3 gj hbj hm hj;have HJ:Hid (SlOld w3 (.slice (some ⟨gj,0,none⟩) 5 5) labSlots):=hj;clear hbj hj)
  | (go_at_call 56;refine (iF labSlots (be8 n++be2 (a:Int)) _ _ i5 ((dP n).append (be2_bytes _)) (by decide) (by rw [List.length_append,bx,jb];omega) _ (Tab.mem HT.out hm (by simp)) HL2.out (bB (hm.get 0 rfl) (by rw [List.length_append,bx,jb]) (Nat.le_refl _))).mono ?_;rintro e w5 ⟨he,hb⟩;rw [HXX.out ()] at he;subst he;replace hm:=hm.call hb;clear hb)
  | ((with_reducible refine aa (some 6) (.alloc 38) ?_);refine aj _ cd hm ?_;clear hm;intro w6 g7 hm)
  | ((with_reducible refine aa none (.store 38 (.tmp 6) (.tmp 15)) ?_);refine ap 0 (u8s X) hm rfl rfl rfl 32 b8 (by simp [ab]) (HXU.out) (aq _) ?_;clear hm;intro w7 hm)
  | ((with_reducible refine aa (some 18) (.buildSlice 134 2 #[(0,.tmp 16),(1,.tmp 17)]) ?_);go_must (refine jh (.slice none 0 0) _ _ un_bss info_bs rfl rfl rfl rfl rfl hm ?_);clear hm;intro w8 g8 hb8 hm)
  | (go_at_call 57;refine (concat_two (be8 n) (X.take 8) g8 _ _ _ _ (bx n) HX8.out _ (hm.get 0 rfl) (bB (hm.get 3 rfl) (bx n) (Nat.le_refl _)) ⟨_,_,by rw [HX8.out],by rw [HX8.out];omega,fun _=>⟨g7,0,rfl,(Seg.row (hm.get 1 rfl)).take 8⟩⟩).mono ?_;rintro e w9 ⟨g9,cap,rfl,hcap,hs,hb⟩;rw [HMK.out ()] at hs;have HS:Hid (Seg w9 g9 0 (mkOf a n)):=hs;replace hm:=hm.call hb;clear hb hs)
  | ((with_reducible refine aa (some 20) (.sliceToArrayPointer 99 (.tmp 19)) ?_);go_must (refine cN 16 dp (by omega) rfl ?_))
  | ((with_reducible refine aa (some 21) (.load 99 (.tmp 20)) ?_);go_must (refine ae _ rfl (exec_ldS (mkOf a n) rfl HS.out _ dp rfl 16 dE (bh a n)) ?_))
  | ((with_reducible refine aa none (.store 99 (.tmp 4) (.tmp 21)) ?_);refine ap 4 (u8s (mkOf a n)) hm rfl rfl rfl 16 dE (by simp [ab]) (HMU.out) (aq _) ?_;clear hm;intro w10 hm))
 exact aJ 4 hm rfl Tryz.results42 rfl _ dp rfl 16 dE HMU.out rfl ⟨rfl,hm.below⟩
open Go Go.RowKit Go.Maps
theorem gU (off:Nat):∀(cs:List Value) (k:Nat) (L:List Value),off+k+cs.length≤L.length→(cs.zipIdx k).foldl (fun (A:Array Value) (x:Value×Nat)=>A.setIfInBounds (off+x.2) x.1) L.toArray=(splice L (off+k) cs).toArray
 | [],k,L,_=>by simp [splice]
 | c::cs,k,L,h=>by
  have hl:off+k<L.length:=by simp at h;omega
  obtain ⟨X,y,Z,rfl,hX⟩:∃X y Z,L=X++y::Z∧X.length=off+k:=⟨L.take (off+k),L[off+k],L.drop (off+k+1),by simp,by simp;omega⟩
  have e0:(X++y::Z).set (off+k) c=X++c::Z:=by
   rw [List.set_append_right _ _ (by omega),hX,Nat.sub_self]
   rfl
  have e1:splice (X++c::Z) (off+(k+1)) cs=X++c::(cs++Z.drop cs.length):=by
   rw [show X++c::Z=(X++[c])++Z by simp]
   unfold splice
   rw [List.take_append_of_le_length (by simp;omega),List.take_of_length_le (by simp;omega),List.drop_append,List.drop_of_length_le (by simp;omega),List.nil_append,show off+(k+1)+cs.length - (X++[c]).length=cs.length by simp;omega]
   simp
  have e2:splice (X++y::Z) (off+k) (c::cs)=X++c::(cs++Z.drop cs.length):=by
   unfold splice
   rw [List.take_append_of_le_length (by omega),List.take_of_length_le (by omega),List.drop_append,List.drop_of_length_le (by simp;omega),List.nil_append,show off+k+(c::cs).length - X.length=cs.length+1 by simp;omega]
   simp
  rw [List.zipIdx_cons,List.foldl_cons,List.setIfInBounds_toArray,e0,gU off cs (k+1) (X++c::Z) (by simp at h ⊢;omega),e1,e2]
theorem fill_one (place:Nat→Option (Nat×Nat)) (L:List Value) (i off:Nat) (cs:List Value) (rest:List (Nat×Value)) (hp:place i=some (off,cs.length)) (hl:off+cs.length≤L.length) :
  Instr.fill place L.toArray ((i,.agg cs.toArray)::rest)=Instr.fill place (splice L off cs).toArray rest:=by
 have h9:=gU off cs 0 L (by omega)
 rw [Nat.add_zero] at h9
 show (match place i with|none=>none|some (o,s)=>if (cs.toArray.size≠s||o+cs.toArray.size > L.toArray.size)=true then none else Instr.fill place (cs.toArray.zipIdx.foldl (fun (A:Array Value) (x:Value×Nat)=>A.setIfInBounds (o+x.2) x.1) L.toArray) rest)=_
 rw [hp]
 simp only
 rw [if_neg (by simp;omega)]
 congr 1
 rw [←h9,←Array.foldl_toList]
 simp
theorem gT (X Y cs:List Value) (off:Nat) (hX:X.length=off):splice (X++Y) off cs=X++(cs++Y.drop cs.length):=by
 subst hX
 unfold splice
 rw [List.take_left,List.drop_append,List.drop_of_length_le (by omega),List.nil_append,Nat.add_sub_cancel_left]
theorem built_struct {P:Program} {T:TypeId} {fs:Array Field} {it:TypeInfo} {z:Value} {places:List (Nat×Nat)} (parts:List (Nat×Value)) (hit:P.info? T=some it) (hu:P.underlying T=some (.struct fs)) (hz:it.zero=some z) (hp:fs.toList.mapM (fun f=>(P.info? f.type).map fun i=>(f.offset,i.size))=some places) :
  P.built T parts=Instr.fill (places.toArray[·]?) z.cells parts:=by
 unfold Program.built
 rw [hit,hu]
 simp only [hz,hp]
theorem fill_int (place:Nat→Option (Nat×Nat)) (L:List Value) (i off:Nat) (q:Int) (rest:List (Nat×Value)) (hp:place i=some (off,1)) (hl:off+1≤L.length) :
  Instr.fill place L.toArray ((i,.int .u64 q)::rest)=Instr.fill place (splice L off [.int .u64 q]).toArray rest:=by
 have h9:=gU off [.int .u64 q] 0 L (by simpa using hl)
 rw [Nat.add_zero] at h9
 show (match place i with|none=>none|some (o,s)=>if (#[Value.int .u64 q].size≠s||o+#[Value.int .u64 q].size > L.toArray.size)=true then none else Instr.fill place (#[Value.int .u64 q].zipIdx.foldl (fun (A:Array Value) (x:Value×Nat)=>A.setIfInBounds (o+x.2) x.1) L.toArray) rest)=_
 rw [hp]
 simp only
 have h7:¬((#[Value.int .u64 q].size≠1||off+#[Value.int .u64 q].size > L.toArray.size)=true):=by
  have h8:L.toArray.size=L.length:=by simp
  rw [h8]
  show ¬((decide ((1:Nat)≠1)||decide (off+1 > L.length))=true)
  simp
  omega
 rw [if_neg h7,←h9]
 congr 1
theorem pl_ent:(match Tryz.prog.underlying 67 with|some (.struct fs)=>fs.toList.mapM (fun f=>(Tryz.prog.info? f.type).map fun i=>(f.offset,i.size))|_=>none)=some [(0,1),(1,48)]:=by kernel_rfl
theorem gP (n:Nat) (k:List Int) (hk:k.length=48):Tryz.prog.built 67 [(0,.int .u64 (n:Int)),(1,.agg (u8s k).toArray)]=some (entL (n,k)).toArray:=by
 have h9:=jv
 cases hit:Tryz.prog.info? 67 with
 | none=>simp [hit] at h9
 | some it =>
  obtain ⟨fs,hu⟩:=un_ent
  have h8:=pl_ent
  rw [hu] at h8
  simp only [hit,Option.map_some,Option.some.injEq,Prod.mk.injEq] at h9
  rw [built_struct _ hit hu h9.1 h8]
  show Instr.fill _ (entL noEnt).toArray _=_
  have lK:(u8s k).length=48:=by rw [ab,hk]
  have lZ:(u8s (List.replicate 48 0)).length=48:=by rw [ab];simp
  have e1:splice (entL noEnt) 0 [Value.int .u64 (n:Int)]=[Value.int .u64 (n:Int)]++u8s (List.replicate 48 0):=by
   have e2:=gT [] (entL noEnt) [Value.int .u64 (n:Int)] 0 rfl
   rw [List.nil_append,List.nil_append] at e2
   exact e2
  rw [fill_int _ _ 0 0 _ _ rfl (by rw [aI (by simp [noEnt])];omega),e1,fill_one _ _ 1 1 (u8s k) _ (by rw [lK];rfl) (by rw [lK,List.length_append,lZ];show 1+48≤1+48;omega)]
  show some _=some _
  congr 2
  rw [gT [Value.int .u64 (n:Int)] _ _ 1 rfl,lK,List.drop_of_length_le (by rw [lZ];exact Nat.le_refl _),List.append_nil]
  rfl
theorem cx (x:Ent):∀v∈entL x,v.oneCell'=true:=by
 intro v hv
 rcases List.mem_cons.1 hv with rfl|h
 ·rfl
 ·exact aq _ v h
theorem seg_ent {w:World} {g:Nat} {x:Ent} {t:TypeId} (hr:Row w g (entL x) t):Seg w g 1 x.2:=by
 intro j hj
 rw [hr.cell,Nat.add_comm 1 j]
 show (u8s x.2)[j]?=_
 exact cP x.2 j hj
theorem sl_ent {w:World} {g:Nat} {x:Ent} {t:TypeId} (hr:Row w g (entL x) t) (hl:x.2.length=48):SlOld w (.slice (some ⟨g,1,none⟩) 48 48) x.2 :=
 ⟨_,48,by rw [hl],by rw [hl];exact Nat.le_refl _,fun _=>⟨g,1,rfl,seg_ent hr⟩⟩
def unE (x:Ent):List Int:=x.2++List.replicate 16 0
theorem unC_get (x:Option Ent):unC x=unE (x.getD noEnt):=by
 cases x with
 | none=>rfl
 | some y=>rfl
theorem d8 {x:Ent} (h:x.2.length=48):(unE x).length=64:=by simp [unE,h]
open Go Go.RowKit Go.Maps
theorem dN (a:Nat) (m:List Int) (ha:a≤100) (hl:m.length=16) (hbm:Bytes m) (w:World) (ht:Tab w) :
  Calls Tryz.prog 47 #[.int .i64 (a:Int),.agg (u8s m).toArray] w fun e w'=>e=.returned (.tuple #[.int .u64 (numL (m.take 8)),.bool (numOk a m)])∧Below w.heap.size w w':=by
 have HT:Hid (Tab w):=ht
 have HML:Hid (m.length=16):=hl
 have HMU:Hid ((u8s m).length=16):=by show _=_;rw [ab,hl]
 have HMB:Hid (Bytes m):=hbm
 have hm:=Mem.start w
 obtain ⟨N,hN⟩:∃N,N=numL (m.take 8):=⟨_,rfl⟩
 have HN:Hid (∀_:Unit,numL (m.take 8)=N):=fun _=>hN.symm
 have HOK:Hid (∀_:Unit,numOk a m=(decide (0<N)&&decide (m=mkOf a N))):=fun _=>by rw [hN];rfl
 rw [←hN]
 clear ht hl hbm hN
 go_enter Tryz.func47,Tryz.ntmps47
 go_wp2_with (first
  | ((with_reducible refine aa (some 3) (.box 99 (.tmp 1)) ?_);refine aB (u8s m) rfl hm ?_;clear hm;intro w1 g3 hm)
  | (go_at_call 62;refine (get_eight m _ 16 HML.out (by omega) (by omega) HMB.out _ (bB (hm.get 0 rfl) HML.out (Nat.le_refl _))).mono ?_;rintro e w2 ⟨g9,he,hge,hr,hb⟩;rw [HN.out ()] at he;subst he;replace hm:=hm.callNew hb hr hge;clear hb hr hge))
 by_cases hp:0<N
 ·have HG:decide (N > 0)=true:=decide_eq_true hp
  have HF:Hid (numOk a m=decide (m=mkOf a N)):=by show _=_;rw [HOK.out (),decide_eq_true hp,Bool.true_and]
  refine au ?_
  refine av (T:=fun W=>Mem w [] W [(g9,u8s (m.drop 8),5),(g3,u8s m,99)]) (by kernel_rfl) hm ?_
  intro wc hbw hmw
  replace hm:Mem w [] wc [(g9,u8s (m.drop 8),5),(g3,u8s m,99)]:=hmw
  clear hbw hmw
  refine aT 0 (v:=.int .u64 N) rfl (by kernel_rfl) rfl (fun W _=>by go_simp) hm ?_
  go_simp
  refine aT 1 (v:=.int .u64 N) rfl (by kernel_rfl) rfl (fun W _=>by go_simp) hm ?_
  go_simp
  refine aT 2 (v:=.bool true) rfl (by kernel_rfl) rfl (fun W _=>by go_simp) hm ?_
  go_simp
  refine aT 3 (v:=.bool true) rfl (by kernel_rfl) rfl (fun W _=>by go_simp) hm ?_
  go_simp
  refine aG 4 (v:=.agg (u8s m).toArray) rfl (by kernel_rfl) rfl (fun W hW=>ao 0 _ (Mem.get hW 1 rfl) rfl _ dp rfl 16 dE (by rw [HMU.out];omega) (by rw [List.drop_zero,List.take_of_length_le (by rw [HMU.out];omega)])) hm ?_
  go_simp
  refine aG 5 (v:=.int .i64 (a:Int)) rfl (by kernel_rfl) rfl (fun W _=>by go_simp) hm ?_
  go_simp
  refine aG 6 (v:=.int .u64 N) rfl (by kernel_rfl) rfl (fun W _=>by go_simp) hm ?_
  go_simp
  refine aO 7 (by kernel_rfl) rfl rfl ?_
  intro K hK
  go_wp2_with ((go_at_call 42;refine (dY a N ha _ (Tab.mem HT.out hm (by simp))).mono ?_;rintro e w4 ⟨rfl,hb⟩;replace hm:=hm.call hb;clear hb))
  refine hK _ _ hm ?_
  clear hK K
  go_simp
  refine aG 8 (v:=.bool (decide (m=mkOf a N))) rfl (by kernel_rfl) rfl (fun W hW=>exec_eqa 5 16 .u8 m (mkOf a N) rfl rfl dp cy be eg_mrk HML.out (bh a N)) hm ?_
  go_simp
  refine aT 9 (v:=.bool (decide (m=mkOf a N))) rfl (by kernel_rfl) rfl (fun W _=>by go_simp) hm ?_
  go_simp
  refine aT 10 (v:=.int .u64 N) rfl (by kernel_rfl) rfl (fun W _=>by go_simp) hm ?_
  go_simp
  refine aT 11 (v:=.bool (decide (m=mkOf a N))) rfl (by kernel_rfl) rfl (fun W _=>by go_simp) hm ?_
  go_simp
  refine wpAnyH_done (by kernel_rfl) ?_ _
  simp only [endsIn]
  go_wp2_with fail
  go_ret2
  exact ⟨by rw [HF.out];rfl,hm.below⟩
 ·have HG:decide (N > 0)=false:=decide_eq_false hp
  have HF:Hid (numOk a m=false):=by show _=_;rw [HOK.out (),decide_eq_false hp,Bool.false_and]
  refine au ?_
  refine av (T:=fun W=>Mem w [] W [(g9,u8s (m.drop 8),5),(g3,u8s m,99)]) (by kernel_rfl) hm ?_
  intro wc hbw hmw
  replace hm:Mem w [] wc [(g9,u8s (m.drop 8),5),(g3,u8s m,99)]:=hmw
  clear hbw hmw
  refine aT 0 (v:=.int .u64 N) rfl (by kernel_rfl) rfl (fun W _=>by go_simp) hm ?_
  go_simp
  refine aT 1 (v:=.int .u64 N) rfl (by kernel_rfl) rfl (fun W _=>by go_simp) hm ?_
  go_simp
  refine aT 2 (v:=.bool false) rfl (by kernel_rfl) rfl (fun W _=>by go_simp) hm ?_
  go_simp
  refine aT 3 (v:=.bool false) rfl (by kernel_rfl) rfl (fun W _=>by go_simp) hm ?_
  go_simp
  refine ai 4 rfl (by kernel_rfl) (by kernel_rfl) (by kernel_rfl) rfl hm ?_
  go_simp
  refine ai 5 rfl (by kernel_rfl) (by kernel_rfl) (by kernel_rfl) rfl hm ?_
  go_simp
  refine ai 6 rfl (by kernel_rfl) (by kernel_rfl) (by kernel_rfl) rfl hm ?_
  go_simp
  refine ai 7 rfl (by kernel_rfl) (by kernel_rfl) (by kernel_rfl) rfl hm ?_
  go_simp
  refine ai 8 rfl (by kernel_rfl) (by kernel_rfl) (by kernel_rfl) rfl hm ?_
  go_simp
  refine aT 9 (v:=.bool false) rfl (by kernel_rfl) rfl (fun W _=>by go_simp) hm ?_
  go_simp
  refine aT 10 (v:=.int .u64 N) rfl (by kernel_rfl) rfl (fun W _=>by go_simp) hm ?_
  go_simp
  refine aT 11 (v:=.bool false) rfl (by kernel_rfl) rfl (fun W _=>by go_simp) hm ?_
  go_simp
  refine wpAnyH_done (by kernel_rfl) ?_ _
  simp only [endsIn]
  go_wp2_with fail
  go_ret2
  exact ⟨by rw [HF.out];rfl,hm.below⟩
theorem gV (p:Nat) (hp:p<9223372036854775808) (w:World) (ht:Tab w) :
  Calls Tryz.prog 25 #[.int .u64 (p:Int)] w fun e w'=>e=.returned (.agg (u8s (cntC p)).toArray)∧Below w.heap.size w w':=by
 have HT:Hid (Tab w):=ht
 have hm:=Mem.start w
 obtain ⟨M,hM⟩:∃M,M=mkOf (p % 2) (p:Int):=⟨_,rfl⟩
 have HMM:Hid (∀_:Unit,mkOf (p % 2) (p:Int)=M):=fun _=>hM.symm
 have HML:Hid (M.length=16):=by show _=_;rw [hM,bh]
 have HMU:Hid ((u8s M).length=16):=by show _=_;rw [ab,hM,bh]
 have HCC:Hid (splice (u8s (List.replicate 64 0)) 0 (u8s (M.take 16))=u8s (cntC p)):=by
  show _=_
  rw [List.take_of_length_le (by rw [hM,bh];omega),cn,hM,bh]
  rfl
 have HCU:Hid ((u8s (cntC p)).length=64):=by show _=_;rw [ab,ei]
 clear ht hM
 go_enter Tryz.func25,Tryz.ntmps25
 go_wp2_with (first
  | ((with_reducible refine aa (some 2) (.alloc 64) ?_);refine aj _ bP hm ?_;clear hm;intro w1 g2 hm)
  | (go_at_call 19;refine (ej p hp _).mono ?_;rintro e w2 ⟨rfl,rfl⟩)
  | (go_at_call 42;refine (dY (p % 2) (p:Int) (by omega) _ (Tab.mem HT.out hm (by simp))).mono ?_;rintro e w3 ⟨he,hb⟩;rw [HMM.out ()] at he;subst he;replace hm:=hm.call hb;clear hb)
  | ((with_reducible refine aa (some 3) (.alloc 99) ?_);refine aj _ eZ hm ?_;clear hm;intro w4 g3 hm)
  | ((with_reducible refine aa none (.store 99 (.tmp 3) (.tmp 8)) ?_);refine ap 0 (u8s M) hm rfl rfl rfl 16 dE (by simp [ab]) (HMU.out) (aq _) ?_;clear hm;intro w5 hm)
  | ((with_reducible refine aa (some 4) (.alloc 64) ?_);refine aj _ bP hm ?_;clear hm;intro w6 g4 hm))
 refine au ?_
 refine a6 (T:=fun W=>Mem w [] W [(g3,u8s M,99),(g2,u8s (List.replicate 64 0),64)]) (by kernel_rfl) hm ?_
 clear hm
 intro wc hm
 refine aT 0 (v:=.slice (some ⟨g4,0,none⟩) 64 64) rfl (by kernel_rfl) rfl (fun W _=>by go_simp) hm.tail ?_
 go_simp
 refine aT 1 (v:=.slice (some ⟨g3,0,none⟩) 16 16) rfl (by kernel_rfl) rfl (fun W _=>by go_simp) hm.tail ?_
 go_simp
 refine aO 2 (by kernel_rfl) rfl rfl ?_
 intro K hK
 go_must (refine cZ 0 M 16 (u8s (cntC p)) hm rfl rfl rfl _ aU be (bB (hm.get 1 rfl) HML.out (Nat.le_refl _)) rfl (by simp [ab]) HCC.out ?_)
 clear hm
 intro wz hm
 refine wpList_nil ?_
 refine hK _ _ hm.tail ?_
 clear hK K
 go_simp
 refine wpAnyH_done (by kernel_rfl) ?_ _
 simp only [endsIn]
 go_wp2_with (first
  | ((with_reducible refine aa (some 12) (.load 64 (.tmp 4)) ?_);refine ay 0 hm rfl rfl _ b7 rfl 64 br (HCU.out) ?_)
  | ((with_reducible refine aa none (.store 64 (.tmp 2) (.tmp 12)) ?_);refine ap 2 (u8s (cntC p)) hm rfl rfl rfl 64 br (by simp [ab]) (HCU.out) (aq _) ?_;clear hm;intro w8 hm))
 exact aJ 2 hm rfl Tryz.results25 rfl _ b7 rfl 64 br HCU.out rfl ⟨rfl,hm.below⟩
theorem dI (x:Ent) (hx:x.2.length=48) (w:World) :
  Calls Tryz.prog 20 #[.agg (entL x).toArray] w fun e w'=>e=.returned (.agg (u8s (unE x)).toArray)∧Below w.heap.size w w':=by
 have hm:=Mem.start w
 have HX:Hid (x.2.length=48):=hx
 have HCC:Hid (splice (u8s (List.replicate 64 0)) 0 (u8s (x.2.take 48))=u8s (unE x)):=by
  show _=_
  rw [List.take_of_length_le (by omega),cn,hx]
  rfl
 have HCU:Hid ((u8s (unE x)).length=64):=by show _=_;rw [ab,d8 hx]
 clear hx
 go_enter Tryz.func20,Tryz.ntmps20
 go_wp2_with (first
  | ((with_reducible refine aa (some 1) (.box 67 (.tmp 0)) ?_);refine aB (entL x) rfl hm ?_;clear hm;intro w1 g1 hm)
  | ((with_reducible refine aa (some 2) (.alloc 64) ?_);refine aj _ bP hm ?_;clear hm;intro w2 g2 hm)
  | ((with_reducible refine aa (some 3) (.alloc 64) ?_);refine aj _ bP hm ?_;clear hm;intro w3 g3 hm))
 refine au ?_
 refine a6 (T:=fun W=>Mem w [] W [(g2,u8s (List.replicate 64 0),64),(g1,entL x,67)]) (by kernel_rfl) hm ?_
 clear hm
 intro wc hm
 refine aT 0 (v:=.slice (some ⟨g3,0,none⟩) 64 64) rfl (by kernel_rfl) rfl (fun W _=>by go_simp) hm.tail ?_
 go_simp
 refine aT 1 (v:=.pointer (some ⟨g1,1,none⟩)) rfl (by kernel_rfl) rfl (fun W _=>by go_simp) hm.tail ?_
 go_simp
 refine aT 2 (v:=.slice (some ⟨g1,1,none⟩) 48 48) rfl (by kernel_rfl) rfl (fun W _=>by go_simp) hm.tail ?_
 go_simp
 refine aO 3 (by kernel_rfl) rfl rfl ?_
 intro K hK
 go_must (refine cZ 0 x.2 48 (u8s (unE x)) hm rfl rfl rfl _ aU be (sl_ent (hm.get 2 rfl) HX.out) rfl (by simp [ab]) HCC.out ?_)
 clear hm
 intro wz hm
 refine wpList_nil ?_
 refine hK _ _ hm.tail ?_
 clear hK K
 go_simp
 refine wpAnyH_done (by kernel_rfl) ?_ _
 simp only [endsIn]
 go_wp2_with (first
  | ((with_reducible refine aa (some 8) (.load 64 (.tmp 3)) ?_);refine ay 0 hm rfl rfl _ b7 rfl 64 br (HCU.out) ?_)
  | ((with_reducible refine aa none (.store 64 (.tmp 2) (.tmp 8)) ?_);refine ap 1 (u8s (unE x)) hm rfl rfl rfl 64 br (by simp [ab]) (HCU.out) (aq _) ?_;clear hm;intro w8 hm))
 exact aJ 1 hm rfl Tryz.results20 rfl _ b7 rfl 64 br HCU.out rfl ⟨rfl,hm.below⟩
open Go Go.RowKit Go.Maps
theorem entryOf_none (i:Nat) (c:List Int) (hi:i<24) (hl:c.length=64) (hcb:Bytes c) (w:World) (ht:Tab w) (hn:entOf i c=none) :
  Calls Tryz.prog 36 #[.int .i64 (i:Int),.agg (u8s c).toArray] w fun e w'=>e=.returned (.tuple #[.agg (entL noEnt).toArray,.bool false])∧Below w.heap.size w w':=by
 have hm:=Mem.start w
 have HT:Hid (Tab w):=ht
 have HCU:Hid ((u8s c).length=64):=by show _=_;rw [ab,hl]
 obtain ⟨M,hM⟩:∃M,M=c.drop 48:=⟨_,rfl⟩
 have HML:Hid (M.length=16):=by show _=_;rw [hM,List.length_drop,hl]
 have HMB:Hid (Bytes M):=by rw [hM];exact hcb.drop 48
 have HMS:Hid (((u8s c).drop 48).take 16=u8s M):=by show _=_;rw [hM,List.take_of_length_le (by rw [List.length_drop,ab,hl];omega)];simp [u8s,List.map_drop]
 have HOK:Hid (∀_:Unit,numOk (2+i) M=false):=fun _=>by
  unfold entOf numOf at hn
  rw [←hM] at hn
  cases h:numOk (2+i) M with
  | false=>rfl
  | true=>rw [h] at hn;simp at hn
 obtain ⟨N,hN⟩:∃N,N=numL (M.take 8):=⟨_,rfl⟩
 have HN:Hid (∀_:Unit,numL (M.take 8)=N):=fun _=>hN.symm
 have HNL:Hid ((entL noEnt).length=49):=aI (by simp [noEnt])
 clear ht hl hcb hM hN hn
 go_enter Tryz.func36,Tryz.ntmps36
 go_wp2_with (first
  | ((with_reducible refine aa (some 3) (.box 64 (.tmp 1)) ?_);refine aB (u8s c) rfl hm ?_;clear hm;intro w1 g3 hm)
  | ((with_reducible refine aa (some 4) (.alloc 67) ?_);refine aj _ bF hm ?_;clear hm;intro w2 g4 hm))
 refine au ?_
 refine av (T:=fun W=>Mem w [] W [(g4,entL noEnt,67),(g3,u8s c,64)]) (by kernel_rfl) hm ?_
 intro wc hbw hmw
 replace hm:Mem w [] wc [(g4,entL noEnt,67),(g3,u8s c,64)]:=hmw
 clear hbw hmw
 refine aT 0 (v:=.int .i64 (i:Int)) rfl (by kernel_rfl) rfl (fun W _=>by go_simp) hm ?_
 go_simp
 refine aT 2 (v:=.slice (some ⟨g3,48,none⟩) 16 16) rfl (by kernel_rfl) rfl (fun W _=>by go_simp) hm ?_
 go_simp
 refine aT 3 (v:=.pointer (some ⟨g3,48,none⟩)) rfl (by kernel_rfl) rfl (fun W hW=>dV 16 dp (by omega) rfl) hm ?_
 go_simp
 refine aT 4 (v:=.agg (u8s M).toArray) rfl (by kernel_rfl) rfl (fun W hW=>bJ 48 _ (Mem.get hW 1 rfl) rfl _ dp rfl 16 dE (by rw [HCU.out];omega) HMS.out) hm ?_
 go_simp
 refine aO 1 (by kernel_rfl) rfl rfl ?_
 intro K hK
 go_wp2_with ((go_at_call 21;refine (bD i (by omega) _).mono ?_;rintro e w4 ⟨rfl,rfl⟩))
 refine hK _ _ hm ?_
 clear hK K
 go_simp
 refine aO 5 (by kernel_rfl) rfl rfl ?_
 intro K hK
 go_wp2_with ((go_at_call 47;refine (dN (2+i) M (by omega) HML.out HMB.out _ (Tab.mem HT.out hm (by simp))).mono ?_;rintro e w5 ⟨he,hb⟩;rw [HN.out (),HOK.out ()] at he;subst he;replace hm:=hm.call hb;clear hb))
 refine hK _ _ hm ?_
 clear hK K
 go_simp
 refine aT 6 (v:=.tuple #[.int .u64 N,.bool false]) rfl (by kernel_rfl) rfl (fun W _=>by go_simp) hm ?_
 go_simp
 refine aT 7 (v:=.int .u64 N) rfl (by kernel_rfl) rfl (fun W _=>by go_simp) hm ?_
 go_simp
 refine aT 8 (v:=.bool false) rfl (by kernel_rfl) rfl (fun W _=>by go_simp) hm ?_
 go_simp
 refine aT 9 (v:=.int .u64 N) rfl (by kernel_rfl) rfl (fun W _=>by go_simp) hm ?_
 go_simp
 refine aT 10 (v:=.bool false) rfl (by kernel_rfl) rfl (fun W _=>by go_simp) hm ?_
 go_simp
 refine wpAnyH_done (by kernel_rfl) ?_ _
 simp only [endsIn]
 go_wp2_with (first
  | ((with_reducible refine aa (some 19) (.build 67 #[]) ?_);go_must (refine aM (entL noEnt) _ rfl built_ent0 ?_))
  | ((with_reducible refine aa none (.store 67 (.tmp 4) (.tmp 19)) ?_);refine ap 0 (entL noEnt) hm rfl rfl rfl 49 bY HNL.out HNL.out (cx _) ?_;clear hm;intro w8 hm))
 exact dA 0 _ hm rfl Tryz.results36 rfl rfl _ Tryz.underlying67 rfl 49 bY HNL.out rfl ⟨rfl,hm.below⟩
theorem entryOf_some (i:Nat) (c:List Int) (hi:i<24) (hl:c.length=64) (hcb:Bytes c) (w:World) (ht:Tab w) (x:Ent) (hx:entOf i c=some x) :
  Calls Tryz.prog 36 #[.int .i64 (i:Int),.agg (u8s c).toArray] w fun e w'=>e=.returned (.tuple #[.agg (entL x).toArray,.bool true])∧Below w.heap.size w w':=by
 obtain ⟨n,k⟩:=x
 obtain ⟨h1,h2,h3,h4⟩:=f0 hx
 have hm:=Mem.start w
 have HT:Hid (Tab w):=ht
 have HCU:Hid ((u8s c).length=64):=by show _=_;rw [ab,hl]
 obtain ⟨M,hM⟩:∃M,M=c.drop 48:=⟨_,rfl⟩
 have HML:Hid (M.length=16):=by show _=_;rw [hM,List.length_drop,hl]
 have HMB:Hid (Bytes M):=by rw [hM];exact hcb.drop 48
 have HMS:Hid (((u8s c).drop 48).take 16=u8s M):=by show _=_;rw [hM,List.take_of_length_le (by rw [List.length_drop,ab,hl];omega)];simp [u8s,List.map_drop]
 simp only at h2 h3 h4
 rw [←hM] at h4
 have HOK:Hid (∀_:Unit,numOk (2+i) M=true):=fun _=>by
  unfold numOf at h4
  cases h:numOk (2+i) M with
  | true=>rfl
  | false=>rw [h] at h4;simp at h4
 have h5:=hU h4
 obtain ⟨N,hN⟩:∃N:Int,N=(n:Int):=⟨_,rfl⟩
 have HN:Hid (∀_:Unit,numL (M.take 8)=N):=fun _=>by rw [hN];exact h5.symm
 have HKL:Hid (k.length=48):=by show _=_;rw [h3,List.length_take,hl];rfl
 have HKS:Hid (((u8s c).drop 0).take 48=u8s k):=by show _=_;rw [h3,List.drop_zero];simp [u8s,List.map_take]
 have HNL:Hid ((entL noEnt).length=49):=aI (by simp [noEnt])
 have HEL:Hid ((entL (n,k)).length=49):=aI HKL.out
 have HNN:Hid (N=(n:Int)):=hN
 have HBE:Hid (Tryz.prog.built 67 [(0,.int .u64 N),(1,.agg (u8s k).toArray)]=some (entL (n,k)).toArray):=by rw [hN];exact gP n k HKL.out
 clear ht hl hcb hM hx h1 h2 h3 h4 h5 hN
 go_enter Tryz.func36,Tryz.ntmps36
 go_wp2_with (first
  | ((with_reducible refine aa (some 3) (.box 64 (.tmp 1)) ?_);refine aB (u8s c) rfl hm ?_;clear hm;intro w1 g3 hm)
  | ((with_reducible refine aa (some 4) (.alloc 67) ?_);refine aj _ bF hm ?_;clear hm;intro w2 g4 hm))
 refine au ?_
 refine av (T:=fun W=>Mem w [] W [(g4,entL noEnt,67),(g3,u8s c,64)]) (by kernel_rfl) hm ?_
 intro wc hbw hmw
 replace hm:Mem w [] wc [(g4,entL noEnt,67),(g3,u8s c,64)]:=hmw
 clear hbw hmw
 refine aT 0 (v:=.int .i64 (i:Int)) rfl (by kernel_rfl) rfl (fun W _=>by go_simp) hm ?_
 go_simp
 refine aT 2 (v:=.slice (some ⟨g3,48,none⟩) 16 16) rfl (by kernel_rfl) rfl (fun W _=>by go_simp) hm ?_
 go_simp
 refine aT 3 (v:=.pointer (some ⟨g3,48,none⟩)) rfl (by kernel_rfl) rfl (fun W hW=>dV 16 dp (by omega) rfl) hm ?_
 go_simp
 refine aT 4 (v:=.agg (u8s M).toArray) rfl (by kernel_rfl) rfl (fun W hW=>bJ 48 _ (Mem.get hW 1 rfl) rfl _ dp rfl 16 dE (by rw [HCU.out];omega) HMS.out) hm ?_
 go_simp
 refine aO 1 (by kernel_rfl) rfl rfl ?_
 intro K hK
 go_wp2_with ((go_at_call 21;refine (bD i (by omega) _).mono ?_;rintro e w4 ⟨rfl,rfl⟩))
 refine hK _ _ hm ?_
 clear hK K
 go_simp
 refine aO 5 (by kernel_rfl) rfl rfl ?_
 intro K hK
 go_wp2_with ((go_at_call 47;refine (dN (2+i) M (by omega) HML.out HMB.out _ (Tab.mem HT.out hm (by simp))).mono ?_;rintro e w5 ⟨he,hb⟩;rw [HN.out (),HOK.out ()] at he;subst he;replace hm:=hm.call hb;clear hb))
 refine hK _ _ hm ?_
 clear hK K
 go_simp
 refine aT 6 (v:=.tuple #[.int .u64 N,.bool true]) rfl (by kernel_rfl) rfl (fun W _=>by go_simp) hm ?_
 go_simp
 refine aT 7 (v:=.int .u64 N) rfl (by kernel_rfl) rfl (fun W _=>by go_simp) hm ?_
 go_simp
 refine aT 8 (v:=.bool true) rfl (by kernel_rfl) rfl (fun W _=>by go_simp) hm ?_
 go_simp
 refine aT 9 (v:=.int .u64 N) rfl (by kernel_rfl) rfl (fun W _=>by go_simp) hm ?_
 go_simp
 refine aT 10 (v:=.bool true) rfl (by kernel_rfl) rfl (fun W _=>by go_simp) hm ?_
 go_simp
 refine wpAnyH_done (by kernel_rfl) ?_ _
 simp only [endsIn]
 go_wp2_with (first
  | ((with_reducible refine aa (some 22) (.sliceToArrayPointer 65 (.tmp 21)) ?_);go_must (refine cN 48 dD (by omega) rfl ?_))
  | ((with_reducible refine aa (some 23) (.load 65 (.tmp 22)) ?_);refine eO 1 0 (u8s k) hm rfl rfl _ dD rfl 48 d3 (by rw [HCU.out];omega) (HKS.out) ?_)
  | ((with_reducible refine aa (some 24) (.build 67 #[(0,.tmp 20),(1,.tmp 23)]) ?_);go_must (refine aM (entL (n,k)) _ rfl HBE.out ?_))
  | ((with_reducible refine aa none (.store 67 (.tmp 4) (.tmp 24)) ?_);refine ap 0 (entL (n,k)) hm rfl rfl rfl 49 bY HNL.out HEL.out (cx _) ?_;clear hm;intro w8 hm))
 exact dA 0 _ hm rfl Tryz.results36 rfl rfl _ Tryz.underlying67 rfl 49 bY HEL.out rfl ⟨rfl,hm.below⟩
theorem ee (i:Nat) (c:List Int) (hi:i<24) (hl:c.length=64) (hcb:Bytes c) (w:World) (ht:Tab w) :
  Calls Tryz.prog 36 #[.int .i64 (i:Int),.agg (u8s c).toArray] w fun e w'=>e=.returned (.tuple #[.agg (entL ((entOf i c).getD noEnt)).toArray,.bool (entOf i c).isSome])∧Below w.heap.size w w':=by
 cases hx:entOf i c with
 | none=>exact entryOf_none i c hi hl hcb w ht hx
 | some x=>exact entryOf_some i c hi hl hcb w ht x hx
theorem dR (g mb:Nat) (kv:Value) (d:Dk) (k:Nat) (ho:d.off=false) (hk:k<d.n) (w:World) (hd:DkAt w g mb kv d) :
  Calls Tryz.prog 35 #[.pointer (some ⟨g,0,none⟩),.int .i64 (k:Int)] w fun e w'=>e=.returned (.tuple #[.agg (u8s (d.now k)).toArray,.int .i64 0])∧Below w.heap.size w w':=by
 have hm:=Mem.start w
 have HD:Hid (DkAt w g mb kv d):=hd
 have HK:Hid (k<d.n):=hk
 have HO:Hid (d.off=false):=ho
 obtain ⟨C,hC⟩:∃C,C=d.now k:=⟨_,rfl⟩
 have HCC:Hid (∀_:Unit,d.now k=C):=fun _=>hC.symm
 have HCU:Hid ((u8s C).length=64):=by show _=_;rw [ab,hC,hd.ok.now hk]
 rw [←hC]
 clear hd hk ho hC
 go_enter Tryz.func35,Tryz.ntmps35
 go_wp2_with (first
  | ((with_reducible refine aa (some 4) (.alloc 64) ?_);refine aj _ bP hm ?_;clear hm;intro w2 g4 hm)
  | (go_at_call 48;refine (read_good g mb kv d k HO.out HK.out _ (HD.out.below hm.below)).mono ?_;rintro e w3 ⟨q,rfl,hge,hr,hb⟩;rw [HCC.out ()] at hr;replace hm:=hm.callNew hb hr hge;clear hb hr hge)
  | ((with_reducible refine aa (some 19) (.sliceToArrayPointer 64 (.tmp 18)) ?_);go_must (refine cN 64 b7 (by omega) rfl ?_))
  | ((with_reducible refine aa (some 20) (.load 64 (.tmp 19)) ?_);refine ay 0 hm rfl rfl _ b7 rfl 64 br (HCU.out) ?_)
  | ((with_reducible refine aa none (.store 64 (.tmp 4) (.tmp 20)) ?_);refine ap 1 (u8s C) hm rfl rfl rfl 64 br (by simp [ab]) (HCU.out) (aq _) ?_;clear hm;intro w8 hm))
 exact dA 1 _ hm rfl Tryz.results35 rfl rfl _ b7 rfl 64 br HCU.out rfl ⟨rfl,hm.below⟩
open Go Go.RowKit Go.Maps Go.Sort Go.Shelf
structure PhOk (n:Nat) (p:Nat→Option (List Int)):Prop where
 at_:∀i l,p i=some l→i<n∧l.length=64∧Bytes l
def dkP (n:Nat) (p:Nat→Option (List Int)):Dk:=⟨n,fun _=>zeroK,p,0,0,false⟩
theorem dkP_ok {n:Nat} {p:Nat→Option (List Int)} (hn:n≤4000) (h:PhOk n p):(dkP n p).Ok:=⟨hn,fun _ _=>aL,fun _ _=>ce,h.at_⟩
theorem PhOk.none (n:Nat):PhOk n (fun _=>Option.none):=⟨fun _ _ h=>by cases h⟩
theorem PhOk.put {n:Nat} {p:Nat→Option (List Int)} (h:PhOk n p) {i:Nat} {l:List Int} (hi:i<n) (hl:l.length=64) (hb:Bytes l):PhOk n (upf p i (some l)):=by
 refine ⟨fun j x hx=>?_⟩
 by_cases he:j=i
 ·subst he
  rw [bo] at hx
  simp only [Option.some.injEq] at hx
  subst hx
  exact ⟨hi,hl,hb⟩
 ·rw [aR p _ he] at hx
  exact h.at_ j x hx
def PhM (w:World) (m:Nat) (p:Nat→Option (List Int)):Prop:=∃q D,q≤1000∧w.ownsMap Tryz.prog 3 rdV m q D∧PM D p
def PhQ (w:World) (m q:Nat) (p:Nat→Option (List Int)):Prop:=∃D,w.ownsMap Tryz.prog 3 rdV m q D∧PM D p
theorem PhQ.ph {w:World} {m q:Nat} {p:Nat→Option (List Int)} (h:PhQ w m q p) (hq:q≤1000):PhM w m p:=by
 obtain ⟨D,h1,h2⟩:=h
 exact ⟨q,D,hq,h1,h2⟩
section
variable {w w':World} {m q:Nat} {p:Nat→Option (List Int)}
theorem PhQ.keep (h:PhQ w m q p) (hk:w'.heap[m]?=w.heap[m]?):PhQ w' m q p:=by
 obtain ⟨D,⟨es,c,hb,F,hs,hD⟩,pm⟩:=h
 exact ⟨D,⟨es,c,by rw [hk];exact hb,F,hs,hD⟩,pm⟩
theorem PhQ.lt (h:PhQ w m q p):m<w.heap.size:=by
 obtain ⟨D,ho,_⟩:=h
 exact ho.lt
theorem PhQ.isMap (h:PhQ w m q p):∃es c,w.heap[m]?=some (.map es c):=by
 obtain ⟨D,⟨es,c,hb,_⟩,_⟩:=h
 exact ⟨es,c,hb⟩
theorem PhQ.below (h:PhQ w m q p) (hb:Below w.heap.size w w'):PhQ w' m q p:=h.keep (hb.block m h.lt)
theorem PhQ.upd {g:Nat} (h:PhQ w m q p) (hu:Upd g w w') (hg:m≠g):PhQ w' m q p:=h.keep (hu.block m h.lt hg)
theorem PhM.lt (h:PhM w m p):m<w.heap.size:=by
 obtain ⟨q,D,_,ho,_⟩:=h
 exact ho.lt
theorem PhM.updS {L:List Nat} (h:PhM w m p) (hu:UpdS L w w') (hm:m ∉ L):PhM w' m p:=by
 obtain ⟨q,D,hq,⟨es,c,hb,F,hs,hD⟩,pm⟩:=h
 have hlt:m<w.heap.size:=(Array.getElem?_eq_some_iff.1 hb).1
 exact ⟨q,D,hq,⟨es,c,by rw [hu.block m hlt hm];exact hb,F,hs,hD⟩,pm⟩
theorem PhM.below (h:PhM w m p) (hb:Below w.heap.size w w'):PhM w' m p:=h.updS (L:=[]) (UpdS.of_below hb) (by simp)
theorem PhQ.new (h:w.heap[m]?=some (.map #[] 0)):PhQ w m 0 (fun _=>none):=⟨_,fF h,PM.none⟩
theorem PhQ.putRun (h:PhQ w m q p) (hq:q<1000) (i:Nat) (hi:i≤4000) (l:List Int) :
  ∃w',(Instr.mapUpdate 55 (.map (some m)) (.int .i64 (i:Int)) (.agg (u8s l).toArray)).run Tryz.prog w=.ok () w'∧PhQ w' m (q+1) (upf p i (some l))∧Upd m w w':=by
 obtain ⟨D,ho,pm⟩:=h
 obtain ⟨w',hr,ho2,hg⟩:=ho.update cg un_pmap (by unfold maxLen;omega) (dF i hi) (d:=.held (.agg (u8s l).toArray)) (ps:=[]) (val:=.agg (u8s l).toArray) rfl
 exact ⟨w',hr,⟨_,ho2,pm.put ho.isMap i l⟩,⟨hg.os,hg.tape,hg.output,hg.size,fun k hk hne=>hg.block k hk (by simpa using hne)⟩⟩
theorem PhM.look1 (h:PhM w m p) (i:Nat) (hi:i≤4000) {l:List Int} (hl:p i=some l):(Instr.lookup 55 (.map (some m)) (.int .i64 (i:Int)) false).run Tryz.prog w=.ok (.agg (u8s l).toArray) w:=by
 obtain ⟨q,D,_,ho,pm⟩:=h
 obtain ⟨u,ps,hr,hv⟩:=ho.lookup cg un_pmap (bP w) (show rdV _=some (.held _,[]) from rfl) (dF i hi)
 have e1:=ef hv
 rw [pm.val i l hl] at e1
 simp only [DataW.held.injEq] at e1
 rw [hr,e1]
theorem PhM.lenRun (h:PhM w m p) {n:Nat} (hn:n≤4000) (hp:PhOk n p) (ty:TypeId):(Builtin.len_ #[55] ty #[.map (some m)]).run Tryz.prog w=.ok (.int .i64 ((pensP p n).length:Nat)) w:=by
 obtain ⟨q,D,_,ho,pm⟩:=h
 rw [ho.len un_pmap ty,PM.size (d:=dkP n p) pm (dkP_ok hn hp) ho]
 rfl
end
section
variable {ops:Array Oper} {rest:List Oper} {a:Act} {w:World} {Q:Exit→Act→World→Prop} {dst:Option Tmp} {typ:TypeId} {pos:String} {aft:Array Edge} {m q:Nat} {p:Nat→Option (List Int)}
theorem gW {x k y:Operand} (st:PhQ w m q p) (hq:q<1000) (i:Nat) (hi:i≤4000) (l:List Int) (hx:a.eval x=.map (some m)) (hk:a.eval k=.int .i64 (i:Int)) (hy:a.eval y=.agg (u8s l).toArray)
  (h:∀w',PhQ w' m (q+1) (upf p i (some l))→Upd m w w'→wpList Tryz.prog ops Q rest (a.put dst undef) w') :
  wpList Tryz.prog ops Q ({dst:=dst,op:=.mapUpdate 55 x k y,type:=typ,pos:=pos,after:=aft,guard:=none}::rest) a w:=by
 obtain ⟨w',hr,h1,h2⟩:=st.putRun hq i hi l
 refine wpList_plain rfl fun K' hK'=>?_
 have hh:=hK' _ _ (h w' h1 h2)
 unfold Oper.wp
 simp [execOp,hx,hk,hy,hr,Result.andThen]
 exact hh
theorem dt {x k y:Operand} (st:PhQ w m q p) (hq:q<1000) (i:Nat) (hi:i≤4000) (l:List Int) (hx:a.eval x=.map (some m)) (hk:a.eval k=.int .i64 (i:Int)) (hy:a.eval y=.agg (u8s l).toArray)
  (h:∀w',PhQ w' m (q+1) (upf p i (some l))→Upd m w w'→wpList Tryz.prog ops Q rest (a.put dst undef) w') :
  wpList Tryz.prog ops Q ({dst:=dst,op:=.insert 55 x k y,type:=typ,pos:=pos,after:=aft,guard:=none}::rest) a w:=by
 obtain ⟨w',hr,h1,h2⟩:=st.putRun hq i hi l
 refine wpList_plain rfl fun K' hK'=>?_
 have hh:=hK' _ _ (h w' h1 h2)
 unfold Oper.wp
 simp [execOp,hx,hk,hy,hr,Result.andThen]
 exact hh
end
theorem keysB_call (mb:Option Nat) (W:World):Calls Tryz.prog 37 #[.map mb] W fun e w'=>e=.returned (.func (.func 49) #[] #[.pointer (some ⟨W.heap.size,0,none⟩)])∧w'=W.alloc (.cells #[.map mb] 55) :=
 callsIn_wide.1 (AnyZI.keys_in keysB Fence.wide 5 trivial rfl mb W)
theorem sorted_ph (m n:Nat) (p:Nat→Option (List Int)) (hn:n≤4000) (hp:PhOk n p) (w:World) (hd:PhM w m p) :
  Calls Tryz.prog 30 #[.func (.func 49) #[] #[.pointer (some ⟨w.heap.size,0,none⟩)]] (w.alloc (.cells #[.map (some m)] 55)) fun e w'=>∃v,e=.returned v∧Ints w' w.heap.size v (pensP p n)∧Below w.heap.size w w':=by
 obtain ⟨q,D,_,hown,pm⟩:=hd
 have hbl:=hown.lt
 have hsz:=PM.size (d:=dkP n p) pm (dkP_ok hn hp) hown
 have hrk:=(dkP n p).rank_le (dkP n p).n
 have hn2:(dkP n p).n≤4000:=hn
 have hseq:SeqGives Fence.wide 2 Tryz.prog 49 #[.pointer (some ⟨w.heap.size,0,none⟩)] encZ (fun ss=>ss.Perm (intKeys D)) (Maps.size D) (w.alloc (.cells #[.map (some m)] 55)) :=
  AnyZI.keys_gives (ρ:=keysB_ren) {keysB with} Fence.wide _ trivial rfl (by omega) w.heap.size m q D _ (by simp) (by simp) (by
   obtain ⟨es,clock,hb,Ft,hs,hD⟩:=hown
   exact ⟨es,clock,(Below.heap_alloc _ _ m hbl).trans hb,Ft,hs,hD⟩)
 have cS:=AnyZI.sorted_in sortedA Fence.wide 5 trivial trivial trivial trivial rfl (by omega) (sortsA _) (enters_of Tryz.func45 (by kernel_rfl) rfl) 49 #[.pointer (some ⟨w.heap.size,0,none⟩)] trivial (enters_of Tryz.func49 (by kernel_rfl) rfl) _ _ (by unfold maxLen;omega) (by omega) _ hseq
 change CallsIn _ _ Tryz.prog 30 _ _ _ at cS
 refine (callsIn_wide.1 cS).mono ?_
 rintro e w' ⟨v,ss,rfl,hS,hrow,_,hb⟩
 have hbw:Below w.heap.size w (w.alloc (.cells #[.map (some m)] 55)):=(Below.refl _ w).alloc (Nat.le_refl _) _
 refine ⟨v,rfl,?_,hbw.trans (hb.mono (by simp))⟩
 rw [PM.sorted (d:=dkP n p) pm (dkP_ok hn hp) hown hS] at hrow
 have hlen:ss.length=((dkP n p).pens (dkP n p).n).length:=by
  have h1:=hS.length_eq
  have h2:=(PM.perm (d:=dkP n p) pm (dkP_ok hn hp) hown).length_eq
  rw [List.length_map] at h2
  omega
 rw [hlen] at hrow
 have hr0:=hrow
 show Ints w' w.heap.size v ((dkP n p).pens (dkP n p).n)
 rcases hrow.2 with ⟨rfl,hz⟩|⟨gb,cap,cur,rfl,hbase,hgb,r1,r2,r3,r4⟩
 ·exact ⟨none,0,by rw [hz],fun h=>absurd h (by omega)⟩
 ·refine ⟨_,cap,rfl,fun _=>⟨gb,rfl,by simp at hbase;omega,(Array.getElem?_eq_some_iff.1 hgb).1,fun j i hj=>?_⟩⟩
  have:=World.ownsRow.cells hr0 rfl j (.int .i64 (i:Int)) (by simp [hj])
  rw [bM,Nat.zero_add] at this
  exact this
end Go.Proofs.YtnllomcajijbjaaGreatDoor
