import Derived.Test.YtnllomcajijbjaaGreatDoorQp04
import Derived.Lib.ConvBytes
import Derived.Test.YtnllomcajijbjaaGreatDoorQp03
import Derived.Lib.SlBytesConst
import Derived.Test.YtnllomcajijbjaaGreatDoorQp01
import Derived.Test.YtnllomcajijbjaaGreatDoorQp02
set_option maxRecDepth 100000
set_option maxHeartbeats 4000000
namespace Go.Proofs.YtnllomcajijbjaaGreatDoor
open Go Go.RowKit
theorem Started.mem {w w':World} {m gi go:Nat} {zs:List Int} {S:List Nat} {rows:List (Nat×List Value×TypeId)} (h:MapHas w m (.agg (u8s zs).toArray) (.agg (begV gi go).toArray)) (hri:Row w gi (hrow (wsOf (padIn zs)) (restOf (padIn zs)) ((padIn zs).length:Int)) 168) (hro:Row w go (hrow (wsOf (padOut zs)) (restOf (padOut zs)) ((padOut zs).length:Int)) 168) (hm:Mem w S w' rows) (hS:∀g∈S,∃l t,Row w g l t∧t≠168):Started w' m zs:=by
 have hnot:∀k l,Row w k l 168→k ∉ S:=by
  intro k l hk hc
  obtain ⟨l',t,hr,ht⟩:=hS k hc
  unfold Row at hk hr
  rw [hk] at hr
  simp only [Option.some.injEq,Obj.cells.injEq] at hr
  exact ht hr.2.1.symm
 obtain ⟨es,c,hmap⟩:=h.isMap
 have hkeep:∀k l,Row w k l 168→Row w' k l 168:=by
  intro k l hk
  unfold Row
  rw [hm.block k hk.lt (hnot k l hk)]
  exact hk
 refine Or.inr ⟨gi,go,h.kept (hm.block m (Array.getElem?_eq_some_iff.1 hmap).1 (fun hc=>?_)),hkeep _ _ hri,hkeep _ _ hro⟩
 obtain ⟨l',t,hr,_⟩:=hS m hc
 unfold Row at hr
 rw [hmap] at hr
 cases hr
section
variable {P:Program} {ops:Array Oper} {rest:List Oper} {a:Act} {w w0:World} {dst:Option Tmp} {typ:TypeId} {pos:String} {aft:Array Edge} {S:List Nat} {rows:List (Nat×List Value×TypeId)}
theorem wpl_mkmap {Q:Exit→Act→World→Prop} {ty:TypeId} (hm:Mem w0 S w rows) (h:∀w' m,w'.heap[m]?=some (.map #[] 0)→w0.heap.size≤m→Mem w0 S w' rows→wpList P ops Q rest (a.put dst (.map (some m))) w') :
  wpList P ops Q ({dst:=dst,op:=.makeMap ty none,type:=typ,pos:=pos,after:=aft,guard:=none}::rest) a w:=by
 refine wpList_plain rfl fun K hK=>?_
 have hh:=hK _ _ (h (w.alloc (.map #[] 0)) w.heap.size (heap_alloc_new w _) hm.size (hm.allocO _))
 unfold Oper.wp execOp
 simp only [Option.map_none,run_makeMap,Sem.run_bind,Sem.run_pure,Result.andThen_ok]
 exact hh
theorem run_slo (w:World) {ty:TypeId} {elem:TypeId} (hu:P.underlying ty=some (.slice elem)) (hs:(P.info? elem).map (·.size)=some 1) {g o len cap:Nat} (l:Nat) (hl:l≤len) (hlc:l<cap) :
  (Instr.sliceAt ty (.slice (some ⟨g,o,none⟩) len cap) (some (.int .i64 (l:Int))) none none).run P w=.ok (.slice (some ⟨g,o+l,none⟩) (len - l) (cap - l)) w:=by
 cases hq:P.info? elem with
 | none=>simp [hq] at hs
 | some q =>
  have hs1:q.size=1:=by simpa [hq] using hs
  have hsz:(sizeOf elem).run P w=.ok 1 w:=by simp [sizeOf,typeInfo,hq,hs1]
  have bnd:(Instr.sliceBound (.int .i64 (l:Int)) len .sliceB).run P w=.ok l w:=by
   rw [run_sliceBound (P:=P) w .i64 (l:Int) len .sliceB (by omega) (by omega)]
   simp
  have hb:(Instr.sliceBounds true len cap (some (.int .i64 (l:Int))) none none).run P w=.ok (l,len,cap) w:=by
   simp [Instr.sliceBounds,bnd]
  have hne:¬cap=l:=by omega
  simp [Instr.sliceAt,Instr.slice,run_underlying hu,hb,hsz,hne,bM]
theorem wps_slo {Q:Act→Prop} {ty:TypeId} {x lo:Operand} {elem:TypeId} (hu:P.underlying ty=some (.slice elem)) (hs:(P.info? elem).map (·.size)=some 1) {g o len cap:Nat} (l:Nat) {il:Int} (hl:l≤len) (hlc:l<cap) (hx:a.eval x=.slice (some ⟨g,o,none⟩) len cap)
  (hlo:a.eval lo=.int .i64 il) (hil:il=(l:Int)) (h:wpStill P ops w Q rest (a.put dst (.slice (some ⟨g,o+l,none⟩) (len - l) (cap - l)))) :
  wpStill P ops w Q ({dst:=dst,op:=.slice ty x (some lo) none none,type:=typ,pos:=pos,after:=aft,guard:=none}::rest) a:=by
 subst hil
 refine gF rfl _ ?_ h
 unfold execOp
 simp only [hx,hlo,Option.map_some,Option.map_none,run_slo (P:=P) w hu hs l hl hlc,Sem.run_bind,Sem.run_pure,Result.andThen_ok]
end
def three (a b c:List Int):Nat→List Int
 | 0=>a
 | 1=>b
 | _=>c
def threeV (a b c:Value):Nat→Value
 | 0=>a
 | 1=>b
 | _=>c
theorem parts_ok {w:World} {g:Nat} {a b c:Value} {xa xb xc:List Int} {t:TypeId} (hr:Row w g [a,b,c] t) (ha:SlOld w a xa) (hb:SlOld w b xb) (hc:SlOld w c xc) (ba:Bytes xa) (bb:Bytes xb) (bc:Bytes xc) :
  ∀i,i<3→w.cell? ⟨g,0+i,none⟩=some (threeV a b c i)∧SlOld w (threeV a b c i) (three xa xb xc i)∧Bytes (three xa xb xc i):=by
 intro i hi
 have h:i=0∨i=1∨i=2:=by omega
 rcases h with rfl|rfl|rfl
 ·exact ⟨hr.cell 0,ha,ba⟩
 ·exact ⟨hr.cell 1,hb,bb⟩
 ·exact ⟨hr.cell 2,hc,bc⟩
theorem Mem.two {w0 w:World} {S:List Nat} {a b:Nat×List Value×TypeId} {rows:List (Nat×List Value×TypeId)} (hm:Mem w0 S w (a::b::rows)):Mem w0 S w [a,b]:=hm.sub (((List.nil_sublist rows).cons_cons b).cons_cons a)
theorem Mem.adoptAll {w0 w w':World} {S:List Nat} {R rows:List (Nat×List Value×TypeId)} (h4:Mem w0 S w R) (hm:Mem w [] w' rows):Mem w (R.map Prod.fst) w' (R++rows):=by
 refine ⟨hm.os,hm.tape,hm.output,hm.size,fun k hk _=>hm.block k hk (by simp),fun r hr=>?_,?_,fun r hr=>?_⟩
 ·rcases List.mem_append.1 hr with h|h
  ·exact (h4.row r h).below' hm.below
  ·exact hm.row r h
 ·rw [List.map_append,List.nodup_append]
  refine ⟨h4.nodup,hm.nodup,fun a ha b hb he=>?_⟩
  obtain ⟨q,hq,rfl⟩:=List.mem_map.1 ha
  obtain ⟨q',hq',rfl⟩:=List.mem_map.1 hb
  have h1:=(h4.row q hq).lt
  rcases hm.fresh q' hq' with h2|h2
  ·cases h2
  ·omega
 ·rcases List.mem_append.1 hr with h|h
  ·exact Or.inl (List.mem_map_of_mem h)
  ·rcases hm.fresh r h with h2|h2
   ·cases h2
   ·exact Or.inr h2
theorem expand_any (ks info:List Int) (v:Value) (N:Nat) (hkl:ks.length=32) (hkb:Bytes ks) (hib:Bytes info) (hil:info.length≤100000) (hN:N≤8160) (w:World) (ht:Tab w) (hv:SlOld w v info) :
  Calls Tryz.prog 87 #[.agg (u8s ks).toArray,v,.int .i64 (N:Int)] w fun e w'=>∃g,e=.returned (.slice (some ⟨g,0,none⟩) N N)∧w.heap.size≤g∧Row w' g (u8s (expandOf ks info N)) 5∧Below w.heap.size w w':=by
 obtain ⟨pi,ci,rfl,hci⟩:=hv.len
 have hm:=Mem.start w
 have hn0:¬(0 > (N:Int)):=by omega
 have hn1:¬((8160:Int)<(N:Int)):=by omega
 have HT:Hid _:=ht
 have HKL:Hid _:=hkl
 have HKB:Hid _:=hkb
 have HIB:Hid _:=hib
 have HV:Hid (SlOld w (.slice pi info.length ci) info):=hv
 have HU:Hid ((u8s ks).length=32):=by show _=_;rw [ab];exact hkl
 clear ht hkl hkb hib hv
 go_enter Tryz.func87,Tryz.ntmps87
 go_wp2_with (first
  | ((with_reducible refine aa (some 3) (.box 39 (.tmp 0)) ?_);refine aB (u8s ks) rfl hm ?_;clear hm;intro w1 g3 hm)
  | ((with_reducible refine aa (some 16) (.makeSlice 33 (.tmp 15) (.tmp 15)) ?_);go_must (refine eE _ aU _ bZ rfl N rfl rfl rfl rfl (by omega) hm ?_);clear hm;intro w2 g7 hm)
  | ((with_reducible refine aa (some 17) (.makeMap 164 none) ?_);refine wpl_mkmap hm ?_;clear hm;intro w3 m hm0 hmge hm;have HM0:Hid (Started w3 m ks):=Or.inl hm0;have HMG:Hid _:=hmge;clear hm0 hmge))

 replace hm:Mem w [] w3 [(g7,u8s (outAt ks info N 0),5),(g3,u8s ks,39)]:=by
  rw [outAt_zero]
  have e:u8s (List.replicate N 0)=List.replicate N (.int .u8 0):=by simp [u8s]
  rw [e]
  exact hm
 have hge7:w.heap.size≤g7:=by
  have h:=hm.fresh _ (List.mem_cons_self ..)
  simpa using h
 have HGE:Hid _:=hge7
 clear hge7
 go_loopw [9,10] (fun vl vd wr=>∃i:Nat,32 * i<N+32∧vd=.int .i64 ((32 * i:Nat):Int)∧SlOld wr vl (pieceOf ks info i)∧Hid (Started wr m ks)∧Mem w [] wr [(g7,u8s (outAt ks info N i),5),(g3,u8s ks,39)]) (fun _ vd _=>N+32 - (intOf vd).toNat)
 case atStart=>exact ⟨0,by omega,rfl,⟨none,0,rfl,Nat.le_refl _,fun h=>absurd h (by simp [pieceOf])⟩,HM0.out,hm⟩
 case round =>
  clear hm HM0
  obtain ⟨i,hi,rfl,hlast,HST,hm⟩:=hrel
  by_cases hlt:32 * i<N
  ·obtain ⟨pl,cl,rfl,hcl⟩:=hlast.len
   have hti:((32 * i:Nat):Int)<(N:Int):=by omega
   have HLA:Hid (SlOld wr (.slice pl (pieceOf ks info i).length cl) (pieceOf ks info i)):=hlast
   have HPB:Hid _:=jB ks info i
   have HPL:Hid _:=pieceOf_le ks info i
   have HP2:Hid (pieceOf ks info (i+1)=shaOf (padOut ks++shaOf (padIn ks++catN (three (pieceOf ks info i) info [(i:Int)+1]) 3))):=by
    show _=_
    rw [pieceOf,macOf]
    simp [catN,three]
   have HPN:Hid ((pieceOf ks info (i+1)).length=32):=dd ks info i
   have HOU:Hid (splice (u8s (outAt ks info N i)) (32 * i) (u8s ((pieceOf ks info (i+1)).take (Nat.min 32 (N - 32 * i))))=u8s (outAt ks info N (i+1))):=by
    show _=_
    have e:(pieceOf ks info (i+1)).take (Nat.min 32 (N - 32 * i))=(pieceOf ks info (i+1)).take (N - 32 * i):=by
     by_cases h:32≤N - 32 * i
     ·rw [show Nat.min 32 (N - 32 * i)=32 from Nat.min_eq_left h,List.take_of_length_le (by rw [HPN.out];omega),List.take_of_length_le (by rw [HPN.out];exact h)]
     ·rw [show Nat.min 32 (N - 32 * i)=N - 32 * i from Nat.min_eq_right (by omega)]
    rw [e,←outAt_step ks info N i hlt]
    simp [splice,u8s]
   have HOL:Hid ((u8s (outAt ks info N i)).length=N):=by show _=_;rw [ab,outAt_length]
   have hbn:((i+1:Nat):Int)<256:=by omega
   have HBN:Hid (Bytes [(i:Int)+1]):=by
    intro x hx
    simp only [List.mem_cons,List.not_mem_nil,or_false] at hx
    omega
   have hdv:((32 * i:Nat):Int).tdiv 32=(i:Int):=by rw [Int.tdiv_eq_ediv_of_nonneg (by omega)];omega
   have HDV:Hid (((i:Int)+1) % 256=((i+1:Nat):Int)):=by show _=_;omega
   have HW:Hid (32 * (i:Int)=((32 * i:Nat):Int)):=by show _=_;omega
   clear hlast
   go_wp2_with (first
    | ((with_reducible refine aa (some 29) (.load 39 (.tmp 3)) ?_);refine ay 1 hm rfl rfl _ aS rfl 32 az (HU.out) ?_)
    | (go_at_call 102;refine (under_any ks m HKL.out HKB.out _ (Tab.mem HT.out hm (by simp)) HST.out).mono ?_;rintro e w4 ⟨gi,go,rfl,hhas,hri,hro,hu⟩;obtain ⟨es,c,hmap⟩:=Started.isMap HST.out;have HHAS:Hid (MapHas w4 m (.agg (u8s ks).toArray) (.agg (begV gi go).toArray)):=hhas;have HRI:Hid (Row w4 gi (hrow (wsOf (padIn ks)) (restOf (padIn ks)) ((padIn ks).length:Int)) 168):=hri;have HRO:Hid (Row w4 go (hrow (wsOf (padOut ks)) (restOf (padOut ks)) ((padOut ks).length:Int)) 168):=hro;have HLB:Hid (SlOld w4 (.slice pl (pieceOf ks info i).length cl) (pieceOf ks info i)):=SlOld.updMap HLA.out hmap hu;have HV4:Hid (SlOld w4 (.slice pi info.length ci) info):=SlOld.updMap (SlOld.mem HV.out hm) hmap hu;have hm4:=hm.updO hmap (Or.inr HMG.out) hu;clear hm hu hmap hhas hri hro;have HM4:Hid (Mem w [] w4 [(g7,u8s (outAt ks info N i),5),(g3,u8s ks,39)]):=hm4;clear hm4;have hm:=Mem.start w4;have HT4:Hid (Tab w4):=Tab.mem HT.out HM4.out (by simp))
    | ((with_reducible refine aa (some 34) (.buildSlice 33 1 #[(0,.tmp 33)]) ?_);go_must (refine gm rfl (.int .u8 0) (.int .u8 ((i:Int)+1)) aU eV rfl rfl rfl hm ?_);clear hm;intro w5 g5 hb5 hm;clear hb5;replace hm:Mem w4 [] w5 [(g5,u8s [(i:Int)+1],5)]:=hm)
    | ((with_reducible refine aa (some 35) (.buildSlice 134 3 #[(0,.tmp 31),(1,.tmp 32),(2,.tmp 34)]) ?_);go_must (refine wpl_bsl3 (.slice none 0 0) (.slice pl (pieceOf ks info i).length cl) (.slice pi info.length ci) (.slice (some ⟨g5,0,none⟩) 1 1) un_bss info_bs rfl rfl rfl rfl rfl rfl rfl hm ?_);clear hm;intro w6 g6 hb6 hm;clear hb6)
    | (go_at_call 71;refine (code_any gi go (padIn ks) (padOut ks) (ip HKB.out) (gk HKB.out) (by rw [fQ];omega) g6 0 3 3 (threeV (.slice pl (pieceOf ks info i).length cl) (.slice pi info.length ci) (.slice (some ⟨g5,0,none⟩) 1 1)) (three (pieceOf ks info i) info [(i:Int)+1]) (by have:=HPL.out;rw [gu];simp [catN,three];omega) (by omega) _ (Tab.mem HT4.out hm (by simp)) (HRI.out.below' hm.below) (HRO.out.below' hm.below) (parts_ok (hm.get 0 rfl) (SlOld.mem HLB.out hm) (SlOld.mem HV4.out hm) (bB (hm.get 1 rfl) rfl (Nat.le_refl _)) HPB.out HIB.out HBN.out)).mono ?_;rintro e w7 ⟨rfl,hb⟩;rw [←HP2.out];replace hm:=hm.call hb;clear hb)
    | ((with_reducible refine aa (some 12) (.alloc 38) ?_);refine aj _ cd hm ?_;clear hm;intro w8 g12 hm)
    | ((with_reducible refine aa none (.store 38 (.tmp 12) (.tmp 36)) ?_);refine ap 0 (u8s (pieceOf ks info (i+1))) hm rfl rfl rfl 32 b8 (by simp [ab]) (by rw [ab];exact HPN.out) (aq _) ?_;clear hm;intro w9 hm))

   have HNS:Hid (∀g∈[g7,g3],∃l t,Row w4 g l t∧t≠168):=by
    intro g hg
    have h:g=g7∨g=g3:=by simpa using hg
    rcases h with rfl|rfl
    ·exact ⟨_,_,HM4.out.get 0 rfl,by decide⟩
    ·exact ⟨_,_,HM4.out.get 1 rfl,by decide⟩
   have hmA:=HM4.out.adoptAll hm
   clear hm
   replace hmA:Mem w4 [g7,g3] w9 [(g7,u8s (outAt ks info N i),5),(g3,u8s ks,39),(g12,u8s (pieceOf ks info (i+1)),38),(g6,[.slice pl (pieceOf ks info i).length cl,.slice pi info.length ci,.slice (some ⟨g5,0,none⟩) 1 1],33),(g5,u8s [(i:Int)+1],5)]:=hmA
   refine cG 4 (by kernel_rfl) (by kernel_rfl) hmA ?_
   clear hmA
   intro w10 hm
   simp only [List.take_succ_cons,List.take_zero,List.drop_succ_cons,List.drop_zero]
   still_step
   still_step
   refine wps_slo aU be (32 * i) (by omega) (by omega) rfl rfl (by omega) ?_
   still_step
   refine wpStill_nil ?_
   go_wp2_with (first
    | ((with_reducible refine aa (some 41) (.call {callee:=.builtin .copy,args:=#[.tmp 39,.tmp 40],argTypes:=#[33,33]}) ?_);go_must (refine cZ 0 (pieceOf ks info (i+1)) (Nat.min 32 (N - 32 * i)) (u8s (outAt ks info N (i+1))) hm rfl rfl rfl _ aU be (bB (hm.get 2 rfl) HPN.out (Nat.le_refl _)) rfl (by rw [HOL.out];have:Nat.min 32 (N - 32 * i)≤N - 32 * i:=Nat.min_le_right _ _;omega) HOU.out ?_);clear hm;intro w11 hm))

   have HM5:Hid (Mem w [] w11 [(g7,u8s (outAt ks info N (i+1)),5),(g3,u8s ks,39)]):=HM4.out.trans (Mem.two hm)
   have HST5:Hid (Started w11 m ks):=Started.mem HHAS.out HRI.out HRO.out hm HNS.out
   have HLA5:Hid (SlOld w11 (.slice (some ⟨g12,0,none⟩) 32 32) (pieceOf ks info (i+1))):=bB (hm.get 2 rfl) HPN.out (Nat.le_refl _)
   clear hm
   go_roundw
   case rel=>exact ⟨i+1,by omega,by go_num,HLA5.out,HST5.out,HM5.out⟩
   case measure=>simp [intOf];omega
  ·have hti:¬((32 * i:Nat):Int)<(N:Int):=by omega
   rw [outAt_full ks info N i (by omega)] at hm
   clear hlast HST
   go_wp2_with fail
   go_ret
   exact ⟨g7,rfl,HGE.out,hm.get 0 rfl,hm.below⟩
end Go.Proofs.YtnllomcajijbjaaGreatDoor
namespace Go.Proofs.YtnllomcajijbjaaGreatDoor
open Go Go.RowKit
theorem un_strT:Tryz.prog.underlying 9=some .string:=Tryz.underlying9
theorem wpl_slo {P:Program} {ops:Array Oper} {rest:List Oper} {a:Act} {w:World} {dst:Option Tmp} {typ:TypeId} {pos:String} {aft:Array Edge} {Q:Exit→Act→World→Prop} {ty:TypeId} {x lo:Operand} {elem:TypeId} (hu:P.underlying ty=some (.slice elem)) (hs:(P.info? elem).map (·.size)=some 1) {g o len cap:Nat} (l o' m c:Nat) (ho:o+l=o') (hm:len - l=m) (hc:cap - l=c) {il:Int} (hl:l≤len) (hlc:l<cap) (hx:a.eval x=.slice (some ⟨g,o,none⟩) len cap)
  (hlo:a.eval lo=.int .i64 il) (hil:il=(l:Int)) (h:wpList P ops Q rest (a.put dst (.slice (some ⟨g,o',none⟩) m c)) w) :
  wpList P ops Q ({dst:=dst,op:=.slice ty x (some lo) none none,type:=typ,pos:=pos,after:=aft,guard:=none}::rest) a w:=by
 subst hil ho hm hc
 refine wpList_plain rfl fun K hK=>?_
 have hh:=hK _ _ h
 unfold Oper.wp execOp
 simp only [hx,hlo,Option.map_some,Option.map_none,run_slo (P:=P) w hu hs l hl hlc,Sem.run_bind,Sem.run_pure,Result.andThen_ok]
 exact hh
theorem held_four (w:World) :
  Calls Tryz.prog 66 #[.int .i64 4] w fun e w'=>e=.returned (.int .i64 4)∧w'=w:=by
 go_enter Tryz.func66,Tryz.ntmps66
 go_wp2
 go_ret
 exact ⟨rfl,rfl⟩
theorem longer_four (zs:List Int) (v:Value) (hzl:zs.length≤60000) (w:World) (hv:SlOld w v zs) :
  Calls Tryz.prog 67 #[v,.int .i64 4] w fun e w'=>∃g,e=.returned (.slice (some ⟨g,0,none⟩) (zs.length+4) (zs.length+4))∧w.heap.size≤g∧Row w' g (u8s (zs++[0,0,0,0])) 5∧Below w.heap.size w w':=by
 obtain ⟨p,cap,rfl,hcap⟩:=hv.len
 have hm:=Mem.start w
 have HV:Hid (SlOld w (.slice p zs.length cap) zs):=hv
 have HNE:Hid (splice (List.replicate (zs.length+4) (.int .u8 0)) 0 (u8s (zs.take zs.length))=u8s (zs++[0,0,0,0])):=by
  show _=_
  have e:List.replicate (zs.length+4) (Value.int .u8 0)=u8s (List.replicate (zs.length+4) 0):=by simp [u8s]
  rw [List.take_of_length_le (Nat.le_refl _),e,cn zs (zs.length+4),show zs.length+4 - zs.length=4 by omega]
  rfl
 have HMI:Hid (zs.length=Nat.min zs.length (zs.length+4)):=(Nat.min_eq_left (by omega)).symm
 clear hv
 go_enter Tryz.func67,Tryz.ntmps67
 go_wp2_with (first
  | ((with_reducible refine aa (some 10) (.makeSlice 33 (.tmp 9) (.tmp 9)) ?_);go_must (refine eE _ aU _ bZ rfl (zs.length+4) rfl (by first|rfl|omega|go_num) rfl (by first|rfl|omega|go_num) (by omega) hm ?_);clear hm;intro w1 g hm)
  | ((with_reducible refine aa (some 13) (.call {callee:=.builtin .copy,args:=#[.tmp 11,.tmp 12],argTypes:=#[33,33]}) ?_);go_must (refine cZ 0 zs zs.length (u8s (zs++[0,0,0,0])) hm rfl rfl rfl _ aU be (SlOld.mem HV.out hm) HMI.out (by simp) HNE.out ?_);clear hm;intro w2 hm))
 go_ret
 have hf:=hm.fresh _ (List.mem_cons_self ..)
 exact ⟨g,rfl,by simpa using hf,hm.get 0 rfl,hm.below⟩
theorem set_four (zs:List Int) (a b c d:Int):((((u8s (zs++[0,0,0,0])).set (zs.length+3) (.int .u8 d)).set (zs.length+2) (.int .u8 c)).set (zs.length+1) (.int .u8 b)).set (zs.length+0) (.int .u8 a)=u8s (zs++[a,b,c,d]):=by
 rw [bT,bT,bT,bT]
 simp [u8s,List.set_append_right]
theorem jf (g:Nat) (zs:List Int) (n:Int) (w:World) (hr:Row w g (u8s (zs++[0,0,0,0])) 5) :
  Calls Tryz.prog 68 #[.slice (some ⟨g,zs.length,none⟩) 4 4,.int .u64 n] w fun e w'=>e=.returned (.tuple #[])∧Row w' g (u8s (zs++be4 n)) 5∧Upd g w w':=by
 have hm:=Mem.enter hr
 have HLN:Hid (((u8s (zs++[0,0,0,0])).length=zs.length+4)):=by show _=_;simp [ab]
 clear hr
 go_enter Tryz.func68,Tryz.ntmps68
 go_wp2_with fail
 refine wp_loop_rounds 5 ?_
 iterate 5 (rw [rounds_succ];go_wp2_with (first
  | (((with_reducible refine aa none (.store 5 (.tmp 16) (.tmp 15)) ?_);refine bm 0 _ _ hm rfl (rfl) rfl be (by first|(rw [HLN.out];omega)|(simp only [List.length_set];rw [HLN.out];omega)) rfl rfl ?_;clear hm;intro w9 hm))))
 go_end0
 have hrow:=hm.get 0 rfl
 exact ⟨rfl,by have e:=set_four zs (n / 256 / 256 / 256 % 256) (n / 256 / 256 % 256) (n / 256 % 256) (n % 256);rw [show be4 n=[n / 256 / 256 / 256 % 256,n / 256 / 256 % 256,n / 256 % 256,n % 256] from rfl,←e];exact hrow,hm.toUpd⟩
theorem put_four (zs:List Int) (v:Value) (n:Int) (hzl:zs.length≤60000) (w:World) (hv:SlOld w v zs) :
  Calls Tryz.prog 55 #[v,.int .u64 n,.int .i64 4] w fun e w'=>∃g,e=.returned (.slice (some ⟨g,0,none⟩) (zs.length+4) (zs.length+4))∧w.heap.size≤g∧Row w' g (u8s (zs++be4 n)) 5∧Below w.heap.size w w':=by
 obtain ⟨p,cap,rfl,hcap⟩:=hv.len
 have hm:=Mem.start w
 have HV:Hid (SlOld w (.slice p zs.length cap) zs):=hv
 clear hv
 go_enter Tryz.func55,Tryz.ntmps55
 go_wp2_with (first
  | (go_at_call 66;refine (held_four _).mono ?_;rintro e w1 ⟨rfl,rfl⟩)
  | (go_at_call 67;refine (longer_four zs _ hzl _ HV.out).mono ?_;rintro e w2 ⟨g,rfl,hge,hr,hb⟩;have HGE:Hid _:=hge;have HR:Hid (Row w2 g (u8s (zs++[0,0,0,0])) 5):=hr;have HBL:Hid _:=hb;clear hge hr hb)
  | ((with_reducible refine aa (some 17) (.slice 33 (.tmp 14) (some (.tmp 16)) none none) ?_);go_must (refine wpl_slo aU be zs.length zs.length 4 4 (by omega) (by omega) (by omega) (by omega) (by omega) rfl rfl rfl ?_))
  | (go_at_call 68;refine (jf g zs n _ HR.out).mono ?_;rintro e w3 ⟨rfl,hr2,hu⟩;have HR2:Hid (Row w3 g (u8s (zs++be4 n)) 5):=hr2;have HU2:Hid (Upd g w2 w3):=hu;clear hr2 hu))
 go_ret
 exact ⟨g,rfl,HGE.out,HR2.out,fv HBL.out HU2.out HGE.out HBL.out.size⟩
def strB (s:ByteArray):List Int:=s.data.toList.map fun b=>(b.toNat:Int)
theorem cW (s:ByteArray):(strB s).length=s.size:=by
 simp only [strB,List.length_map,Array.length_toList]
 rfl
theorem strB_bytes (s:ByteArray):Bytes (strB s):=by
 intro x hx
 obtain ⟨b,_,rfl⟩:=List.mem_map.1 hx
 have:=b.toNat_lt
 omega
theorem str_old (w:World) (e:TypeId) (s:ByteArray):SlOld (Lib.bytesWorld w e s) (.slice (some ⟨w.heap.size,0,none⟩) s.size (grownCap w s.size 0 e)) (strB s):=by
 refine ⟨_,_,by rw [cW],by rw [cW];exact grownCap_ge _ _ _ _,fun _=>⟨w.heap.size,0,rfl,fun j hj=>?_⟩⟩
 rw [cW] at hj
 have hj2:j<s.data.size:=hj
 rw [Nat.zero_add,Lib.bytesWorld_cell w e s j hj]
 simp [strB,Array.getElem?_eq_getElem hj2]
theorem str_below (w:World) (e:TypeId) (s:ByteArray):Below w.heap.size w (Lib.bytesWorld w e s) :=
 ⟨rfl,rfl,rfl,by rw [Lib.bytesWorld_size];omega,fun k hk=>Lib.bytesWorld_at_old w e s k hk⟩
theorem hO (n:Int) (h0:0≤n) (h1:n<4294967296):IntKind.u64.wrap n=n:=by
 simp [IntKind.wrap,IntKind.bits,IntKind.signed]
 omega
theorem wpl_strb {P:Program} {ops:Array Oper} {rest:List Oper} {a:Act} {w w0:World} {dst:Option Tmp} {typ:TypeId} {pos:String} {aft:Array Edge} {S:List Nat} {rows:List (Nat×List Value×TypeId)} {Q:Exit→Act→World→Prop} {st bt e:TypeId} {x:Operand} (hs:P.underlying st=some .string) (hd:P.underlying bt=some (.slice e)) (he:P.underlying e=some (.int .u8)) (s:ByteArray) (hx:a.eval x=.string s) (hm:Mem w0 S w rows)
  (h:∀w' g c,Below w.heap.size w w'→Mem w0 S w' rows→SlOld w' (.slice (some ⟨g,0,none⟩) s.size c) (strB s)→wpList P ops Q rest (a.put dst (.slice (some ⟨g,0,none⟩) s.size c)) w') :
  wpList P ops Q ({dst:=dst,op:=.convert st bt x,type:=typ,pos:=pos,after:=aft,guard:=none}::rest) a w:=by
 refine wpList_plain rfl fun K hK=>?_
 have hh:=hK _ _ (h _ _ _ (str_below w e s) (hm.call (str_below w e s)) (str_old w e s))
 unfold Oper.wp execOp
 simp only [hx,Lib.run_convert_string_bytes (P:=P) w st bt e s hs hd he,Sem.run_bind,Sem.run_pure,Result.andThen_ok]
 exact hh
theorem jn (ks:List Int) (s:ByteArray) (n:Int) (hkl:ks.length=32) (hkb:Bytes ks) (hsl:s.size≤50000) (hn:0≤n∧n<4294967296) (w:World) (ht:Tab w) :
  Calls Tryz.prog 64 #[.agg (u8s ks).toArray,.string s,.int .u32 n] w fun e w'=>e=.returned (.agg (u8s (deriveOf ks (strB s) n)).toArray)∧Below w.heap.size w w':=by
 obtain ⟨hn0,hn1⟩:=hn
 have hm:=Mem.start w
 have HT:Hid _:=ht
 have HKL:Hid _:=hkl
 have HKB:Hid _:=hkb
 have HSL:Hid ((strB s).length≤50000):=by show _≤_;rw [cW];exact hsl
 have HIB:Hid (Bytes (strB s++be4 n)):=(strB_bytes s).append (be4_bytes n)
 have HU:Hid ((u8s ks).length=32):=by show _=_;rw [ab];exact hkl
 have HDL:Hid ((u8s (deriveOf ks (strB s) n)).length=32):=by show _=_;rw [ab,bW]
 have HSZ:Hid (s.size+4=(strB s++be4 n).length):=by show _=_;rw [List.length_append,cW,du]
 have HNE:Hid (splice (u8s (List.replicate 32 0)) 0 (u8s ((deriveOf ks (strB s) n).take 32))=u8s (deriveOf ks (strB s) n)):=by
  show _=_
  rw [List.take_of_length_le (by rw [bW];exact Nat.le_refl _)]
  exact eU _ _ (by rw [ab,ab,bW];simp)
 clear ht hkl hkb hsl
 go_enter Tryz.func64,Tryz.ntmps64
 go_wp2_with (first
  | ((with_reducible refine aa (some 3) (.box 39 (.tmp 0)) ?_);refine aB (u8s ks) rfl hm ?_;clear hm;intro w1 g3 hm)
  | ((with_reducible refine aa (some 6) (.alloc 39) ?_);refine aj _ bd hm ?_;clear hm;intro w2 g6 hm)
  | ((with_reducible refine aa (some 7) (.alloc 39) ?_);refine aj _ bd hm ?_;clear hm;intro w3 g7 hm))

 refine au ?_
 refine a6 (T:=fun W=>Mem w [] W [(g3,u8s ks,39)]) (by kernel_rfl) hm ?_
 clear hm
 intro w4 hm
 refine aT 0 (v:=.slice (some ⟨g7,0,none⟩) 32 32) rfl (by kernel_rfl) rfl (fun W _=>by go_simp) hm.tail.tail ?_
 go_simp
 refine aT 1 (v:=.agg (u8s ks).toArray) rfl (by kernel_rfl) rfl (fun W hW=>bJ 0 _ (Mem.get hW 0 rfl) rfl _ aS rfl 32 az (by rw [HU.out];omega) (by rw [List.drop_zero,List.take_of_length_le (Nat.le_of_eq HU.out)])) hm.tail.tail ?_
 go_simp
 refine aT 2 (v:=.string s) rfl (by kernel_rfl) rfl (fun W _=>by go_simp) hm.tail.tail ?_
 go_simp
 refine aT 4 (v:=.int .u32 n) rfl (by kernel_rfl) rfl (fun W _=>by go_simp) hm.tail.tail ?_
 go_simp
 refine aT 5 (v:=.int .u64 n) rfl (by kernel_rfl) rfl (fun W _=>by go_simp;exact hO n hn0 hn1) hm.tail.tail ?_
 go_simp
 refine aP 3 (by kernel_rfl) rfl rfl ?_
 intro K hK
 refine wpl_strb un_strT aU cy s rfl hm ?_
 clear hm
 intro w5 g11 c11 hb5 hm hold
 have HOL:Hid (SlOld w5 (.slice (some ⟨g11,0,none⟩) s.size c11) (strB s)):=hold
 clear hb5 hold
 refine wpList_nil ?_
 refine hK _ _ hm.tail.tail ?_
 clear hK K
 refine aP 6 (by kernel_rfl) rfl rfl ?_
 intro K hK
 go_wp2_with (go_at_call 55;refine (put_four (strB s) _ n (Nat.le_trans HSL.out (by omega)) _ HOL.out).mono ?_;rintro e w6 ⟨g14,rfl,hge,hr,hb⟩;replace hm:=hm.callNew hb hr hge;clear hb hr hge)
 refine hK _ _ hm.tail.tail.tail ?_
 clear hK K
 refine aP 7 (by kernel_rfl) rfl rfl ?_
 intro K hK
 go_wp2_with (go_at_call 87;refine (expand_any ks (strB s++be4 n) _ 32 HKL.out HKB.out HIB.out (by rw [←HSZ.out];have:=HSL.out;rw [cW] at this;omega) (by omega) _ (Tab.mem HT.out hm (by simp)) (bB (hm.get 0 rfl) (by rw [List.length_append,du]) (Nat.le_refl _))).mono ?_;rintro e w7 ⟨g15,rfl,hge,hr,hb⟩;rw [deriveOf_eq] at hr;replace hm:=hm.callNew hb hr hge;clear hb hr hge)
 refine hK _ _ hm.tail.tail.tail.tail ?_
 clear hK K
 refine aP 8 (by kernel_rfl) rfl rfl ?_
 intro K hK
 refine cZ 2 (deriveOf ks (strB s) n) 32 (u8s (deriveOf ks (strB s) n)) hm rfl rfl rfl _ aU be (bB (hm.get 0 rfl) (bW _ _ _) (Nat.le_refl _)) rfl (by simp [ab]) HNE.out ?_
 clear hm
 intro w8 hm
 refine wpList_nil ?_
 refine hK _ _ hm.tail.tail.tail.tail ?_
 clear hK K
 refine wpAnyH_done (by kernel_rfl) ?_ _
 simp only [endsIn]
 go_wp2_with (first
  | ((with_reducible refine aa (some 17) (.load 39 (.tmp 7)) ?_);refine ay 2 hm rfl rfl _ aS rfl 32 az (HDL.out) ?_)
  | ((with_reducible refine aa none (.store 39 (.tmp 6) (.tmp 17)) ?_);refine ap 3 (u8s (deriveOf ks (strB s) n)) hm rfl rfl rfl 32 az (by simp [ab]) (HDL.out) (aq _) ?_;clear hm;intro w9 hm))

 exact aJ 3 hm rfl Tryz.results64 rfl _ aS rfl 32 az HDL.out rfl ⟨rfl,hm.below⟩
open Go Go.RowKit
end Go.Proofs.YtnllomcajijbjaaGreatDoor
namespace Go.Proofs.YtnllomcajijbjaaGreatDoor
open Go Go.RowKit
theorem eg_key:Tryz.prog.eqGuardType Tryz.prog.depth 39=false:=by kernel_rfl
theorem wpl_cvc {P:Program} {ops:Array Oper} {rest:List Oper} {a:Act} {w w0:World} {dst:Option Tmp} {typ:TypeId} {pos:String} {aft:Array Edge} {gd:Option (Nat×Bool)} {S:List Nat} {rows:List (Nat×List Value×TypeId)} {Q:Exit→Act→World→Prop} {t e:TypeId} {x:Operand} (cs:List Int) (hw:Region.wanted {dst:=dst,op:=.convert t t x,type:=typ,pos:=pos,after:=aft,guard:=gd} (yielded ops a.tmps)=true) (ht:P.underlying t=some (.slice e)) (he:P.underlying e=some (.int .u8)) {n:Nat} (hx:a.eval x=.slice (some ⟨w.heap.size,0,none⟩) n n) (hn:n=cs.length) (hm:Mem w0 S w rows)
  (h:∀w' g,Below w.heap.size w w'→Mem w0 S w' rows→SlOld w' (.slice (some ⟨g,0,none⟩) n n) cs→wpList P ops Q rest (a.put dst (.slice (some ⟨g,0,none⟩) n n)) w') :
  wpList P ops Q ({dst:=dst,op:=.convert t t x,type:=typ,pos:=pos,after:=aft,guard:=gd}::rest) a (w.alloc (.cells (u8s cs).toArray e)):=by
 subst hn
 have hb:Below w.heap.size w (w.alloc (.cells (u8s cs).toArray e ((u8s cs).toArray.size,(u8s cs).toArray.size+1))):=(Below.refl _ _).alloc (Nat.le_refl _) _
 refine wpList_step fun K hK=>?_
 rw [if_pos hw]
 have hh:=hK _ _ (h _ w.heap.size hb (hm.call hb) ⟨_,_,rfl,Nat.le_refl _,fun _=>⟨w.heap.size,0,rfl,Seg.newO w cs e _⟩⟩)
 unfold Oper.wp execOp
 simp only [hx,Lib.run_convert_bytes_const (P:=P) w t e (u8s cs).toArray cs.length cs.length ht he,Sem.run_bind,Sem.run_pure,Result.andThen_ok]
 exact hh
end Go.Proofs.YtnllomcajijbjaaGreatDoor
namespace Go.Proofs.YtnllomcajijbjaaGreatDoor
open Go Go.RowKit
theorem OwnB.row {e:TypeId} {w:World} {base:Nat} {v:Value} {zs:List Int} (h:OwnB e w base v zs) (h0:0<zs.length):∃g cap l,v=.slice (some ⟨g,0,none⟩) zs.length cap∧base≤g∧Row w g (u8s zs++l) e∧zs.length≤cap:=by
 obtain ⟨_,h2⟩:=h
 rcases h2 with ⟨_,hn⟩|⟨g,cap,cur,rfl,hb,hh,hn,_,_,ht⟩
 ·omega
 ·refine ⟨g,cap,cur.toList.drop zs.length,rfl,hb,?_,hn⟩
  unfold Row
  rw [hh,←ht,Nat.mul_one,List.take_append_drop]
end Go.Proofs.YtnllomcajijbjaaGreatDoor
namespace Go.Proofs.YtnllomcajijbjaaGreatDoor
open Go Go.RowKit
open Go Go.RowKit
theorem wrapi (x:Int) (h0:0≤x) (h1:x<4611686018427387904):IntKind.i64.wrap x=x:=by
 simp [IntKind.wrap,IntKind.bits,IntKind.signed]
 split<;>omega
structure St (w4 w:World) (v:Value) (zs:List Int) (bs:Option (Nat×List Int)) (al:Option Nat):Prop where
 mem:Mem w4 [] w []
 own:OwnB 5 w w4.heap.size v zs
 bld:∀p,bs=some p→Row w p.1 (u8s p.2) 5∧v.ownBlock≠some p.1
 alc:∀g,al=some g→Row w g (u8s (List.replicate 32 0)) 38∧w4.heap.size≤g
section
variable {w4 w w':World} {v v':Value} {zs ys:List Int} {bs:Option (Nat×List Int)} {al:Option Nat}
theorem St.start (w:World):St w w (.slice none 0 0) [] none none:=⟨Mem.start w,OwnB.nil _ _ _,by simp,by simp⟩
theorem St.below (st:St w4 w v zs bs al) (hb:Below w.heap.size w w'):St w4 w' v zs bs al :=
 ⟨st.mem.call hb,st.own.below hb,fun p hp=>⟨(st.bld p hp).1.below' hb,(st.bld p hp).2⟩,fun g hg=>⟨(st.alc g hg).1.below' hb,(st.alc g hg).2⟩⟩
theorem St.grown (st:St w4 w v zs bs al) (ho:OwnB 5 w' w4.heap.size v' (zs++ys)) (hg:w.grownBy w' v.ownBlock) (hv:v'.ownBlock=v.ownBlock∨v'.ownBlock=some w.heap.size):St w4 w' v' (zs++ys) bs al:=by
 refine ⟨st.mem.grown st.own (fun r hr=>by cases hr) hg,ho,fun p hp=>?_,fun g hq=>?_⟩
 ·obtain ⟨h1,h2⟩:=st.bld p hp
  refine ⟨?_,?_⟩
  ·unfold Row
   rw [hg.block p.1 h1.lt (fun he=>h2 he.symm)]
   exact h1
  ·rcases hv with hv|hv
   ·rw [hv];exact h2
   ·rw [hv]
    intro he
    have:=h1.lt
    simp only [Option.some.injEq] at he
    omega
 ·obtain ⟨h1,h2⟩:=st.alc g hq
  refine ⟨?_,h2⟩
  unfold Row
  rw [hg.block g h1.lt (fun he=>st.own.apart h1 (by decide) he.symm)]
  exact h1
theorem St.newRow (st:St w4 w v zs none al) (ys:List Int):St w4 (w.alloc (.cells (u8s ys).toArray 5)) v zs (some (w.heap.size,ys)) al:=by
 have hb:Below w.heap.size w (w.alloc (.cells (u8s ys).toArray 5)):=(Below.refl _ _).alloc (Nat.le_refl _) _
 have s2:=st.below hb
 refine ⟨s2.mem,s2.own,fun p hp=>?_,s2.alc⟩
 obtain rfl:=Option.some.inj hp
 refine ⟨Row.new w _ _,fun he=>?_⟩
 have:=(World.ownsRow.lt st.own _ he).2
 simp at this
theorem St.newVar (st:St w4 w v zs bs none):St w4 (w.alloc (.cells (u8s (List.replicate 32 0)).toArray 38)) v zs bs (some w.heap.size):=by
 have hb:Below w.heap.size w (w.alloc (.cells (u8s (List.replicate 32 0)).toArray 38)):=(Below.refl _ _).alloc (Nat.le_refl _) _
 have s2:=st.below hb
 refine ⟨s2.mem,s2.own,s2.bld,fun g hg=>?_⟩
 obtain rfl:=Option.some.inj hg
 exact ⟨Row.new w _ _,st.mem.size⟩
end
section
variable {ops:Array Oper} {rest:List Oper} {a:Act} {w w4:World} {Q:Exit→Act→World→Prop} {dst:Option Tmp} {typ:TypeId} {pos:String} {aft:Array Edge} {v:Value} {zs:List Int} {bs:Option (Nat×List Int)} {al:Option Nat}
end
open Go Go.RowKit
def i64s (l:List Int):List Value:=l.map (Value.int .i64)
theorem iq (l:List Int):(i64s l).length=l.length:=by simp [i64s]
theorem i64s_get (l:List Int) (i:Nat) (h:i<l.length):(i64s l)[i]?=some (.int .i64 (l.getD i 0)):=by
 simp [i64s,h]
theorem i64s_one (l:List Int):∀v∈i64s l,v.oneCell'=true:=by
 intro v hv;simp [i64s] at hv;obtain ⟨x,_,rfl⟩:=hv;rfl
section
variable {P:Program}
theorem d5 (w:World) (g off n:Nat) (ty:TypeId) (cs:List Value) (d:TypeDesc) (hc:∀j v,cs[j]?=some v→w.cell? ⟨g,off+j,none⟩=some v) (hu:P.underlying ty=some d)
  (hd:(match d with | .struct _ | .array _ _=>true|_=>false)=true) (hi:(P.info? ty).map (·.size)=some n) (hn:cs.length=n) :
  (loadVar ty ⟨g,off,none⟩).run P w=.ok (.agg cs.toArray) w:=by
 have hl:(loadCells ⟨g,off,none⟩ cs.length).run P w=.ok cs.toArray w :=
  run_loadCells_list (P:=P) w ⟨g,off,none⟩ cs (fun j v hv=>by rw [bM];exact hc j v hv)
 rw [hn] at hl
 cases hq:P.info? ty with
 | none=>simp [hq] at hi
 | some i =>
  have hs:i.size=n:=by simpa [hq] using hi
  have hagg:(isAgg ty).run P w=.ok true w:=by
   unfold isAgg
   rw [Sem.run_bind,run_underlying hu w]
   cases d<;>simp_all
  simp [loadVar,Sem.run_bind,hagg,sizeOf,typeInfo,hq,hs,hl]
theorem run_slo2 (w:World) {ty:TypeId} {elem:TypeId} (hu:P.underlying ty=some (.slice elem)) (hs:(P.info? elem).map (·.size)=some 1) {g o len cap:Nat} (l:Nat) (hl:l≤len) (hlc:l<cap) :
  (Instr.sliceAt ty (.slice (some ⟨g,o,none⟩) len cap) (some (.int .i64 (l:Int))) none none).run P w=.ok (.slice (some ⟨g,o+l,none⟩) (len - l) (cap - l)) w:=by
 cases hq:P.info? elem with
 | none=>simp [hq] at hs
 | some q =>
  have hs1:q.size=1:=by simpa [hq] using hs
  have hsz:(sizeOf elem).run P w=.ok 1 w:=by simp [sizeOf,typeInfo,hq,hs1]
  have bnd:(Instr.sliceBound (.int .i64 (l:Int)) len .sliceB).run P w=.ok l w:=by
   rw [run_sliceBound (P:=P) w .i64 (l:Int) len .sliceB (by omega) (by omega)]
   simp
  have hb:(Instr.sliceBounds true len cap (some (.int .i64 (l:Int))) none none).run P w=.ok (l,len,cap) w:=by
   simp [Instr.sliceBounds,bnd]
  have hne:¬cap=l:=by omega
  simp [Instr.sliceAt,Instr.slice,run_underlying hu,hb,hsz,hne,bM]
theorem run_sla3 (w:World) {ty:TypeId} {n:Nat} {elem:TypeId} (hu:P.underlying ty=some (.array n elem)) (hs:(P.info? elem).map (·.size)=some 1) (g o l m c:Nat) (hlm:l+m≤c) (hln:l<c) (hcn:c≤n) :
  (Instr.sliceAt ty (.pointer (some ⟨g,o,none⟩)) (some (.int .i64 (l:Int))) (some (.int .i64 ((l+m:Nat):Int))) (some (.int .i64 (c:Int)))).run P w=.ok (.slice (some ⟨g,o+l,none⟩) m (c - l)) w:=by
 cases hq:P.info? elem with
 | none=>simp [hq] at hs
 | some q =>
  have hs1:q.size=1:=by simpa [hq] using hs
  have hsz:(sizeOf elem).run P w=.ok 1 w:=by simp [sizeOf,typeInfo,hq,hs1]
  have hne:¬c=l:=by omega
  have bnd:∀(j y:Nat) (code:BoundsCode),j≤y→(Instr.sliceBound (.int .i64 (j:Int)) y code).run P w=.ok j w:=by
   intro j y code hj
   rw [run_sliceBound (P:=P) w .i64 (j:Int) y code (by omega) (by omega)]
   simp
  obtain ⟨h,hh⟩:∃h,h=l+m:=⟨_,rfl⟩
  rw [←hh] at hlm ⊢
  have hb:(Instr.sliceBounds false n n (some (.int .i64 (l:Int))) (some (.int .i64 (h:Int))) (some (.int .i64 (c:Int)))).run P w=.ok (l,h,c) w:=by
   simp [Instr.sliceBounds,bnd c n _ hcn,bnd h c _ hlm,bnd l h _ (by omega)]
  have hml:h - l=m:=by omega
  simp [Instr.sliceAt,Instr.sureAddr,run_underlying hu,hb,hsz,hne,bM,hml]
theorem run_sl3 (w:World) {ty:TypeId} {elem:TypeId} (hu:P.underlying ty=some (.slice elem)) (hs:(P.info? elem).map (·.size)=some 1) {g o len cap:Nat} (m:Nat) (hm:m≤cap) (h0:0<m) :
  (Instr.sliceAt ty (.slice (some ⟨g,o,none⟩) len cap) none (some (.int .i64 (m:Int))) (some (.int .i64 (m:Int)))).run P w=.ok (.slice (some ⟨g,o,none⟩) m m) w:=by
 cases hq:P.info? elem with
 | none=>simp [hq] at hs
 | some q =>
  have hs1:q.size=1:=by simpa [hq] using hs
  have hsz:(sizeOf elem).run P w=.ok 1 w:=by simp [sizeOf,typeInfo,hq,hs1]
  have hne:¬m=0:=by omega
  have bnd:∀(j y:Nat) (code:BoundsCode),j≤y→(Instr.sliceBound (.int .i64 (j:Int)) y code).run P w=.ok j w:=by
   intro j y code hj
   rw [run_sliceBound (P:=P) w .i64 (j:Int) y code (by omega) (by omega)]
   simp
  have hb:(Instr.sliceBounds true len cap none (some (.int .i64 (m:Int))) (some (.int .i64 (m:Int)))).run P w=.ok (0,m,m) w:=by
   simp [Instr.sliceBounds,bnd m cap _ hm,bnd m m _ (Nat.le_refl _)]
  simp [Instr.sliceAt,Instr.slice,run_underlying hu,hb,hsz,hne,bM]
end
section
variable {P:Program} {ops:Array Oper} {rest:List Oper} {a:Act} {w w0:World} {dst:Option Tmp} {typ:TypeId} {pos:String} {aft:Array Edge} {S:List Nat} {rows:List (Nat×List Value×TypeId)} {gd:Option (Nat×Bool)}
theorem wpl_ldg {Q:Exit→Act→World→Prop} {ty:TypeId} {x:Operand} {g:Nat} (cs:List Value) (off:Nat) (hx:a.eval x=.pointer (some ⟨g,off,none⟩)) (hc:∀j v,cs[j]?=some v→w.cell? ⟨g,off+j,none⟩=some v)
  (d:TypeDesc) (hu:P.underlying ty=some d) (hd:(match d with | .struct _ | .array _ _=>true|_=>false)=true) (n:Nat) (hs:(P.info? ty).map (·.size)=some n) (hn:cs.length=n)
  (h:wpList P ops Q rest (a.put dst (.agg cs.toArray)) w) :
  wpList P ops Q ({dst:=dst,op:=.load ty x,type:=typ,pos:=pos,after:=aft,guard:=none}::rest) a w:=by
 refine wpList_plain rfl fun K hK=>?_
 have hh:=hK _ _ h
 unfold Oper.wp execOp
 simp only [hx,Instr.loadAt,Instr.sureAddr,Sem.run_bind,Sem.run_pure,Result.andThen_ok,d5 w g off n ty cs d hc hu hd hs hn]
 exact hh
theorem wpl_slo2 {Q:Exit→Act→World→Prop} {ty:TypeId} {x lo:Operand} {elem:TypeId} (hu:P.underlying ty=some (.slice elem)) (hs:(P.info? elem).map (·.size)=some 1) {g o len cap:Nat} (l:Nat) {il:Int} (hl:l≤len) (hlc:l<cap) (hx:a.eval x=.slice (some ⟨g,o,none⟩) len cap)
  (hlo:a.eval lo=.int .i64 il) (hil:il=(l:Int)) (h:wpList P ops Q rest (a.put dst (.slice (some ⟨g,o+l,none⟩) (len - l) (cap - l))) w) :
  wpList P ops Q ({dst:=dst,op:=.slice ty x (some lo) none none,type:=typ,pos:=pos,after:=aft,guard:=none}::rest) a w:=by
 subst hil
 refine wpList_plain rfl fun K hK=>?_
 have hh:=hK _ _ h
 unfold Oper.wp execOp
 simp only [hx,hlo,Option.map_some,Option.map_none,run_slo2 (P:=P) w hu hs l hl hlc,Sem.run_bind,Sem.run_pure,Result.andThen_ok]
 exact hh
theorem wps_sla3 {Q:Act→Prop} {ty:TypeId} {x lo hi mx:Operand} (n:Nat) {elem:TypeId} (hu:P.underlying ty=some (.array n elem)) (hs:(P.info? elem).map (·.size)=some 1) {g o:Nat} (l m c:Nat) (hlm:l+m≤c) (hln:l<c) (hcn:c≤n) (hx:a.eval x=.pointer (some ⟨g,o,none⟩))
  (hlo:a.eval lo=.int .i64 (l:Int)) (hhi:a.eval hi=.int .i64 ((l+m:Nat):Int)) (hmx:a.eval mx=.int .i64 (c:Int)) (h:wpStill P ops w Q rest (a.put dst (.slice (some ⟨g,o+l,none⟩) m (c - l)))) :
  wpStill P ops w Q ({dst:=dst,op:=.slice ty x (some lo) (some hi) (some mx),type:=typ,pos:=pos,after:=aft,guard:=none}::rest) a:=by
 refine gF rfl _ ?_ h
 unfold execOp
 simp only [hx,hlo,hhi,hmx,Option.map_some,run_sla3 (P:=P) w hu hs g o l m c hlm hln hcn,Sem.run_bind,Sem.run_pure,Result.andThen_ok]
theorem exec_sl3 {ty:TypeId} {x hi mx:Operand} {elem:TypeId} (hu:P.underlying ty=some (.slice elem)) (hs:(P.info? elem).map (·.size)=some 1) {g o len cap:Nat} (m:Nat) {ih im:Int} (hm:m≤cap) (h0:0<m) (hx:a.eval x=.slice (some ⟨g,o,none⟩) len cap)
  (hhi:a.eval hi=.int .i64 ih) (hih:ih=(m:Int)) (hmx:a.eval mx=.int .i64 im) (him:im=(m:Int)) :
  (execOp a.eval {dst:=dst,op:=.slice ty x none (some hi) (some mx),type:=typ,pos:=pos,after:=aft,guard:=gd}).run P w=.ok (.value (.slice (some ⟨g,o,none⟩) m m)) w:=by
 subst hih him
 unfold execOp
 simp only [hx,hhi,hmx,Option.map_some,Option.map_none,run_sl3 (P:=P) w hu hs m hm h0,Sem.run_bind,Sem.run_pure,Result.andThen_ok]
theorem wpl_ixp {Q:Exit→Act→World→Prop} {ty:TypeId} {x ix:Operand} (n:Nat) {elem:TypeId} (hu:P.underlying ty=some (.array n elem)) (k:Nat) (hs:(P.info? elem).map (·.size)=some k) (ha:∀w,(isAgg elem).run P w=.ok true w) (l sub:List Value) (j:Nat) {ij:Int} (hj:j<n)
  (hx:a.eval x=.agg l.toArray) (hix:a.eval ix=.int .i64 ij) (hij:ij=(j:Int)) (hv:(l.drop (j * k)).take k=sub)
  (h:wpList P ops Q rest (a.put dst (.agg sub.toArray)) w) :
  wpList P ops Q ({dst:=dst,op:=.index ty x ix,type:=typ,pos:=pos,after:=aft,guard:=none}::rest) a w:=by
 subst hij
 refine wpList_plain rfl fun K hK=>?_
 have hh:=hK _ _ h
 have hr:(Instr.index ty (.agg l.toArray) (.int .i64 (j:Int))).run P w=.ok (.agg sub.toArray) w:=by
  cases hq:P.info? elem with
  | none=>simp [hq] at hs
  | some q =>
   have hs1:q.size=k:=by simpa [hq] using hs
   have hsz:(sizeOf elem).run P w=.ok k w:=by simp [sizeOf,typeInfo,hq,hs1]
   simp [Instr.index,asIntOf,run_underlying hu,hj,hsz,part,ha,hv]
 unfold Oper.wp execOp
 simp only [hx,hix,hr,Sem.run_bind,Sem.run_pure,Result.andThen_ok]
 exact hh
end
open Go Go.RowKit
section
variable {P:Program} {ops:Array Oper} {Q:Exit→Act→World→Prop} {md:Region.Mode} {c:Nat} {S S2:World→Prop}
def wpAnyC (P:Program) (md:Region.Mode) (ops:Array Oper) (Q:Exit→Act→World→Prop) (c:Nat) (S S2:World→Prop):Nat→Array Bool→Act→World→Prop
 | 0,listed,a,w=>Region.ready md ops listed=[]∧Q .normal a w
 | fuel+1,listed,a,w =>
  (Region.ready md ops listed=[]→Q .normal a w) ∧
  ∀i∈Region.ready md ops listed,wpOp P ops Q i (fun a' w'=>if i=c then S2 w'∧wpAnyH P md ops Q S2 fuel (listed.setIfInBounds i true) a' w' else S w'∧wpAnyC P md ops Q c S S2 fuel (listed.setIfInBounds i true) a' w') a w
theorem iO:∀(fuel:Nat) (listed:Array Bool) (a:Act) (w:World),wpAnyC P md ops Q c S S2 fuel listed a w→wpAny P md ops Q fuel listed a w
 | 0,_,_,_,h=>h
 | fuel+1,_,_,_,h=>⟨h.1,fun i hi=>wpOp_mono (fun a' w' h'=>by
   by_cases hic:i=c
   ·rw [if_pos hic] at h'
    exact wpAny_of_held fuel _ a' w' h'.2
   ·rw [if_neg hic] at h'
    exact iO fuel _ a' w' h'.2) (h.2 i hi)⟩
theorem wpAnyC_first {i:Nat} {oi oc:Oper} {v:Value} (hi:ops[i]?=some oi) (hsel:∀(j:Nat) (o:Oper) cs b,ops[j]?=some o→o.op≠.select cs b)
  (hQ:∀c a w,Q (.panic c) (a.put oi.dst v) w→Q (.panic c) a w) (hoc:ops[c]?=some oc) (hwait:∃e∈oc.after,Region.binds md e=true∧e.on=i) :
  ∀(fuel:Nat) (listed:Array Bool) (a:Act) (w:World),
   (∀j oj,ops[j]?=some oj→j≠i→listed.getD j true=false→(∀e∈oj.after,Region.binds md e=true→e.on≠i)→oi.apart ops oj=true) →
   i∈Region.ready md ops listed→YieldsIf P ops S oi v a→S w→i≠c →
   wpAnyC P md ops Q c S S2 fuel (listed.setIfInBounds i true) (a.put oi.dst v) w→wpAnyC P md ops Q c S S2 (fuel+1) listed a w:=by
 intro fuel
 induction fuel with
 | zero =>
  intro listed a w _ hr hy hS hic H
  refine ⟨fun h=>(by rw [h] at hr;cases hr),fun j hj=>?_⟩
  by_cases hji:j=i
  ·subst hji;exact hy.wpOp hi hS (by rw [if_neg hic];exact ⟨hS,H⟩)
  ·have:=ready_mono hj hji
   rw [H.1] at this
   cases this
 | succ fuel ih =>
  intro listed a w hfree hr hy hS hic H
  refine ⟨fun h=>(by rw [h] at hr;cases hr),fun j hj=>?_⟩
  by_cases hji:j=i
  ·subst hji;exact hy.wpOp hi hS (by rw [if_neg hic];exact ⟨hS,H⟩)
  ·have h1:=H.2 j (ready_mono hj hji)
   obtain ⟨hjun,oj,hoj,hall⟩:=mem_ready.1 hj
   have hnot:∀e∈oj.after,Region.binds md e=true→e.on≠i:=fun e he hb heq=>by
    have h1:=hall e he hb
    have h0:=(mem_ready.1 hr).1
    rw [heq] at h1
    rcases Nat.lt_or_ge i listed.size with h'|h'
    ·simp [h'] at h0 h1;rw [h0] at h1;cases h1
    ·simp [Array.getElem?_eq_none h'] at h1
   have hjc:j≠c:=by
    rintro rfl
    obtain ⟨e,he,hb,hon⟩:=hwait
    have:oj=oc:=Option.some.inj (hoj.symm.trans hoc)
    subst this
    exact hnot e he hb hon
   simp only [if_neg hjc] at h1 ⊢
   have h2:=wpOp_putIf hoj (hfree j oj hoj hji hjun hnot) (fun cs b=>hsel i oi cs b hi) (fun cs b=>hsel j oj cs b hoj) hQ hy h1
   have hfree':∀k ok,ops[k]?=some ok→k≠i→(listed.setIfInBounds j true).getD k true=false →
     (∀e∈ok.after,Region.binds md e=true→e.on≠i)→oi.apart ops ok=true:=fun k ok hk hki hun hno=>by
    refine hfree k ok hk hki ?_ hno
    by_cases hjk:j=k
    ·subst hjk;exact hjun
    ·rw [getD_set_ne true hjk] at hun;exact hun
   refine wpOp_mono (fun a' w' h3=>⟨h3.2.1,ih (listed.setIfInBounds j true) a' w' hfree' (ready_mono hr (Ne.symm hji)) h3.1 h3.2.1 hic ?_⟩) h2
   rw [Array.setIfInBounds_comm _ _ hji]
   exact h3.2.2
theorem wpAnyC_pure {i:Nat} {oi:Oper} {v:Value} (hi:ops[i]?=some oi) (hsel:∀(j:Nat) (o:Oper) cs b,ops[j]?=some o→o.op≠.select cs b)
  (hQ:∀c a w,Q (.panic c) (a.put oi.dst v) w→Q (.panic c) a w) :
  ∀(fuel:Nat) (listed:Array Bool) (a:Act) (w:World),
   (∀j oj,ops[j]?=some oj→j≠i→listed.getD j true=false→(∀e∈oj.after,Region.binds md e=true→e.on≠i)→oi.apart ops oj=true) →
   i∈Region.ready md ops listed→YieldsIf P ops (fun _=>True) oi v a→S w→i≠c →
   wpAnyC P md ops Q c S S2 fuel (listed.setIfInBounds i true) (a.put oi.dst v) w→wpAnyC P md ops Q c S S2 (fuel+1) listed a w:=by
 intro fuel
 induction fuel with
 | zero =>
  intro listed a w _ hr hy hS hic H
  refine ⟨fun h=>(by rw [h] at hr;cases hr),fun j hj=>?_⟩
  by_cases hji:j=i
  ·subst hji;exact hy.wpOp hi trivial (by rw [if_neg hic];exact ⟨hS,H⟩)
  ·have:=ready_mono hj hji
   rw [H.1] at this
   cases this
 | succ fuel ih =>
  intro listed a w hfree hr hy hS hic H
  refine ⟨fun h=>(by rw [h] at hr;cases hr),fun j hj=>?_⟩
  by_cases hji:j=i
  ·subst hji;exact hy.wpOp hi trivial (by rw [if_neg hic];exact ⟨hS,H⟩)
  ·have h1:=H.2 j (ready_mono hj hji)
   obtain ⟨hjun,oj,hoj,hall⟩:=mem_ready.1 hj
   have hnot:∀e∈oj.after,Region.binds md e=true→e.on≠i:=fun e he hb heq=>by
    have h1:=hall e he hb
    have h0:=(mem_ready.1 hr).1
    rw [heq] at h1
    rcases Nat.lt_or_ge i listed.size with h'|h'
    ·simp [h'] at h0 h1;rw [h0] at h1;cases h1
    ·simp [Array.getElem?_eq_none h'] at h1
   have h2:=wpOp_putIf hoj (hfree j oj hoj hji hjun hnot) (fun cs b=>hsel i oi cs b hi) (fun cs b=>hsel j oj cs b hoj) hQ hy h1
   have hfree':∀k ok,ops[k]?=some ok→k≠i→(listed.setIfInBounds j true).getD k true=false →
     (∀e∈ok.after,Region.binds md e=true→e.on≠i)→oi.apart ops ok=true:=fun k ok hk hki hun hno=>by
    refine hfree k ok hk hki ?_ hno
    by_cases hjk:j=k
    ·subst hjk;exact hjun
    ·rw [getD_set_ne true hjk] at hun;exact hun
   refine wpOp_mono (fun a' w' h3=>?_) h2
   obtain ⟨hy',h3⟩:=h3
   by_cases hjc:j=c
   ·rw [if_pos hjc] at h3 ⊢
    refine ⟨h3.1,wpAnyH_first hi hsel hQ fuel (listed.setIfInBounds j true) a' w' hfree' (ready_mono hr (Ne.symm hji)) (hy'.imp (fun ⟨hw,hv⟩=>⟨hw,fun w _=>hv w trivial⟩) id) h3.1 ?_⟩
    rw [Array.setIfInBounds_comm _ _ hji]
    exact h3.2
   ·rw [if_neg hjc] at h3 ⊢
    refine ⟨h3.1,ih (listed.setIfInBounds j true) a' w' hfree' (ready_mono hr (Ne.symm hji)) hy' h3.1 hic ?_⟩
    rw [Array.setIfInBounds_comm _ _ hji]
    exact h3.2
end
section
variable {P:Program} {md:Region.Mode} {ops:Array Oper} {R:Act→World→Prop} {T T2:World→Prop} {c fuel:Nat} {listed:Array Bool} {a:Act} {w w0:World} {S:List Nat} {rows:List (Nat×List Value×TypeId)}
theorem fU {id:Nat} {l:List Oper} (c:Nat) (hmix:P.follows .mixedOrders=true) (hm:Mem w0 S w rows)
  (h:∀w',Mem w0 S w' rows→wpAnyC P .any l.toArray (endsIn R) c T T2 l.toArray.size (Array.replicate l.toArray.size false) a w'):(Code.region id l.toArray true).wp P (endsIn R) a w :=
 wp_region_any hmix (iO _ _ _ _ (h _ hm.drew))
theorem bN (i:Nat) {o oc:Oper} {v:Value} (hi:ops[i]?=some o) (hs:Region.noSelect ops=true) (hf:Region.free md ops listed i=true) (hr:(Region.ready md ops listed).contains i=true) (hg:o.guard=none) (hoc:ops[c]?=some oc) (hwait:(oc.after.any fun e=>Region.binds md e&&e.on==i)=true) (hic:decide (i=c)=false)
  (hy:∀w,T w→(execOp a.eval o).run P w=.ok (.value v) w) (hT:T w) (h:wpAnyC P md ops (endsIn R) c T T2 fuel (listed.setIfInBounds i true) (a.put o.dst v) w):wpAnyC P md ops (endsIn R) c T T2 (fuel+1) listed a w :=
 wpAnyC_first hi (Region.noSelect_spec hs) (fun _ _ _ h=>h) hoc (by
  obtain ⟨e,he,hb⟩:=Array.any_eq_true'.1 hwait
  simp only [Bool.and_eq_true,beq_iff_eq] at hb
  exact ⟨e,he,hb.1,hb.2⟩) fuel listed a w (Region.free_spec hi hf) (by simpa using hr) (Or.inl ⟨by simp [Region.wanted,hg],hy⟩) hT (of_decide_eq_false hic) h
theorem aA (i:Nat) {o:Oper} {v:Value} (hi:ops[i]?=some o) (hs:Region.noSelect ops=true) (hf:Region.free md ops listed i=true) (hr:(Region.ready md ops listed).contains i=true) (hg:o.guard=none) (hic:decide (i=c)=false)
  (hy:∀w,True→(execOp a.eval o).run P w=.ok (.value v) w) (hT:T w) (h:wpAnyC P md ops (endsIn R) c T T2 fuel (listed.setIfInBounds i true) (a.put o.dst v) w):wpAnyC P md ops (endsIn R) c T T2 (fuel+1) listed a w :=
 wpAnyC_pure hi (Region.noSelect_spec hs) (fun _ _ _ h=>h) fuel listed a w (Region.free_spec hi hf) (by simpa using hr) (Or.inl ⟨by simp [Region.wanted,hg],hy⟩) hT (of_decide_eq_false hic) h
theorem gQ {o:Oper} (hr:Region.ready md ops listed=[c]) (hi:ops[c]?=some o) (hg:o.guard=none)
  (h:∀K:Act→World→Prop,(∀a' w',T2 w'→wpAnyH P md ops (endsIn R) T2 fuel (listed.setIfInBounds c true) a' w'→K a' w')→wpList P ops (endsIn K) [o] a w):wpAnyC P md ops (endsIn R) c T T2 (fuel+1) listed a w:=by
 refine ⟨fun h0=>absurd (hr▸h0) (by simp),fun i hi'=>?_⟩
 rw [hr] at hi'
 obtain rfl:i=c:=by simpa using hi'
 simp only [if_true]
 exact aF i hi hg h
end
end Go.Proofs.YtnllomcajijbjaaGreatDoor
