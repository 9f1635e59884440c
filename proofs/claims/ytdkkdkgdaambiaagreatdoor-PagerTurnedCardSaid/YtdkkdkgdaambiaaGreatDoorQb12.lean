import Derived.Test.YtdkkdkgdaambiaaGreatDoorQb11
import Derived.Test.YtdkkdkgdaambiaaGreatDoorQb10
import Derived.Test.YtdkkdkgdaambiaaGreatDoorQb07
set_option maxRecDepth 100000
set_option maxHeartbeats 4000000
namespace Go.Proofs.YtdkkdkgdaambiaaGreatDoor
open Go Go.RowKit Go.Maps
theorem gone_any {kl:Nat→Lit} {left:Lit→Bool} {f:Sts} {i:Nat} {k:Lit} (hkl:∀i,i<4294967296→IsK i (kl i)) (hf:∀j s,f j=some s→j<400) (hik:IsK i k):upf (gone kl left f) i (f i)=gone kl (fun z=>left z && !z.sameKey k) f:=by
 have hk9:kl i=k:=(hkl i hik.1).uni hik
 funext j
 show (if j=i then f i else if left (kl j)=true then none else f j)=if (left (kl j) && !(kl j).sameKey k)=true then none else f j
 by_cases hj:j=i
 ·subst hj
  rw [if_pos rfl,hk9,if_neg (by rw [WideAt.sameKey_self hik.lit];simp)]
 ·rw [if_neg hj]
  by_cases hjl:j<4294967296
  ·have hne9:kl j≠k:=fun e=>hj ((hkl j hjl).inj (e▸hik))
   rw [sameKey_ne hne9]
   simp
  ·cases hp:f j with
   | none=>simp
   | some t=>exact absurd (hf j t hp) (by omega)
theorem lY (q:Sts) (i:Nat) (s:Nat) (hq:q i=none):∀n,i<n→((List.range n).filter fun j=>(upf q i (some s) j).isSome).length=((List.range n).filter fun j=>(q j).isSome).length+1
 | 0,h=>by omega
 | n+1,h=>by
  rw [List.range_succ,List.filter_append,List.filter_append,List.length_append,List.length_append]
  by_cases he:i=n
  ·subst he
   have e1:(List.range i).filter (fun j=>(upf q i (some s) j).isSome)=(List.range i).filter (fun j=>(q j).isSome):=by
    refine List.filter_congr (fun j hj=>?_)
    rw [bx q _ (by have:=List.mem_range.1 hj;omega)]
   rw [e1]
   simp [cX,hq]
  ·have ih:=lY q i s hq n (by omega)
   rw [ih]
   have e2:([n].filter fun j=>(upf q i (some s) j).isSome)=[n].filter fun j=>(q j).isSome:=by
    refine List.filter_congr (fun j hj=>?_)
    rw [bx q _ (by simp at hj;omega)]
   rw [e2]
   omega
theorem cntS_put (q:Sts) (i:Nat) (s:Nat) (hq:q i=none) (hi:i<400):cntS (upf q i (some s))=cntS q+1:=lY q i s hq 400 hi
def freshS (P:Pg):Sts:=fun i=>if (P.last i).isSome=true then none else P.used i
theorem ma (gp g mb:Nat) (kv:Value) (ml mu:Nat) (P:Pg) (d:Dk) (hall:∀i s,P.used i=some s→0<s) (w:World) (hp:PgAt w gp g mb kv ml mu P d) :
  Calls Tryz.prog 37 #[.pointer (some ⟨gp,0,none⟩)] w fun e w'=>e=.returned (.bool true)∧Below w.heap.size w w':=by
 obtain ⟨qn,D,ho,pm⟩:=hp.used
 have HP:Hid (PgAt w gp g mb kv ml mu P d):=hp
 have HPM:Hid (SM D P.used):=pm
 have HMU:Hid (mu<w.heap.size):=hp.used.lt
 have HOW:Hid (w.ownsMap Tryz.prog 79 rdV mu qn D):=ho
 have HALL:Hid (∀i s,P.used i=some s→0<s):=hall
 have hc:w.cell? ⟨gp,97+6,none⟩=some (.map (some mu)):=(hp.cell 6).trans rfl
 clear ho pm hp hall
 go_enter Tryz.func37,Tryz.ntmps37
 go_wp2_with (first
  | ((with_reducible refine aa (some 9) (.range 73 (.tmp 8)) ?_);go_must (refine wpList_range_own _ rfl _ _ rfl 79 83 cz dc rdV mu qn D rfl HOW.out ?_);intro w2 hrg0 hg0 hs0))
 have HB2:Hid (Below w.heap.size w w2):=⟨hg0.os,hg0.tape,hg0.output,hg0.size,fun k hk=>hg0.block k hk (by simp)⟩
 have HRG:Hid (w2.ranges Tryz.prog 79 rdV mu w.heap.size qn D (Maps.has D) (Maps.size D)):=hrg0
 clear hrg0 hg0 hs0 HOW hc
 go_frame
 go_loopw [10] (fun _ wr=>∃(left:Lit→Bool) (cnt:Nat),wr.ranges Tryz.prog 79 rdV mu w.heap.size qn D left cnt∧Below w.heap.size w wr)
  (fun _ wr=>wr.rangeLeft mu w.heap.size)
 case atStart=>exact ⟨_,_,HRG.out,HB2.out⟩
 case round =>
  obtain ⟨left,cnt,hrg,hbr⟩:=hrel
  have HBR:Hid (Below w.heap.size w wr):=hbr
  have HRR:Hid (wr.ranges Tryz.prog 79 rdV mu w.heap.size qn D left cnt):=hrg
  clear hbr HRG HB2 hrg
  go_wp2_with (first
   | (at_next;refine wpList_next_ranges _ rfl _ rfl 79 cz rdV idxV id (fun key kl hk=>by obtain ⟨i,_,hi⟩:=IsK.of hk;exact ⟨i,hi⟩) (fun v _ _=>⟨v,rfl⟩) mu w.heap.size qn D _ _ rfl HRR.out ?_ ?_)
   | go_in)
  ·intro _ hl0
   clear hl0
   go_wp2_with fail
   go_ret
   exact ⟨rfl,HBR.out⟩
  ·intro x c k yd yp w3 cnt3 hkey hlk hv hat hrg3 hlt hg3 hs3 hen
   obtain ⟨i,hik,hxi⟩:=IsK.of hkey
   rw [hxi] at hen ⊢
   clear hxi hkey
   have hhas:Maps.has D k=true:=has_true_of_atKey hat
   rw [HPM.out.has i k hik] at hhas
   obtain ⟨s,hps⟩:=Option.isSome_iff_exists.1 hhas
   have hc:c=stV s:=by
    have h1:=HPM.out.val i k s hik hps (.held c)
    rw [hat] at h1
    have h2:=eH hv
    rw [h2] at h1
    simpa using h1
   subst hc
   have hi4:=HPM.out.dom i s hps
   have HRG3:Hid (w3.ranges Tryz.prog 79 rdV mu w.heap.size qn D (fun z=>left z && !z.sameKey k) cnt3):=hrg3
   have HLT:Hid (cnt3<cnt):=hlt
   have HRL:Hid (wr.rangeLeft mu w.heap.size=cnt):=HRR.out.left_eq
   have HB3:Hid (Below w.heap.size w w3):=⟨hg3.os.trans HBR.out.os,hg3.tape.trans HBR.out.tape,hg3.output.trans HBR.out.output,Nat.le_trans HBR.out.size hg3.size,fun z hz=>(hg3.block z (Nat.lt_of_lt_of_le hz HBR.out.size) (fun e=>by simp only [Option.some.injEq] at e;omega)).trans (HBR.out.block z hz)⟩
   have HPS:Hid (P.used i=some s):=hps
   have hm:=Mem.start w3
   clear hlk hv hat hg3 hs3 hhas hps hrg3 HRR hlt
   have HWR:Hid (decide ((0:Int)<(s:Int))=true):=decide_eq_true (by have h9:=HALL.out i s HPS.out;omega)
   go_wp2_with (first
    | ((with_reducible refine aa (some 4) (.alloc 83) ?_);refine ae _ cU hm ?_;clear hm;intro w5 gb hm)
    | ((with_reducible refine aa none (.store 83 (.tmp 4) (.tmp 13)) ?_);refine af 0 (stC s) hm rfl rfl rfl 1 dG rfl rfl (ei _) ?_;clear hm;intro w7 hm)
    | ((with_reducible refine aa (some 14) (.load 83 (.tmp 4)) ?_);obtain ⟨fs,hfs⟩:=kC;go_must (refine aq 0 hm rfl rfl _ hfs rfl 1 dG rfl ?_);clear hfs fs)
    | (go_at_call 48;refine (iz (s:Int) _).mono ?_;rintro e w8 ⟨he,hb⟩;rw [HWR.out] at he;subst he;replace hm:=hm.call hb;clear hb))
   have hrg8:=World.ranges.kept HRG3.out (be hm.below) (by simp) (by simp)
   have HRG8:Hid (w8.ranges Tryz.prog 79 rdV mu w.heap.size qn D (fun z=>left z && !z.sameKey k) cnt3):=hrg8
   have HRL8:Hid (w8.rangeLeft mu w.heap.size=cnt3):=hrg8.left_eq
   have HB8:Hid (Below w.heap.size w w8):=HB3.out.trans (hm.below.mono HB3.out.size)
   clear hrg8
   try go_frame
   go_roundw
   case rel=>exact ⟨_,_,HRG8.out,HB8.out⟩
   case measure=>rw [HRL8.out,HRL.out];exact HLT.out
open Go Go.RowKit Go.Maps
theorem wrapI_of (n:Int) (h : -9223372036854775808≤n∧n≤9223372036854775807):IntKind.i64.wrap n=n:=by
 simp [IntKind.wrap,IntKind.bits,IntKind.signed]
 omega
theorem jv {kl:Nat→Lit} {D:DataW Value} {p f:Sts} (hkl:∀i,i<4294967296→IsK i (kl i)) (pm:SM D p) (hf:∀i,(f i).isSome=true→(p i).isSome=true):gone kl (Maps.has D) f=fun _=>none:=by
 funext i
 show (if Maps.has D (kl i)=true then none else f i)=none
 by_cases hi:i<4294967296
 ·rw [pm.has i (kl i) (hkl i hi)]
  split
  ·rfl
  ·rename_i hh
   cases hfi:f i with
   | none=>rfl
   | some s=>exact absurd (hf i (by rw [hfi];rfl)) hh
 ·split
  ·rfl
  ·cases hfi:f i with
   | none=>rfl
   | some s =>
    obtain ⟨t,ht⟩:=Option.isSome_iff_exists.1 (hf i (by rw [hfi];rfl))
    exact absurd (pm.dom i t ht) (by omega)
theorem cntS_none:cntS (fun _=>none)=0:=by simp [cntS,domL]
theorem upf_id (q:Sts) (i:Nat) (h:q i=none):upf q i none=q:=by
 funext j
 by_cases hj:j=i
 ·subst hj;rw [cX,h]
 ·rw [bx q _ hj]
theorem lf (P:Pg) (i:Nat) (h:(freshS P i).isSome=true):(P.used i).isSome=true:=by
 unfold freshS at h
 split at h
 ·cases h
 ·exact h
theorem room_any (gp g mb:Nat) (kv:Value) (ml mu:Nat) (P:Pg) (d:Dk) (pg:Nat) (hn:d.n=32+8 * pg) (hpg:pg≤400) (w:World) (hp:PgAt w gp g mb kv ml mu P d) :
  Calls Tryz.prog 23 #[.pointer (some ⟨gp,0,none⟩)] w fun e w'=>e=.returned (.int .i64 ((pg:Int) - (cntS P.last:Nat) - (cntS (freshS P):Nat)))∧Below w.heap.size w w':=by
 obtain ⟨qn,D,ho,pm⟩:=hp.used
 have HP:Hid (PgAt w gp g mb kv ml mu P d):=hp
 have HPM:Hid (SM D P.used):=pm
 have HO0:Hid (w.ownsMap Tryz.prog 79 rdV mu qn D):=ho
 obtain ⟨kl,hkl⟩:=kl_ex
 have HKL:Hid (∀i,i<4294967296→IsK i (kl i)):=hkl
 have HDF:Hid (∀j s,freshS P j=some s→j<400):=fun j s h=>by
  obtain ⟨t,ht⟩:=Option.isSome_iff_exists.1 (lf P j (by rw [h];rfl))
  exact pm.dom j t ht
 obtain ⟨c1,hc1⟩:∃c1,c1=cntS P.last:=⟨_,rfl⟩
 have hc1b:c1≤400:=by rw [hc1];exact cntS_le _
 have HC1:Hid (∀_:Unit,cntS P.last=c1):=fun _=>hc1.symm
 have HCF:Hid (∀q,cntS q≤400):=cntS_le
 obtain ⟨F,hF⟩:∃F,F=freshS P:=⟨_,rfl⟩
 have HF:Hid (∀_:Unit,freshS P=F):=fun _=>hF.symm
 have HGS:Hid (gone kl (Maps.has D) F=fun _=>none):=by rw [hF];exact jv hkl pm (lf P)
 have HWR:IntKind.i64.wrap ((pg:Int) - (c1:Int))=(pg:Int) - (c1:Int):=wrapI_of _ (by omega)
 rw [←hc1,←hF]
 have hm:=Mem.start w
 clear hp pm ho hkl hc1 hF
 go_enter Tryz.func23,Tryz.ntmps23
 go_wp2_with fail
 refine ar ?_
 refine am (T:=fun W=>Mem w [] W []) (by kernel_rfl) hm ?_
 clear hm
 intro w4 hm
 refine aT 0 (v:=.pointer (some ⟨gp,0,none⟩)) rfl (by kernel_rfl) rfl (fun W _=>by go_simp) hm ?_
 go_simp
 refine aT 2 (v:=.pointer (some ⟨gp,0,none⟩)) rfl (by kernel_rfl) rfl (fun W _=>by go_simp) hm ?_
 go_simp
 refine aT 3 (v:=.pointer (some ⟨gp,0,none⟩)) rfl (by kernel_rfl) rfl (fun W _=>by go_simp) hm ?_
 go_simp
 refine aT 4 (v:=.pointer (some ⟨gp,100,none⟩)) rfl (by kernel_rfl) rfl (fun W _=>by go_simp) hm ?_
 go_simp
 refine aT 5 (v:=.pointer (some ⟨gp,102,none⟩)) rfl (by kernel_rfl) rfl (fun W _=>by go_simp) hm ?_
 go_simp
 refine aT 6 (v:=.map (some ml)) rfl (by kernel_rfl) rfl (fun W hW=>aE (.map (some ml)) ((PgAt.cell (PgAt.mem HP.out hW) 5).trans rfl) rfl de) hm ?_
 go_simp
 refine aO 1 (by kernel_rfl) rfl rfl ?_
 intro K hK
 go_wp2_with (go_at_call 26;refine (mK gp g mb kv ml mu P d pg hn hpg _ (PgAt.mem HP.out hm)).mono ?_;rintro e w5 ⟨rfl,rfl⟩)
 refine hK _ _ hm ?_
 clear hK K
 refine aT 7 (v:=.int .i64 (c1:Nat)) rfl (by kernel_rfl) rfl (fun W hW=>by rw [←HC1.out ()];exact exec_stlen (PgAt.last (PgAt.mem HP.out hW)) rfl) hm ?_
 go_simp
 refine aT 8 (v:=.int .i64 ((pg:Int) - (c1:Nat))) rfl (by kernel_rfl) rfl (fun W _=>by go_simp) hm ?_
 go_simp
 refine aT 9 (v:=.int .i64 ((pg:Int) - (c1:Nat))) rfl (by kernel_rfl) rfl (fun W _=>by go_simp) hm ?_
 go_simp
 refine wpAnyH_done (by kernel_rfl) ?_ _
 simp only [endsIn]
 have HP5:Hid (PgAt w5 gp g mb kv ml mu P d):=PgAt.mem HP.out hm
 have HB5:Hid (Below w.heap.size w w5):=hm.below
 have HS5:Hid (w.heap.size≤w5.heap.size):=hm.size
 have HOW:Hid (w5.ownsMap Tryz.prog 79 rdV mu qn D):=HO0.out.kept (be hm.below) (by simp)
 have hc4:w5.cell? ⟨gp,97+6,none⟩=some (.map (some mu)):=(HP5.out.cell 6).trans rfl
 clear hm HWR
 go_wp2_with (first
  | ((with_reducible refine aa (some 18) (.range 73 (.tmp 17)) ?_);go_must (refine wpList_range_own _ rfl _ _ rfl 79 83 cz dc rdV mu qn D rfl HOW.out ?_);intro w2 hrg0 hg0 hs0))
 have HB2:Hid (Below w.heap.size w w2):=HB5.out.trans (Below.mono ⟨hg0.os,hg0.tape,hg0.output,hg0.size,fun k hk=>hg0.block k hk (by simp)⟩ HS5.out)
 have HRG:Hid (w2.ranges Tryz.prog 79 rdV mu w5.heap.size qn D (Maps.has D) (Maps.size D)):=hrg0
 clear hrg0 hg0 hs0 HOW hc4
 go_frame
 go_loopw [3,19] (fun v3 _ wr=>∃(left:Lit→Bool) (cnt c2:Nat),wr.ranges Tryz.prog 79 rdV mu w5.heap.size qn D left cnt∧Below w.heap.size w wr∧Hid (cntS (gone kl left F)=c2)∧v3=.int .i64 ((pg:Int) - (c1:Nat) - (c2:Nat)))
  (fun _ _ wr=>wr.rangeLeft mu w5.heap.size)
 case atStart=>exact ⟨_,_,0,HRG.out,HB2.out,by show _=_;rw [HGS.out,cntS_none],by simp⟩
 case round =>
  obtain ⟨left,cnt,c2,hrg,hbr,hc2,rfl⟩:=hrel
  have HBR:Hid (Below w.heap.size w wr):=hbr
  have HC2:Hid (cntS (gone kl left F)=c2):=hc2
  have hc2b:c2≤400:=by rw [←HC2.out];exact HCF.out _
  have HRR:Hid (wr.ranges Tryz.prog 79 rdV mu w5.heap.size qn D left cnt):=hrg
  clear hbr HRG HB2 hrg hc2
  go_wp2_with (first
   | (at_next;refine wpList_next_ranges _ rfl _ rfl 79 cz rdV idxV id (fun key kl hk=>by obtain ⟨i,_,hi⟩:=IsK.of hk;exact ⟨i,hi⟩) (fun v _ _=>⟨v,rfl⟩) mu w5.heap.size qn D _ _ rfl HRR.out ?_ ?_)
   | go_in)
  ·intro _ hl0
   have HL0:Hid (cntS F=c2):=by
    show _=_
    rw [←HC2.out]
    congr 1
    funext i
    unfold gone
    rw [hl0]
    rfl
   clear hl0
   go_wp2_with fail
   go_ret
   exact ⟨by rw [HL0.out];rfl,HBR.out⟩
  ·intro x c k yd yp w3 cnt3 hkey hlk hv hat hrg3 hlt hg3 hs3 hen
   obtain ⟨i,hik,hxi⟩:=IsK.of hkey
   rw [hxi] at hen ⊢
   clear hxi hkey
   have hhas:Maps.has D k=true:=has_true_of_atKey hat
   rw [HPM.out.has i k hik] at hhas
   obtain ⟨s,hps⟩:=Option.isSome_iff_exists.1 hhas
   have hc:c=stV s:=by
    have h1:=HPM.out.val i k s hik hps (.held c)
    rw [hat] at h1
    have h2:=eH hv
    rw [h2] at h1
    simpa using h1
   subst hc
   have hi4:=HPM.out.dom i s hps
   have HRG3:Hid (w3.ranges Tryz.prog 79 rdV mu w5.heap.size qn D (fun z=>left z && !z.sameKey k) cnt3):=hrg3
   have HLT:Hid (cnt3<cnt):=hlt
   have HRL:Hid (wr.rangeLeft mu w5.heap.size=cnt):=HRR.out.left_eq
   have HB3:Hid (Below w.heap.size w w3):=⟨hg3.os.trans HBR.out.os,hg3.tape.trans HBR.out.tape,hg3.output.trans HBR.out.output,Nat.le_trans HBR.out.size hg3.size,fun z hz=>(hg3.block z (Nat.lt_of_lt_of_le hz HBR.out.size) (fun e=>by simp only [Option.some.injEq] at e;have:=HS5.out;omega)).trans (HBR.out.block z hz)⟩
   have HPS:Hid (P.used i=some s):=hps
   have hm:=Mem.start w3
   have HLK:Hid (left k=true):=hlk
   clear hlk hv hat hg3 hs3 hhas hps hrg3 HRR hlt
   have HF9:Hid (F i=if (P.last i).isSome=true then none else some s):=by
    show _=_
    rw [←HF.out ()]
    unfold freshS
    rw [HPS.out]
   have HGN:Hid (upf (gone kl left F) i (F i)=gone kl (fun z=>left z && !z.sameKey k) F):=gone_any HKL.out (by rw [←HF.out ()];exact HDF.out) hik
   have HG0:Hid (gone kl left F i=none):=by
    show (if left (kl i)=true then none else F i)=none
    rw [if_pos (by rw [(HKL.out i hik.1).uni hik];exact HLK.out)]
   have HFR:Hid (((P.used i).isSome && !(P.last i).isSome) = !(P.last i).isSome):=by show _=_;rw [HPS.out];rfl
   cases hlast:(P.last i).isSome with
   | true =>
    have HLA:Hid ((P.last i).isSome=true):=hlast
    have HC3:Hid (cntS (gone kl (fun z=>left z && !z.sameKey k) F)=c2):=by
     show _=_
     rw [←HGN.out,HF9.out,if_pos HLA.out,upf_id _ _ HG0.out,HC2.out]
    clear hlast
    go_wp2_with (first
     | ((with_reducible refine aa (some 4) (.alloc 79) ?_);refine ae _ dV hm ?_;clear hm;intro w4a ga hm)
     | ((with_reducible refine aa none (.store 79 (.tmp 4) (.tmp 22)) ?_);refine af 0 (u8s (four (i:Int))) hm rfl rfl rfl 4 bY (by simp [ab]) (rfl) (aj _) ?_;clear hm;intro w6 hm)
     | ((with_reducible refine aa (some 24) (.load 79 (.tmp 4)) ?_);refine aq 0 hm rfl rfl _ cT rfl 4 bY (rfl) ?_)
     | (go_at_call 31;refine (iO gp g mb kv ml mu P d i (by omega) _ (PgAt.mem (PgAt.below HP.out HB3.out) hm)).mono ?_;rintro e w8 ⟨he,hb⟩;rw [HFR.out,HLA.out] at he;subst he;replace hm:=hm.call hb;clear hb))
    have hrg8:=World.ranges.kept HRG3.out (be hm.below) (by simp) (by simp)
    have HRG8:Hid (w8.ranges Tryz.prog 79 rdV mu w5.heap.size qn D (fun z=>left z && !z.sameKey k) cnt3):=hrg8
    have HRL8:Hid (w8.rangeLeft mu w5.heap.size=cnt3):=hrg8.left_eq
    have HB8:Hid (Below w.heap.size w w8):=HB3.out.trans (hm.below.mono HB3.out.size)
    clear hrg8
    try go_frame
    go_roundw
    case rel=>exact ⟨_,_,c2,HRG8.out,HB8.out,HC3.out,rfl⟩
    case measure=>rw [HRL8.out,HRL.out];exact HLT.out
   | false =>
    have HLA:Hid ((P.last i).isSome=false):=hlast
    have HC3:Hid (cntS (gone kl (fun z=>left z && !z.sameKey k) F)=c2+1):=by
     show _=_
     rw [←HGN.out,HF9.out,if_neg (by rw [HLA.out];simp),cntS_put _ _ _ HG0.out hi4,HC2.out]
    clear hlast
    go_wp2_with (first
     | ((with_reducible refine aa (some 4) (.alloc 79) ?_);refine ae _ dV hm ?_;clear hm;intro w4a ga hm)
     | ((with_reducible refine aa none (.store 79 (.tmp 4) (.tmp 22)) ?_);refine af 0 (u8s (four (i:Int))) hm rfl rfl rfl 4 bY (by simp [ab]) (rfl) (aj _) ?_;clear hm;intro w6 hm)
     | ((with_reducible refine aa (some 24) (.load 79 (.tmp 4)) ?_);refine aq 0 hm rfl rfl _ cT rfl 4 bY (rfl) ?_)
     | (go_at_call 31;refine (iO gp g mb kv ml mu P d i (by omega) _ (PgAt.mem (PgAt.below HP.out HB3.out) hm)).mono ?_;rintro e w8 ⟨he,hb⟩;rw [HFR.out,HLA.out] at he;subst he;replace hm:=hm.call hb;clear hb))
    have hrg8:=World.ranges.kept HRG3.out (be hm.below) (by simp) (by simp)
    have HRG8:Hid (w8.ranges Tryz.prog 79 rdV mu w5.heap.size qn D (fun z=>left z && !z.sameKey k) cnt3):=hrg8
    have HRL8:Hid (w8.rangeLeft mu w5.heap.size=cnt3):=hrg8.left_eq
    have HB8:Hid (Below w.heap.size w w8):=HB3.out.trans (hm.below.mono HB3.out.size)
    clear hrg8
    try go_frame
    go_roundw
    case rel=>exact ⟨_,_,c2+1,HRG8.out,HB8.out,HC3.out,by congr 1;omega⟩
    case measure=>rw [HRL8.out,HRL.out];exact HLT.out
open Go Go.RowKit
theorem dr (zs:List Int) (v:Value) (m:Nat) (hzl:zs.length≤30000) (hml:m≤30000) (w:World) (hv:SlOld w v zs) :
  Calls Tryz.prog 97 #[v,.int .i64 (m:Int)] w fun e w'=>∃g,e=.returned (.slice (some ⟨g,0,none⟩) (zs.length+m) (zs.length+m))∧w.heap.size≤g∧Row w' g (u8s (zs++List.replicate m 0)) 5∧Below w.heap.size w w':=by
 obtain ⟨p,cap,rfl,hcap⟩:=hv.len
 have hm:=Mem.start w
 have HV:Hid (SlOld w (.slice p zs.length cap) zs):=hv
 have HNE:Hid (splice (List.replicate (zs.length+m) (.int .u8 0)) 0 (u8s (zs.take zs.length))=u8s (zs++List.replicate m 0)):=by
  show _=_
  have e:List.replicate (zs.length+m) (Value.int .u8 0)=u8s (List.replicate (zs.length+m) 0):=by simp [u8s]
  rw [List.take_of_length_le (Nat.le_refl _),e,dK zs (zs.length+m),show zs.length+m - zs.length=m by omega]
 have HMI:Hid (zs.length=Nat.min zs.length (zs.length+m)):=(Nat.min_eq_left (by omega)).symm
 clear hv
 go_enter Tryz.func97,Tryz.ntmps97
 go_wp2_with (first
  | ((with_reducible refine aa (some 10) (.makeSlice 22 (.tmp 9) (.tmp 9)) ?_);go_must (refine el _ ai _ aD rfl (zs.length+m) rfl (by first|rfl|omega|go_num) rfl (by first|rfl|omega|go_num) (by omega) hm ?_);clear hm;intro w1 g hm)
  | ((with_reducible refine aa (some 13) (.call {callee:=.builtin .copy,args:=#[.tmp 11,.tmp 12],argTypes:=#[22,22]}) ?_);go_must (refine fj 0 zs zs.length (u8s (zs++List.replicate m 0)) hm rfl rfl rfl _ ai av (SlOld.mem HV.out hm) HMI.out (by simp) HNE.out ?_);clear hm;intro w2 hm))
 go_ret
 have hf:=hm.fresh _ (List.mem_cons_self ..)
 exact ⟨g,rfl,by simpa using hf,hm.get 0 rfl,hm.below⟩
theorem set_two (zs:List Int) (a b:Int) (r:List Int):(((u8s (zs++([0,0]++r))).set (zs.length+1) (.int .u8 b)).set (zs.length+0) (.int .u8 a))=u8s (zs++([a,b]++r)):=by
 rw [bi,bi]
 simp [u8s,List.set_append_right]
theorem fR (g:Nat) (zs r:List Int) (n:Int) (cap:Nat) (w:World) (hr:Row w g (u8s (zs++([0,0]++r))) 5) :
  Calls Tryz.prog 98 #[.slice (some ⟨g,zs.length,none⟩) 2 cap,.int .u64 n] w fun e w'=>e=.returned (.tuple #[])∧Row w' g (u8s (zs++(be2 n++r))) 5∧Upd g w w':=by
 have hm:=Mem.enter hr
 have HLN:Hid (((u8s (zs++([0,0]++r))).length=zs.length+(2+r.length))):=by show _=_;simp [ab];omega
 clear hr
 go_enter Tryz.func98,Tryz.ntmps98
 go_wp2_with fail
 refine wp_loop_rounds 3 ?_
 iterate 3 (rw [rounds_succ];go_wp2_with (first
  | (((with_reducible refine aa none (.store 5 (.tmp 16) (.tmp 15)) ?_);refine az 0 _ _ hm rfl (rfl) rfl av (by first|(rw [HLN.out];omega)|(simp only [List.length_set];rw [HLN.out];omega)) rfl rfl ?_;clear hm;intro w9 hm))))
 go_end0
 have hrow:=hm.get 0 rfl
 exact ⟨rfl,by have e:=set_two zs (n / 256 % 256) (n % 256) r;rw [show be2 n=[n / 256 % 256,n % 256] from rfl,←e];exact hrow,hm.toUpd⟩
theorem held_two (w:World) :
  Calls Tryz.prog 96 #[.int .i64 2] w fun e w'=>e=.returned (.int .i64 2)∧w'=w:=by
 go_enter Tryz.func96,Tryz.ntmps96
 go_wp2
 go_ret
 exact ⟨rfl,rfl⟩
theorem put_two (zs:List Int) (v:Value) (n:Int) (hzl:zs.length≤30000) (w:World) (hv:SlOld w v zs) :
  Calls Tryz.prog 68 #[v,.int .u64 n,.int .i64 2] w fun e w'=>∃g,e=.returned (.slice (some ⟨g,0,none⟩) (zs.length+2) (zs.length+2))∧w.heap.size≤g∧Row w' g (u8s (zs++be2 n)) 5∧Below w.heap.size w w':=by
 obtain ⟨p,cap,rfl,hcap⟩:=hv.len
 have hm:=Mem.start w
 have HV:Hid (SlOld w (.slice p zs.length cap) zs):=hv
 clear hv
 go_enter Tryz.func68,Tryz.ntmps68
 go_wp2_with (first
  | (go_at_call 96;refine (held_two _).mono ?_;rintro e w1 ⟨rfl,rfl⟩)
  | (go_at_call 97;refine (dr zs _ 2 (by omega) (by omega) _ HV.out).mono ?_;rintro e w2 ⟨g,rfl,hge,hr,hb⟩;have HGE:Hid _:=hge;have HR:Hid (Row w2 g (u8s (zs++([0,0]++[]))) 5):=hr;have HBL:Hid _:=hb;clear hge hr hb)
  | ((with_reducible refine aa (some 17) (.slice 22 (.tmp 14) (some (.tmp 16)) none none) ?_);go_must (refine gV ai av zs.length zs.length 2 2 (by omega) (by omega) (by omega) (by omega) (by omega) rfl rfl rfl ?_))
  | (go_at_call 98;refine (fR g zs [] n 2 _ HR.out).mono ?_;rintro e w3 ⟨rfl,hr2,hu⟩;rw [List.append_nil] at hr2;have HR2:Hid (Row w3 g (u8s (zs++be2 n)) 5):=hr2;have HU2:Hid (Upd g w2 w3):=hu;clear hr2 hu))
 go_ret
 exact ⟨g,rfl,HGE.out,HR2.out,jc HBL.out HU2.out HGE.out HBL.out.size⟩
theorem or_next {x c:Int} (hx:0≤x∧x<72057594037927936) (hc:0≤c∧c<256):Go.bits .or .u64 (x * 256) c=x * 256+c:=by
 rw [u64_or (x * 256) c (by omega) (by omega) hc.1 (by omega),nat_join 8 _ _ (by omega) (by omega)]
 omega
theorem gh (cs:List Int) (k:Nat) (h:k<cs.length):numL (cs.take (k+1))=numL (cs.take k) * 256+cs.getD k 0:=by
 rw [List.take_add_one,List.getElem?_eq_getElem h,Option.toList_some,numL_snoc]
 simp [h]
theorem fy (cs:List Int) (v:Value) (n:Nat) (hn:cs.length=n) (hn8:n≤8) (hcb:Bytes cs) (w:World) (hv:SlOld w v cs) :
  Calls Tryz.prog 110 #[v] w fun e w'=>e=.returned (.int .u64 (numL cs))∧w'=w:=by
 obtain ⟨p,cap,rfl,hcap,hs⟩:=hv
 rw [hn] at hs hcap ⊢
 have HB:Hid _:=hcb
 clear hcb
 go_enter Tryz.func110,Tryz.ntmps110
 go_wp2_with fail
 go_loopw [3,8] (fun vx vi wr=>∃k:Nat,k≤n∧vx=.int .u64 (numL (cs.take k))∧vi=.int .i64 k∧wr=w) (fun _ vi _=>n - (RowKit.intOf vi).toNat)
 case atStart=>exact ⟨0,by omega,rfl,rfl,rfl⟩
 case round =>
  obtain ⟨k,hk,rfl,rfl,rfl⟩:=hrel
  by_cases hlt:k<n
  ·obtain ⟨b,off,rfl,hseg⟩:=hs (by omega)
   have hki:(k:Int)<(n:Int):=by omega
   have hc:=hseg k (by omega)
   have hb1:=Bytes.get HB.out k
   have hb2:Bytes (cs.take k):=Bytes.take HB.out k
   have h1:=bH hb2
   have h2:=eD hb2
   have h3:(256:Int) ^ (cs.take k).length≤256 ^ 7:=by
    rw [List.length_take,Nat.min_eq_left (by omega)]
    exact (show ∀k:Nat,k<8→(256:Int) ^ k≤256 ^ 7 by decide) k (by omega)
   have h4:numL (cs.take k)<72057594037927936:=by
    have:(256:Int) ^ 7=72057594037927936:=by decide
    omega
   have HN:Hid (numL (cs.take (k+1))=Go.bits .or .u64 (numL (cs.take k) * 256) (cs.getD k 0)):=by
    show _=_
    rw [gh cs k (by omega),or_next ⟨h1,h4⟩ hb1]
   obtain ⟨x,hx⟩:∃x,x=numL (cs.take k):=⟨_,rfl⟩
   obtain ⟨c,hcc⟩:∃c,c=cs.getD k 0:=⟨_,rfl⟩
   rw [←hx] at h1 h4 HN ⊢
   rw [←hcc] at hc hb1 HN
   obtain ⟨hb10,hb11⟩:=hb1
   clear h2 h3 hx hcc hb2 hseg
   go_wp2_with fail
   go_roundw
   case rel=>exact ⟨k+1,by omega,by rw [HN.out],by go_num,trivial⟩
   case measure=>simp [RowKit.intOf];omega
  ·have hkn:k=n:=by omega
   subst hkn
   have hni:¬(k:Int)<(k:Int):=by omega
   go_wp2_with fail
   go_ret
   rw [List.take_of_length_le (by omega)]
   exact ⟨rfl,rfl⟩
open Go Go.RowKit
theorem sum_in (a k:Nat) (h:a+k≤1000000):wrap64 ((a:Int)+(k:Int))=(a:Int)+(k:Int):=fb _ (by omega)
theorem quo8 (a k:Nat):((a:Int)+(k:Int)).tdiv 8=(((a+k) / 8:Nat):Int):=by
 have h:(0:Int)≤(a:Int)+(k:Int):=by omega
 rw [Int.tdiv_eq_ediv_of_nonneg h]
 omega
theorem rem8 (a k:Nat):((a:Int)+(k:Int)).tmod 8=(((a+k) % 8:Nat):Int):=by
 have h:(0:Int)≤(a:Int)+(k:Int):=by omega
 rw [Int.tmod_eq_emod_of_nonneg h]
 omega
theorem bit_place (a k n:Nat) (h:a+k<8 * n) (hn:n≤30000):∃q r:Nat,(q=(a+k) / 8∧r=(a+k) % 8)∧q<n∧r<8∧((a:Int)+(k:Int)).tdiv 8=(q:Int)∧((a:Int)+(k:Int)).tmod 8=(r:Int)
  ∧ wrap64 ((a:Int)+(k:Int))=(a:Int)+(k:Int)∧IntKind.i64.wrap ((a:Int)+(k:Int))=(a:Int)+(k:Int)∧IntKind.i64.wrap (q:Int)=(q:Int)∧IntKind.i64.wrap (r:Int)=(r:Int)∧(0:Int)≤(q:Int)∧(q:Int)<(n:Int):=by
 refine ⟨(a+k) / 8,(a+k) % 8,⟨rfl,rfl⟩,by omega,Nat.mod_lt _ (by omega),quo8 a k,rem8 a k,sum_in a k (by omega),?_,cQ _ (by omega),cQ _ (by omega),by omega,by omega⟩
 rw [show (a:Int)+(k:Int)=((a+k:Nat):Int) by omega]
 exact cQ _ (by omega)
theorem aV (zs:List Int) (v:Value) (m n:Nat) (hn:zs.length=n) (hml:m≤30000) (w:World) (hv:SlOld w v zs) :
  Calls Tryz.prog 71 #[v,.int .i64 (m:Int)] w fun e w'=>∃g,e=.returned (.slice (some ⟨g,0,none⟩) m m)∧w.heap.size≤g∧Row w' g (u8s (fillTo zs m)) 5∧Below w.heap.size w w':=by
 obtain ⟨p,cap,rfl,hcap⟩:=hv.len
 have hm:=Mem.start w
 have HV:Hid (SlOld w (.slice p zs.length cap) zs):=hv
 have HNE:Hid (splice (List.replicate m (.int .u8 0)) 0 (u8s (zs.take (Nat.min n m)))=u8s (fillTo zs m)):=by
  show _=_
  have e:List.replicate m (Value.int .u8 0)=u8s (List.replicate m 0):=by simp [u8s]
  have e2:zs.take (Nat.min n m)=zs.take m:=by
   rcases Nat.le_total n m with h|h
   ·rw [show Nat.min n m=n from Nat.min_eq_left h,List.take_of_length_le (by omega),List.take_of_length_le (by omega)]
   ·rw [show Nat.min n m=m from Nat.min_eq_right h]
  rw [e,e2,dK (zs.take m) m,fillTo,List.length_take,hn]
  congr 2
  congr 1
  omega
 have HMI:Hid (Nat.min n m≤m):=Nat.min_le_right _ _
 rw [hn] at HV hcap ⊢
 clear hv
 go_enter Tryz.func71,Tryz.ntmps71
 go_wp2_with (first
  | ((with_reducible refine aa (some 7) (.makeSlice 22 (.tmp 6) (.tmp 6)) ?_);go_must (refine el _ ai _ aD rfl m rfl (by first|rfl|omega|go_num) rfl (by first|rfl|omega|go_num) (by omega) hm ?_);clear hm;intro w1 g hm)
  | ((with_reducible refine aa (some 10) (.call {callee:=.builtin .copy,args:=#[.tmp 8,.tmp 9],argTypes:=#[22,22]}) ?_);go_must (refine fj 0 zs (Nat.min n m) (u8s (fillTo zs m)) hm rfl rfl rfl _ ai av (SlOld.mem HV.out hm) rfl (by have:=HMI.out;simp;omega) HNE.out ?_);clear hm;intro w2 hm))
 go_ret
 have hf:=hm.fresh _ (List.mem_cons_self ..)
 exact ⟨g,rfl,by simpa using hf,hm.get 0 rfl,hm.below⟩
theorem and_one {z:Int} (h0:0≤z) (h1:z<256):Go.bits .and .u8 z 1=z % 2:=by
 rw [u8_and _ 1 h0 h1 (by omega) (by omega),show (1:Int).toNat=1 from rfl,Nat.and_one_is_mod]
 omega
theorem pow_small {k:Nat} (h:k≤63):(2:Int) ^ k≤9223372036854775808:=by
 have h1:(2:Nat) ^ k≤2 ^ 63:=Nat.pow_le_pow_right (by decide) h
 have h2:((2 ^ k:Nat):Int)≤((2 ^ 63:Nat):Int):=Int.ofNat_le.2 h1
 rw [show ((2 ^ 63:Nat):Int)=9223372036854775808 by decide] at h2
 have h3:((2 ^ k:Nat):Int)=(2:Int) ^ k:=by push_cast;rfl
 omega
theorem ir (cs:List Int) (v:Value) (n at_ size:Nat) (hl:cs.length=n) (hb:Bytes cs) (hf:at_+size≤8 * n) (hn:n≤30000) (hs:size≤63) (w:World) (hv:SlOld w v cs) :
  Calls Tryz.prog 168 #[v,.int .i64 (at_:Int),.int .i64 (size:Int)] w fun e w'=>e=.returned (.int .u64 (getT cs at_ size))∧w'=w:=by
 obtain ⟨p,cap,rfl,hcap,hsg⟩:=hv
 rw [hl] at hsg hcap ⊢
 have HB:Hid (Bytes cs):=hb
 clear hb
 go_enter Tryz.func168,Tryz.ntmps168
 go_wp2_with fail
 go_loopw [7,10] (fun vx vi wr=>∃k:Nat,k≤size∧vx=.int .u64 (getT cs at_ k)∧vi=.int .i64 k∧wr=w) (fun _ vi _=>size - (RowKit.intOf vi).toNat)
 case atStart=>exact ⟨0,by omega,rfl,rfl,rfl⟩
 case round =>
  obtain ⟨k,hk,rfl,rfl,rfl⟩:=hrel
  by_cases hlt:k<size
  ·have hki:(k:Int)<(size:Int):=by omega
   obtain ⟨q,r,hqr,hqn,hr8,e2,e3,e1,e4,e5,e6,hq0,hq1⟩:=bit_place at_ k n (by omega) hn
   obtain ⟨b,off,rfl,hseg⟩:=hsg (by omega)
   have hc:=hseg q (by omega)
   obtain ⟨y,hy⟩:∃y,y=cs.getD q 0:=⟨_,rfl⟩
   rw [←hy] at hc
   have hyb:=Bytes.get HB.out q
   rw [←hy] at hyb
   obtain ⟨c,hcc⟩:∃c,c=y / 2 ^ r % 2:=⟨_,rfl⟩
   have hc01:0≤c∧c≤1:=by omega
   have HAN:Go.bits .and .u8 (y / 2 ^ r) 1=c:=by
    rw [and_one (Int.ediv_nonneg hyb.1 (Int.pow_nonneg (by omega))) (Int.lt_of_le_of_lt (Int.ediv_le_self _ hyb.1) hyb.2),hcc]
   have HWC:IntKind.u64.wrap c=c:=by simp [IntKind.wrap,IntKind.bits,IntKind.signed];omega
   have hp:=pow_small (show k≤63 by omega)
   have hp0:(0:Int)<2 ^ k:=Int.pow_pos (by decide)
   have HWS:IntKind.u64.wrap (c * 2 ^ k)=c * 2 ^ k:=by
    have h4:c=0∨c=1:=by omega
    rcases h4 with h4|h4<;>rw [h4]<;>simp [IntKind.wrap,IntKind.bits,IntKind.signed]<;>omega
   obtain ⟨X,hX⟩:∃X,X=getT cs at_ k:=⟨_,rfl⟩
   have HJ:Hid (∀_:Unit,getT cs at_ (k+1)=Go.bits .or .u64 X (c * 2 ^ k)):=fun _=>by
    rw [join_go (by omega) (by rw [hX];exact lg cs at_ k) hc01,getT,←hX,bitL,←hqr.1,←hqr.2,←hy,←hcc]
   rw [←hX]
   clear hqr hy hX hcc e1 e4 e5 e6 hseg hyb hc01 hp hp0
   go_wp2_with fail
   go_roundw
   case rel=>exact ⟨k+1,by omega,by rw [HJ.out ()],by go_num,trivial⟩
   case measure=>simp [RowKit.intOf];omega
  ·have hkn:k=size:=by omega
   subst hkn
   have hni:¬(k:Int)<(k:Int):=by omega
   go_wp2_with fail
   go_ret
   exact ⟨rfl,rfl⟩
theorem shl_one {r:Nat} (h:r<8):IntKind.u8.wrap (1 * 2 ^ r)=2 ^ r∧IntKind.u8.wrap (2 ^ r)=2 ^ r:=by
 rcases eight h with rfl|rfl|rfl|rfl|rfl|rfl|rfl|rfl<;>decide
theorem shl_bit {r:Nat} (h:r<8) {c:Int} (hc:0≤c∧c≤1):IntKind.u8.wrap (c * 2 ^ r)=c * 2 ^ r:=by
 have h4:c=0∨c=1:=by omega
 rcases h4 with rfl|rfl<;>rcases eight h with rfl|rfl|rfl|rfl|rfl|rfl|rfl|rfl<;>decide
theorem low_bit (X k:Nat):Go.bits .and .u8 ((X:Int) / 2 ^ k % 256) 1=((X / 2 ^ k % 2:Nat):Int):=by
 have e:((X:Int) / 2 ^ k)=((X / 2 ^ k:Nat):Int):=by push_cast;rfl
 rw [e,and_one (by omega) (by omega)]
 omega
theorem lq (g off n cap:Nat) (A l:List Int) (at_ size X:Nat) (hA:A.length=off) (hl:l.length=n) (hb:Bytes l) (hf:at_+size≤8 * n) (hn:n≤30000) (hs:size≤63) (w:World) (hr:Row w g (u8s (A++l)) 5) :
  Calls Tryz.prog 101 #[.slice (some ⟨g,off,none⟩) n cap,.int .i64 (at_:Int),.int .u64 (X:Int),.int .i64 (size:Int)] w fun e w'=>e=.returned (.tuple #[])∧Row w' g (u8s (A++putT l at_ X size)) 5∧Upd g w w':=by
 have hm:=Mem.enter hr
 have HB:Hid (Bytes l):=hb
 have HA:Hid (A.length=off):=hA
 have HL:Hid (l.length=n):=hl
 clear hr hb hA hl
 go_enter Tryz.func101,Tryz.ntmps101
 go_wp2_with fail
 go_loopw [12] (fun vi wr=>∃k:Nat,k≤size∧vi=.int .i64 k∧Hid (Mem w [g] wr [(g,u8s (A++putT l at_ X k),5)])) (fun vi _=>size - (RowKit.intOf vi).toNat)
 case atStart=>exact ⟨0,by omega,rfl,hm⟩
 case round =>
  clear hm
  obtain ⟨k,hk,rfl,HM⟩:=hrel
  by_cases hlt:k<size
  ·have hki:(k:Int)<(size:Int):=by omega
   obtain ⟨q,r,hqr,hqn,hr8,e2,e3,e1,e4,e5,e6,hq0,hq1⟩:=bit_place at_ k n (by omega) hn
   have HQR:Hid (∀_:Unit,q=(at_+k) / 8∧r=(at_+k) % 8):=fun _=>hqr
   obtain ⟨L,hL⟩:∃L,L=putT l at_ X k:=⟨_,rfl⟩
   have hll:L.length=n:=by rw [hL,fJ];exact HL.out
   have hbb:Bytes L:=by rw [hL];exact jz HB.out _ _ _
   obtain ⟨y,hy⟩:∃y,y=L.getD q 0:=⟨_,rfl⟩
   have hyb:=Bytes.get hbb q
   rw [←hy] at hyb
   have hm:=HM.out
   rw [←hL] at hm
   have HX:Hid ((u8s (A++L))[off+q]?=some (.int .u8 y)):=by
    show _=_
    rw [bW _ _ (by rw [List.length_append,HA.out,hll];omega),hy]
    simp only [List.getD_eq_getElem?_getD]
    rw [List.getElem?_append_right (by rw [HA.out];omega),HA.out,Nat.add_sub_cancel_left]
   have HLN:Hid (off+q<(u8s (A++L)).length):=by show _<_;rw [ab,List.length_append,HA.out,hll];omega
   obtain ⟨c,hcc⟩:∃c:Int,c=((X / 2 ^ k % 2:Nat):Int):=⟨_,rfl⟩
   have hc01:0≤c∧c≤1:=by rw [hcc];exact bit_two X k
   have HC1:Go.bits .and .u8 (IntKind.u8.wrap ((X:Int) / 2 ^ k)) 1=c:=by rw [hcc,IntKind.wrap_u8'];exact low_bit X k
   have HS1:IntKind.u8.wrap (2 ^ r)=2 ^ r:=(shl_one hr8).2
   have HS2:IntKind.u8.wrap (c * 2 ^ r)=c * 2 ^ r:=shl_bit hr8 hc01
   have HST:Hid ((u8s (A++L)).set (off+q) (.int .u8 (Go.bits .or .u8 (Go.bits .andNot .u8 y (2 ^ r)) (c * 2 ^ r)))=u8s (A++putT l at_ X (k+1))):=by
    show _=_
    rw [bi,setB_go hr8 hyb hc01,List.set_append_right _ _ (by rw [HA.out];omega),HA.out,Nat.add_sub_cancel_left,putT,setBitL,←hL,←(HQR.out ()).1,←(HQR.out ()).2,←hy,hcc]
   clear hqr hL hll hbb hy hyb hcc hc01 HM
   go_wp2_with fail
   refine dq 17 (by kernel_rfl) (by kernel_rfl) hm ?_
   clear hm
   intro w2 hm
   simp only [List.take_succ_cons,List.take_zero,List.drop_succ_cons,List.drop_zero]
   iterate 5 still_step
   refine gR (off+q) (.int .u8 y) (hm.get 0 rfl) rfl dy HX.out ?_
   iterate 11 still_step
   refine wpStill_nil ?_
   clear e1 e2 e3 e4 e5 e6
   go_wp2_with (first
    | ((with_reducible refine aa none (.store 5 (.tmp 40) (.tmp 39)) ?_);go_must (refine az 0 (off+q) (.int .u8 (Go.bits .or .u8 (Go.bits .andNot .u8 y (2 ^ r)) (c * 2 ^ r))) hm rfl rfl rfl av HLN.out rfl rfl ?_);clear hm;intro w3 hm))

   rw [List.set_cons_zero,HST.out] at hm
   have HM3:Hid (Mem w [g] w3 [(g,u8s (A++putT l at_ X (k+1)),5)]):=hm
   clear hm
   go_roundw
   case rel=>exact ⟨k+1,by omega,by go_num,HM3.out⟩
   case measure=>simp [RowKit.intOf];omega
  ·have hkn:k=size:=by omega
   subst hkn
   have hni:¬(k:Int)<(k:Int):=by omega
   have hm:=HM.out
   go_wp2_with fail
   go_end0
   exact ⟨rfl,hm.get 0 rfl,hm.toUpd⟩
open Go Go.RowKit Go.Maps
def gnV (g:Gn):Value:=.agg #[.int .u64 (g.first:Int),.int .u64 (g.next:Int),.int .u64 (g.limit:Int)]
theorem run_gensI (a b c:Int) (w:World):(Instr.build 72 #[(0,.int .u64 a),(1,.int .u64 b),(2,.int .u64 c)]).run Tryz.prog w=.ok (.agg #[.int .u64 a,.int .u64 b,.int .u64 c]) w:=run_build w 72 _ _ (by kernel_rfl)
section
variable {a:Act} {w:World} {dst:Option Tmp} {typ:TypeId} {pos:String} {aft:Array Edge} {gd:Option (Nat×Bool)}
theorem exec_gensI {x y z:Operand} (i j k:Int) (hx:a.eval x=.int .u64 i) (hy:a.eval y=.int .u64 j) (hz:a.eval z=.int .u64 k) :
  (execOp a.eval {dst:=dst,op:=.build 72 #[(0,x),(1,y),(2,z)],type:=typ,pos:=pos,after:=aft,guard:=gd}).run Tryz.prog w=.ok (.value (.agg [.int .u64 i,.int .u64 j,.int .u64 k].toArray)) w:=by
 unfold execOp
 simp only [List.map_toArray,List.map_cons,List.map_nil,hx,hy,hz,run_gensI,Sem.run_bind,Sem.run_pure,Result.andThen_ok]
theorem dl {x y:Operand} {i j:Int} (c:Int) (hx:a.eval x=.int .u64 i) (hy:a.eval y=.int .u64 j) (hc:(if i<j then j else i)=c) :
  (execOp a.eval {dst:=dst,op:=.call {callee:=.builtin .max,args:=#[x,y],argTypes:=#[70,70]},type:=typ,pos:=pos,after:=aft,guard:=gd}).run Tryz.prog w=.ok (.value (.int .u64 c)) w:=by
 subst hc
 unfold execOp
 simp only [resolve,invoke,builtin,Sem.run_bind,Sem.run_pure,Result.andThen_ok,List.map_toArray,List.map_cons,List.map_nil,hx,hy]
 simp [Builtin.max_,Builtin.max2]
end
theorem gQ (n:Nat) (w:World) :
  Calls Tryz.prog 56 #[.int .u64 (n:Int)] w fun e w'=>e=.returned (gnV (Gn.from n))∧Below w.heap.size w w':=by
 have hm:=Mem.start w
 go_enter Tryz.func56,Tryz.ntmps56
 go_wp2_with (first
  | ((with_reducible refine aa (some 2) (.alloc 72) ?_);refine ae _ iU hm ?_;clear hm;intro w1 g hm)
  | ((with_reducible refine aa (some 6) (.build 72 #[(0,.tmp 3),(1,.tmp 4),(2,.tmp 5)]) ?_);go_must (refine ag (.agg [.int .u64 (n:Int),.int .u64 (n:Int),.int .u64 (n:Int)].toArray) rfl (exec_gensI (n:Int) (n:Int) (n:Int) rfl rfl rfl) ?_))
  | ((with_reducible refine aa none (.store 72 (.tmp 2) (.tmp 6)) ?_);refine af 0 [.int .u64 (n:Int),.int .u64 (n:Int),.int .u64 (n:Int)] hm rfl rfl rfl 3 cH (rfl) (rfl) (by simp [Value.oneCell']) ?_;clear hm;intro w2 hm))
 obtain ⟨fs,hfs⟩:=gL
 exact ay 0 hm rfl Tryz.results56 rfl _ hfs rfl 3 cH rfl rfl ⟨rfl,hm.below⟩
theorem more_new (g:Gn) (known:Nat) (_h1:g.first≤g.next) (_h2:g.next≤g.limit) (hb:g.limit<2305843009213693952) (hkb:known<2305843009213693952) (hk:g.limit<known) (w:World) :
  Calls Tryz.prog 73 #[gnV g,.int .u64 (known:Int)] w fun e w'=>e=.returned (gnV (g.more known))∧Below w.heap.size w w':=by
 have hm:=Mem.start w
 have hki:(known:Int) > (g.limit:Int):=by omega
 obtain ⟨fs,hfs⟩:=gL
 have HFS:Hid (∀_:Unit,Tryz.prog.underlying 72=some (.struct fs)):=fun _=>hfs
 obtain ⟨M,hM⟩:∃M:Nat,M=max known (known+(known - known)):=⟨_,rfl⟩
 have HWD:IntKind.u64.wrap ((known:Int) - (known:Int))=((known - known:Nat):Int):=by simp [IntKind.wrap,IntKind.bits,IntKind.signed]
 have HWA:IntKind.u64.wrap ((known:Int)+((known - known:Nat):Int))=((known+(known - known):Nat):Int):=by simp [IntKind.wrap,IntKind.bits,IntKind.signed];omega
 have HMX:Hid ((if (known:Int)<(known:Int) then (known:Int) else (known:Int))=(M:Int)):=by show _=_;rw [hM];split<;>omega
 have HWM:IntKind.u64.wrap ((M:Int)+1)=(M:Int)+1:=by have h9:=gj (M+1) (by omega);simpa using h9
 have HMO:Hid (∀_:Unit,gnV (g.more known)=.agg #[.int .u64 (known:Int),.int .u64 (known:Int),.int .u64 ((M:Int)+1)]):=fun _=>by
  unfold gnV Gn.more
  simp only [if_pos hk,Gn.from]
  rw [←hM]
  rfl
 clear hM hfs
 unfold gnV
 go_enter Tryz.func73,Tryz.ntmps73
 go_wp2_with (first
  | ((with_reducible refine aa (some 2) (.box 72 (.tmp 0)) ?_);refine ak [.int .u64 (g.first:Int),.int .u64 (g.next:Int),.int .u64 (g.limit:Int)] rfl hm ?_;clear hm;intro w1 gb hm)
  | ((with_reducible refine aa (some 4) (.alloc 72) ?_);refine ae _ iU hm ?_;clear hm;intro w2 ga hm)
  | ((with_reducible refine aa (some 8) (.load 70 (.tmp 7)) ?_);refine au 1 2 (.int .u64 (g.limit:Int)) hm rfl rfl aN (rfl) ?_)
  | (go_at_call 56;refine (gQ known _).mono ?_;rintro e w3 ⟨rfl,hb⟩;replace hm:=hm.call hb;clear hb)
  | ((with_reducible refine aa none (.store 72 (.tmp 2) (.tmp 11)) ?_);refine af 1 [.int .u64 (known:Int),.int .u64 (known:Int),.int .u64 (known:Int)] hm rfl rfl rfl 3 cH (rfl) (rfl) (by simp [Value.oneCell']) ?_;clear hm;intro w4 hm)
  | ((with_reducible refine aa (some 13) (.load 70 (.tmp 12)) ?_);refine au 1 1 (.int .u64 (known:Int)) hm rfl rfl aN (rfl) ?_)
  | ((with_reducible refine aa (some 15) (.load 70 (.tmp 14)) ?_);refine au 1 0 (.int .u64 (known:Int)) hm rfl rfl aN (rfl) ?_)
  | ((with_reducible refine aa (some 18) (.load 70 (.tmp 17)) ?_);refine au 1 2 (.int .u64 (known:Int)) hm rfl rfl aN (rfl) ?_)
  | ((with_reducible refine aa (some 20) (.load 70 (.tmp 19)) ?_);refine au 1 1 (.int .u64 (known:Int)) hm rfl rfl aN (rfl) ?_)
  | ((with_reducible refine aa (some 23) (.call {callee:=.builtin .max,args:=#[.tmp 18,.tmp 22],argTypes:=#[70,70]}) ?_);go_must (refine ag (.int .u64 (M:Int)) rfl (dl _ rfl rfl HMX.out) ?_))
  | ((with_reducible refine aa none (.store 70 (.tmp 25) (.tmp 24)) ?_);refine az 1 2 (.int .u64 ((M:Int)+1)) hm rfl (rfl) rfl sz_u64 (by simp) rfl rfl ?_;clear hm;intro w5 hm)
  | ((with_reducible refine aa (some 26) (.load 72 (.tmp 2)) ?_);refine aq 1 hm rfl rfl (.struct fs) (HFS.out ()) rfl 3 cH rfl ?_)
  | ((with_reducible refine aa none (.store 72 (.tmp 4) (.tmp 26)) ?_);refine af 0 [.int .u64 (known:Int),.int .u64 (known:Int),.int .u64 ((M:Int)+1)] hm rfl rfl rfl 3 cH (rfl) (rfl) (by simp [Value.oneCell']) ?_;clear hm;intro w6 hm))
 exact ay 0 hm rfl Tryz.results73 rfl _ (HFS.out ()) rfl 3 cH rfl rfl ⟨by rw [←HMO.out ()];rfl,hm.below⟩
theorem more_same (g:Gn) (known:Nat) (h1:g.first≤g.next) (h2:g.next≤g.limit) (hb:g.limit<2305843009213693952) (_hkb:known<2305843009213693952) (hk:¬g.limit<known) (w:World) :
  Calls Tryz.prog 73 #[gnV g,.int .u64 (known:Int)] w fun e w'=>e=.returned (gnV (g.more known))∧Below w.heap.size w w':=by
 have hm:=Mem.start w
 have hki:¬(known:Int) > (g.limit:Int):=by omega
 obtain ⟨fs,hfs⟩:=gL
 have HFS:Hid (∀_:Unit,Tryz.prog.underlying 72=some (.struct fs)):=fun _=>hfs
 obtain ⟨M,hM⟩:∃M:Nat,M=max g.limit (g.next+(g.next - g.first)):=⟨_,rfl⟩
 have HWD:IntKind.u64.wrap ((g.next:Int) - (g.first:Int))=((g.next - g.first:Nat):Int):=by simp [IntKind.wrap,IntKind.bits,IntKind.signed];omega
 have HWA:IntKind.u64.wrap ((g.next:Int)+((g.next - g.first:Nat):Int))=((g.next+(g.next - g.first):Nat):Int):=by simp [IntKind.wrap,IntKind.bits,IntKind.signed];omega
 have HMX:Hid ((if (g.limit:Int)<((g.next+(g.next - g.first):Nat):Int) then ((g.next+(g.next - g.first):Nat):Int) else (g.limit:Int))=(M:Int)):=by show _=_;rw [hM];split<;>omega
 have HWM:IntKind.u64.wrap ((M:Int)+1)=(M:Int)+1:=by have h9:=gj (M+1) (by omega);simpa using h9
 have HMO:Hid (∀_:Unit,gnV (g.more known)=.agg #[.int .u64 (g.first:Int),.int .u64 (g.next:Int),.int .u64 ((M:Int)+1)]):=fun _=>by
  unfold gnV Gn.more
  simp only [if_neg hk]
  rw [←hM]
  rfl
 clear hM hfs
 unfold gnV
 go_enter Tryz.func73,Tryz.ntmps73
 go_wp2_with (first
  | ((with_reducible refine aa (some 2) (.box 72 (.tmp 0)) ?_);refine ak [.int .u64 (g.first:Int),.int .u64 (g.next:Int),.int .u64 (g.limit:Int)] rfl hm ?_;clear hm;intro w1 gb hm)
  | ((with_reducible refine aa (some 4) (.alloc 72) ?_);refine ae _ iU hm ?_;clear hm;intro w2 ga hm)
  | ((with_reducible refine aa (some 8) (.load 70 (.tmp 7)) ?_);refine au 1 2 (.int .u64 (g.limit:Int)) hm rfl rfl aN (rfl) ?_)
  | ((with_reducible refine aa (some 13) (.load 70 (.tmp 12)) ?_);refine au 1 1 (.int .u64 (g.next:Int)) hm rfl rfl aN (rfl) ?_)
  | ((with_reducible refine aa (some 15) (.load 70 (.tmp 14)) ?_);refine au 1 0 (.int .u64 (g.first:Int)) hm rfl rfl aN (rfl) ?_)
  | ((with_reducible refine aa (some 18) (.load 70 (.tmp 17)) ?_);refine au 1 2 (.int .u64 (g.limit:Int)) hm rfl rfl aN (rfl) ?_)
  | ((with_reducible refine aa (some 20) (.load 70 (.tmp 19)) ?_);refine au 1 1 (.int .u64 (g.next:Int)) hm rfl rfl aN (rfl) ?_)
  | ((with_reducible refine aa (some 23) (.call {callee:=.builtin .max,args:=#[.tmp 18,.tmp 22],argTypes:=#[70,70]}) ?_);go_must (refine ag (.int .u64 (M:Int)) rfl (dl _ rfl rfl HMX.out) ?_))
  | ((with_reducible refine aa none (.store 70 (.tmp 25) (.tmp 24)) ?_);refine az 1 2 (.int .u64 ((M:Int)+1)) hm rfl (rfl) rfl sz_u64 (by simp) rfl rfl ?_;clear hm;intro w5 hm)
  | ((with_reducible refine aa (some 26) (.load 72 (.tmp 2)) ?_);refine aq 1 hm rfl rfl (.struct fs) (HFS.out ()) rfl 3 cH rfl ?_)
  | ((with_reducible refine aa none (.store 72 (.tmp 4) (.tmp 26)) ?_);refine af 0 [.int .u64 (g.first:Int),.int .u64 (g.next:Int),.int .u64 ((M:Int)+1)] hm rfl rfl rfl 3 cH (rfl) (rfl) (by simp [Value.oneCell']) ?_;clear hm;intro w6 hm))
 exact ay 0 hm rfl Tryz.results73 rfl _ (HFS.out ()) rfl 3 cH rfl rfl ⟨by rw [←HMO.out ()];rfl,hm.below⟩
open Go Go.RowKit
def secOf (l:List Int) (i:Nat):List Int:=(l.drop (64 * i)).take 64
theorem gX {l:List Int} {i:Nat} (h:64 * i+64≤l.length):(secOf l i).length=64:=by simp [secOf];omega
theorem iy {l:List Int} (h:Bytes l) (i:Nat):Bytes (secOf l i):=(h.drop _).take _
def rewL (d:Dk) (old new:List Int):Nat→Dk
 | 0=>d
 | i+1=>if secOf new i=secOf old i then rewL d old new i else (rewL d old new i).write (i:Int) (secOf new i)
theorem write_still {d:Dk} (h1:d.off=false) (h2:d.left=0) (i:Int) (bs:List Int):(d.write i bs).off=false∧(d.write i bs).left=0∧(d.write i bs).n=d.n∧(d.write i bs).kept=d.kept:=by
 unfold Dk.write
 split
 ·simp [Dk.put,Dk.step,h1,h2]
 ·simp [Dk.step,h1,h2]
theorem write_steps (d:Dk) (i:Int) (bs:List Int):(d.write i bs).steps=d.steps+1:=by
 unfold Dk.write
 split<;>rfl
theorem fv {d:Dk} (h1:d.off=false) (h2:d.left=0) (old new:List Int):∀k,(rewL d old new k).off=false∧(rewL d old new k).left=0∧(rewL d old new k).n=d.n∧(rewL d old new k).kept=d.kept
 | 0=>⟨h1,h2,rfl,rfl⟩
 | k+1=>by
  obtain ⟨a,b,c,e⟩:=fv h1 h2 old new k
  rw [rewL]
  split
  ·exact ⟨a,b,c,e⟩
  ·obtain ⟨a',b',c',e'⟩:=write_still a b (k:Int) (secOf new k)
   exact ⟨a',b',by rw [c',c],by rw [e',e]⟩
theorem jI (d:Dk) (old new:List Int):∀k,d.steps≤(rewL d old new k).steps∧(rewL d old new k).steps≤d.steps+k
 | 0=>by simp [rewL]
 | k+1=>by
  have ih:=jI d old new k
  rw [rewL]
  split
  ·omega
  ·rw [write_steps];omega
theorem j0 {d:Dk} (h:d.Ok) (old:List Int) {new:List Int} (hb:Bytes new):∀k,(rewL d old new k).Ok
 | 0=>h
 | k+1=>by
  rw [rewL]
  split
  ·exact j0 h old hb k
  ·exact Dk.write_ok (j0 h old hb k) (iy hb k)
/-- A whole sector written stands there. -/
theorem write_now {d:Dk} (hk:d.Ok) (h1:d.off=false) (h2:d.left=0) {i:Nat} (hi:i<d.n) {bs:List Int} (hb:bs.length=64) (j:Nat):(d.write (i:Int) bs).now j=if j=i then bs else d.now j:=by
 have hs:d.step.off=false:=by simp [Dk.step,h1,h2]
 have hf:d.fits (i:Int) bs=true:=by
  unfold Dk.fits
  rw [decide_eq_true (by omega),decide_eq_true (by omega)]
  rfl
 have ho:over (d.now i) bs=bs:=by
  unfold over
  rw [hb,List.drop_of_length_le (by rw [hk.now hi];exact Nat.le_refl _),List.append_nil]
 unfold Dk.write
 rw [if_pos ⟨hs,hf⟩,show ((i:Int)).toNat=i by omega,ho]
 unfold Dk.now Dk.put
 by_cases hj:j=i
 ·subst hj
  simp [cX]
 ·rw [if_neg hj]
  simp only [bx d.step.pend _ hj]
  rfl
theorem rewL_now {d:Dk} (hk:d.Ok) (h1:d.off=false) (h2:d.left=0) {old new:List Int} (hb:Bytes new) (hl:new.length=2048) (hn:32≤d.n) (hold:∀i,i<32→d.now i=secOf old i) (j:Nat):∀k,k≤32→(rewL d old new k).now j=if j<k then secOf new j else d.now j
 | 0,_=>by rw [rewL,if_neg (by omega)]
 | k+1,hkk=>by
  have ih:=rewL_now hk h1 h2 hb hl hn hold j k (by omega)
  obtain ⟨a,b,c,_⟩:=fv h1 h2 old new k
  rw [rewL]
  split
  ·rename_i he
   rw [ih]
   by_cases hj:j=k
   ·subst hj
    rw [if_neg (by omega),if_pos (by omega),hold j (by omega),he]
   ·by_cases hj2:j<k
    ·rw [if_pos hj2,if_pos (by omega)]
    ·rw [if_neg hj2,if_neg (by omega)]
  ·rw [write_now (j0 hk old hb k) a b (by rw [c];omega) (gX (by omega)),ih]
   by_cases hj:j=k
   ·subst hj
    rw [if_pos rfl,if_pos (by omega)]
   ·rw [if_neg hj]
    by_cases hj2:j<k
    ·rw [if_pos hj2,if_pos (by omega)]
    ·rw [if_neg hj2,if_neg (by omega)]
def rewArea (d:Dk) (old new:List Int):Dk:=(rewL d old new 32).flush
theorem lv {d:Dk} (hk:d.Ok) (h1:d.off=false) (h2:d.left=0) {old new:List Int} (hb:Bytes new) (hl:new.length=2048) (hn:32≤d.n) (hold:∀i,i<32→d.now i=secOf old i) (j:Nat) :
  (rewArea d old new).now j=if j<32 then secOf new j else d.now j:=by
 obtain ⟨a,b,_,_⟩:=fv h1 h2 old new 32
 have hs:(rewL d old new 32).step.off=false:=by simp [Dk.step,a,b]
 unfold rewArea Dk.flush
 rw [if_neg (by rw [hs];simp)]
 show ((fun _=>none:Nat→Option (List Int)) j).getD ((rewL d old new 32).step.now j)=_
 rw [Dk.step_now]
 exact rewL_now hk h1 h2 hb hl hn hold j 32 (by omega)
theorem eE {d:Dk} (h1:d.off=false) (h2:d.left=0) (old new:List Int):(rewArea d old new).off=false∧(rewArea d old new).left=0∧(rewArea d old new).n=d.n∧(∀i,(rewArea d old new).pend i=none)∧d.steps≤(rewArea d old new).steps∧(rewArea d old new).steps≤d.steps+33:=by
 obtain ⟨a,b,c,_⟩:=fv h1 h2 old new 32
 have hs:(rewL d old new 32).step.off=false:=by simp [Dk.step,a,b]
 have hst:=jI d old new 32
 unfold rewArea Dk.flush
 rw [if_neg (by rw [hs];simp)]
 refine ⟨hs,by show (if 0<(rewL d old new 32).left then _ else _)=0;rw [if_neg (by omega)];exact b,c,fun _=>rfl,?_,?_⟩
 ·show d.steps≤(rewL d old new 32).steps+1;omega
 ·show (rewL d old new 32).steps+1≤d.steps+33;omega
theorem jm {d:Dk} (h:d.Ok) (old:List Int) {new:List Int} (hb:Bytes new):(rewArea d old new).Ok:=by
 unfold rewArea Dk.flush
 split
 ·exact Dk.step_ok (j0 h old hb 32)
 ·exact Dk.flushed_ok (Dk.step_ok (j0 h old hb 32))
def area (b0 table b1:List Int):List Int:=b0++(table++b1)
def place (l:List Int) (at_:Nat):List Int:=(l.drop (1749 * at_)).take 299
def tableOf (l:List Int):List Int:=(l.drop 299).take 1450
theorem my {b0 table b1:List Int} (h:b0.length=299):place (area b0 table b1) 0=b0:=by
 unfold place area
 rw [Nat.mul_zero,List.drop_zero,←h,List.take_left]
theorem place_one {b0 table b1:List Int} (h0:b0.length=299) (ht:table.length=1450) (h1:b1.length=299):place (area b0 table b1) 1=b1:=by
 unfold place area
 rw [Nat.mul_one,show 1749=299+1450 by rfl,←List.drop_drop,dh h0,dh ht,List.take_of_length_le (by omega)]
theorem jD {l:List Int} (h:l.length=2048):area (place l 0) (tableOf l) (place l 1)=l:=by
 unfold area place tableOf
 rw [Nat.mul_zero,List.drop_zero,Nat.mul_one]
 have e:(l.drop 1749).take 299=(l.drop 299).drop 1450:=by
  rw [List.drop_drop,List.take_of_length_le (by rw [List.length_drop];omega)]
 rw [e,List.take_append_drop,List.take_append_drop]
open Go Go.RowKit Go.Maps
theorem equal_any (xs ys:List Int) (u v:Value) (hx:Bytes xs) (hy:Bytes ys) (w:World) (hu:SlOld w u xs) (hv:SlOld w v ys) :
  Calls Tryz.prog 102 #[u,v] w fun e w'=>e=.returned (.bool (decide (xs=ys)))∧w'=w:=by
 obtain ⟨p,cap,rfl,hc1,hs1⟩:=hu
 obtain ⟨q,cap2,rfl,hc2,hs2⟩:=hv
 have HU:Hid (SlOld w (.slice p xs.length cap) xs):=⟨p,cap,rfl,hc1,hs1⟩
 have HV:Hid (SlOld w (.slice q ys.length cap2) ys):=⟨q,cap2,rfl,hc2,hs2⟩
 have HE:Hid ((strOf xs==strOf ys)=decide (xs=ys)):=fY hx hy
 clear hs1 hs2 hx hy
 go_enter Tryz.func102,Tryz.ntmps102
 go_wp2_with (first
  | ((with_reducible refine aa (some 6) (.convert 22 9 (.tmp 5)) ?_);go_must (refine ag (.string (strOf xs)) rfl (aA ai aL aR xs rfl HU.out) ?_))
  | ((with_reducible refine aa (some 8) (.convert 22 9 (.tmp 7)) ?_);go_must (refine ag (.string (strOf ys)) rfl (aA ai aL aR ys rfl HV.out) ?_))
  | ((with_reducible refine aa (some 9) (.binOp .eql 9 (.tmp 6) (.tmp 8) 9) ?_);go_must (refine ag (.bool (decide (xs=ys))) rfl (exec_eqsB (strOf xs) (strOf ys) _ rfl rfl HE.out) ?_)))
 go_ret
 exact ⟨rfl,rfl⟩
theorem fQ (at_:Nat) (h:at_≤1) (w:World) :
  Calls Tryz.prog 106 #[.int .i64 (at_:Int)] w fun e w'=>e=.returned (.int .i64 ((1749 * at_:Nat):Int))∧w'=w:=by
 have HW:Hid (∀_:Unit,((1749 * at_:Nat):Int)=(at_:Int) * 1749):=fun _=>by omega
 go_enter Tryz.func106,Tryz.ntmps106
 go_wp2_with fail
 go_ret
 exact ⟨by rw [HW.out ()];rfl,rfl⟩
def withB (l:List Int) (at_:Nat) (b:List Int):List Int:=splice l (1749 * at_) b
theorem withB_length {l b:List Int} {at_:Nat} (hl:l.length=2048) (ha:at_≤1) (hb:b.length=299):(withB l at_ b).length=2048:=by
 simp [withB,splice];omega
theorem withB_bytes {l b:List Int} (hl:Bytes l) (hb:Bytes b) (at_:Nat):Bytes (withB l at_ b):=hl.splice hb _
theorem jJ {l b:List Int} (hl:l.length=2048) (hb:b.length=299):withB l 0 b=area b (tableOf l) (place l 1):=by
 have h:=jD hl
 unfold withB
 conv=>lhs;rw [←h]
 have h0:(place l 0).length=299:=by simp [place];omega
 unfold splice area
 rw [Nat.mul_zero,List.take_zero,List.nil_append,Nat.zero_add,hb,dh h0]
theorem kJ {l b:List Int} (hl:l.length=2048) (hb:b.length=299):withB l 1 b=area (place l 0) (tableOf l) b:=by
 have h:=jD hl
 have e:area (place l 0) (tableOf l) (place l 1)=(place l 0++tableOf l)++place l 1:=by unfold area;rw [List.append_assoc]
 rw [e] at h
 have h0:(place l 0++tableOf l).length=1749:=by simp [place,tableOf];omega
 have h1:(place l 1).length=299:=by simp [place];omega
 unfold withB
 conv=>lhs;rw [←h]
 unfold splice area
 rw [Nat.mul_one,←h0,List.take_left,List.drop_of_length_le (by rw [List.length_append,h1,hb];exact Nat.le_refl _),List.append_nil,List.append_assoc]
theorem nk (l bs:List Int) (u v:Value) (at_:Nat) (ha:at_≤1) (hl:l.length=2048) (hbl:bs.length=299) (w:World) (hu:SlOld w u l) (hv:SlOld w v bs) :
  Calls Tryz.prog 77 #[u,.int .i64 (at_:Int),v] w fun e w'=>∃g,e=.returned (.slice (some ⟨g,0,none⟩) 2048 2048)∧w.heap.size≤g∧Row w' g (u8s (withB l at_ bs)) 5∧Below w.heap.size w w':=by
 obtain ⟨q,cap,rfl,hc,hs⟩:=hv
 have HV:Hid (SlOld w (.slice q 299 cap) bs):=by have h9:SlOld w (.slice q bs.length cap) bs:=⟨q,cap,rfl,hc,hs⟩;rw [hbl] at h9;exact h9
 have HU:Hid (SlOld w u l):=hu
 have HL:Hid (l.length=2048):=hl
 have hm:=Mem.start w
 have hfl:fillTo l 2048=l:=by rw [fillTo,List.take_of_length_le (by omega),hl];simp
 have HFL:Hid (∀_:Unit,fillTo l 2048=l):=fun _=>hfl
 obtain ⟨o,ho⟩:∃o:Nat,o=1749 * at_:=⟨_,rfl⟩
 have hob:o≤1749:=by omega
 have HO:Hid (∀_:Unit,1749 * at_=o):=fun _=>ho.symm
 have HNE:Hid (splice (u8s l) o (u8s (bs.take 299))=u8s (withB l at_ bs)):=by
  show _=_
  rw [List.take_of_length_le (by omega),withB,←ho]
  simp [splice,u8s]
 have HLU:Hid ((u8s l).length=2048):=by show _=_;rw [ab,hl]
 rw [hbl]
 clear hu hs hl hbl hc hfl ho
 go_enter Tryz.func77,Tryz.ntmps77
 go_wp2_with (first
  | (go_at_call 71;refine (aV l _ 2048 2048 HL.out (by omega) _ HU.out).mono ?_;rintro e w1 ⟨g,rfl,hge,hr,hb⟩;rw [HFL.out ()] at hr;replace hm:=hm.callNew hb hr hge;clear hge hr hb)
  | (go_at_call 106;refine (fQ at_ ha _).mono ?_;rintro e w2 ⟨he,hw⟩;rw [HO.out ()] at he;subst he;replace hw:=hw.symm;subst hw)
  | ((with_reducible refine aa (some 13) (.slice 22 (.tmp 10) (some (.tmp 12)) none none) ?_);go_must (refine ag (.slice (cutLo (some ⟨g,0,none⟩) 2048 o) (2048 - o) (2048 - o)) rfl (dx ai av o (by omega) rfl rfl rfl) ?_);rw [show cutLo (some ⟨g,0,none⟩) 2048 o=some ⟨g,o,none⟩ by unfold cutLo;rw [if_neg (by omega)];simp [bR]])
  | ((with_reducible refine aa (some 15) (.call {callee:=.builtin .copy,args:=#[.tmp 13,.tmp 14],argTypes:=#[22,22]}) ?_);go_must (refine fj 0 bs 299 (u8s (withB l at_ bs)) hm rfl rfl rfl _ ai av (SlOld.mem HV.out hm) (by show 299=min 299 (2048 - o);omega) (by have:=HLU.out;omega) HNE.out ?_);clear hm;intro w3 hm))
 go_ret
 have hf:=hm.fresh _ (List.mem_cons_self ..)
 exact ⟨g,rfl,by simpa using hf,hm.get 0 rfl,hm.below⟩
end Go.Proofs.YtdkkdkgdaambiaaGreatDoor
