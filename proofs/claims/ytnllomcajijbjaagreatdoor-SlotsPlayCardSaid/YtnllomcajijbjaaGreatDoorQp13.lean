import Derived.Test.YtnllomcajijbjaaGreatDoorQp11
import Derived.Test.YtnllomcajijbjaaGreatDoorQp12
import Derived.Lib.SlBytesConst
set_option maxRecDepth 100000
set_option maxHeartbeats 4000000
namespace Go.Proofs.YtnllomcajijbjaaGreatDoor
open Go Go.RowKit Go.Maps
open Go.Sort Go.Shelf
theorem sortsA (m:Nat):AnyZI.SortsIn Tryz.prog sortedA_ren Fence.wide m :=
 ⟨fun blk off cap ss W hH hblk hsz=>callsIn_wide.2 (AnyM.slices_Sort_int sortA blk off cap ss W hH hblk hsz),
  fun p cap W=>callsIn_wide.2 (AnyM.slices_Sort_int_none sortA p cap W)⟩
def Ints (w:World) (base:Nat) (v:Value) (ks:List Nat):Prop :=
 ∃p cap,v=.slice p ks.length cap∧(0<ks.length→∃b,p=some ⟨b,0,none⟩∧base≤b∧b<w.heap.size∧∀(j i:Nat),ks[j]?=some i→w.cell? ⟨b,j,none⟩=some (.int .i64 (i:Int)))
theorem Ints.upd {w w':World} {base:Nat} {v:Value} {ks:List Nat} {L:List Nat} (h:Ints w base v ks) (hu:UpdS L w w') (hL:∀k∈L,k<base):Ints w' base v ks:=by
 obtain ⟨p,cap,rfl,h2⟩:=h
 refine ⟨p,cap,rfl,fun h0=>?_⟩
 obtain ⟨b,rfl,hb,hlt,hc⟩:=h2 h0
 refine ⟨b,rfl,hb,Nat.lt_of_lt_of_le hlt hu.size,fun j i hj=>?_⟩
 rw [World.cell?_of_block (w:=w) (a:=⟨b,j,none⟩) (hu.block b hlt (fun hh=>by have:=hL b hh;omega))]
 exact hc j i hj
theorem keys_call (mb:Option Nat) (W:World):Calls Tryz.prog 31 #[.map mb] W fun e w'=>e=.returned (.func (.func 46) #[] #[.pointer (some ⟨W.heap.size,0,none⟩)])∧w'=W.alloc (.cells #[.map mb] 51) :=
 callsIn_wide.1 (AnyZI.keys_in keysA Fence.wide 5 trivial rfl mb W)
theorem sorted_disk (g mb:Nat) (kv:Value) (d:Dk) (w:World) (hd:DkAt w g mb kv d) :
  Calls Tryz.prog 30 #[.func (.func 46) #[] #[.pointer (some ⟨w.heap.size,0,none⟩)]] (w.alloc (.cells #[.map (some mb)] 51)) fun e w'=>∃v,e=.returned v∧Ints w' w.heap.size v (d.pens d.n)∧Below w.heap.size w w':=by
 obtain ⟨q,D,hown,pm⟩:=hd.map
 have hbl:=hown.lt
 have hsz:=pm.size hd.ok hown
 have hrk:=d.rank_le d.n
 have hn:=hd.ok.n
 have hseq:SeqGives Fence.wide 2 Tryz.prog 46 #[.pointer (some ⟨w.heap.size,0,none⟩)] encZ (fun ss=>ss.Perm (intKeys D)) (Maps.size D) (w.alloc (.cells #[.map (some mb)] 51)) :=
  AnyZI.keys_gives (ρ:=keysA_ren) {keysA with} Fence.wide _ trivial rfl (by omega) w.heap.size mb q D _ (by simp) (by simp) (by
   obtain ⟨es,clock,hb,Ft,hs,hD⟩:=hown
   exact ⟨es,clock,(Below.heap_alloc _ _ mb hbl).trans hb,Ft,hs,hD⟩)
 have cS:=AnyZI.sorted_in sortedA Fence.wide 5 trivial trivial trivial trivial rfl (by omega) (sortsA _) (enters_of Tryz.func45 (by kernel_rfl) rfl) 46 #[.pointer (some ⟨w.heap.size,0,none⟩)] trivial (enters_of Tryz.func46 (by kernel_rfl) rfl) _ _ (by unfold maxLen;omega) (by omega) _ hseq
 change CallsIn _ _ Tryz.prog 30 _ _ _ at cS
 refine (callsIn_wide.1 cS).mono ?_
 rintro e w' ⟨v,ss,rfl,hS,hrow,_,hb⟩
 have hbw:Below w.heap.size w (w.alloc (.cells #[.map (some mb)] 51)):=(Below.refl _ w).alloc (Nat.le_refl _) _
 refine ⟨v,rfl,?_,hbw.trans (hb.mono (by simp))⟩
 rw [pm.sorted hd.ok hown hS] at hrow
 have hlen:ss.length=(d.pens d.n).length:=by
  have h1:=hS.length_eq
  have h2:=(pm.perm hd.ok hown).length_eq
  rw [List.length_map] at h2
  omega
 rw [hlen] at hrow
 have hr0:=hrow
 rcases hrow.2 with ⟨rfl,hz⟩|⟨gb,cap,cur,rfl,hbase,hgb,r1,r2,r3,r4⟩
 ·exact ⟨none,0,by rw [hz],fun h=>absurd h (by omega)⟩
 ·refine ⟨_,cap,rfl,fun _=>⟨gb,rfl,by simp at hbase;omega,(Array.getElem?_eq_some_iff.1 hgb).1,fun j i hj=>?_⟩⟩
  have:=World.ownsRow.cells hr0 rfl j (.int .i64 (i:Int)) (by simp [hj])
  rw [bM,Nat.zero_add] at this
  exact this
end Go.Proofs.YtnllomcajijbjaaGreatDoor
namespace Go.Proofs.YtnllomcajijbjaaGreatDoor
open Go Go.RowKit Go.Maps
section
variable {P:Program} {md:Region.Mode} {ops:Array Oper} {R:Act→World→Prop} {T T2:World→Prop} {c fuel:Nat} {listed:Array Bool} {a:Act} {w:World}
/-- Nothing but i may come up, and it is not c. -/
theorem anyC_one (i:Nat) {o:Oper} (hr:Region.ready md ops listed=[i]) (hi:ops[i]?=some o) (hg:o.guard=none) (hic:decide (i=c)=false)
  (h:∀K:Act→World→Prop,(∀a' w',T w'→wpAnyC P md ops (endsIn R) c T T2 fuel (listed.setIfInBounds i true) a' w'→K a' w')→wpList P ops (endsIn K) [o] a w):wpAnyC P md ops (endsIn R) c T T2 (fuel+1) listed a w:=by
 refine ⟨fun h0=>absurd (hr▸h0) (by simp),fun j hj=>?_⟩
 rw [hr] at hj
 obtain rfl:j=i:=by simpa using hj
 have hne:¬j=c:=of_decide_eq_false hic
 have hh:=h (fun a' w'=>T w'∧wpAnyC P md ops (endsIn R) c T T2 fuel (listed.setIfInBounds j true) a' w') (fun _ _ h1 h2=>⟨h1,h2⟩)
 simp only [if_neg hne]
 unfold wpOp
 simp only [hi]
 have hw:Region.wanted o (yielded ops a.tmps)=true:=by simp [Region.wanted,hg]
 unfold wpList at hh
 rw [if_pos hw] at hh
 rw [if_pos hw]
 exact hh
end
def Dk.calm (d:Dk):Dk:={d with left:=0,off:=false}
def Dk.cr (d:Dk) (cs:List Int) (k:Nat):Dk:={d.calm with kept:=d.keptAt cs k}
theorem SlA.at {w:World} {L:List Nat} {p:Option Addr} {n cap:Nat} {cs:List Int} (h:SlA w L (.slice p n cap) cs) (k:Nat) (hk:k<n):∃b off,p=some ⟨b,off,none⟩∧b ∉ L∧w.cell? ⟨b,off+k,none⟩=some (.int .u8 (cs.getD k 0)):=by
 obtain ⟨p',cap',he,_,h2⟩:=h
 simp only [Value.slice.injEq] at he
 obtain ⟨rfl,rfl,rfl⟩:=he
 obtain ⟨b,off,rfl,hb,hs⟩:=h2 (by omega)
 exact ⟨b,off,rfl,hb,hs k hk⟩
theorem cC {P:Program} {a:Act} {w:World} {dst:Option Tmp} {typ:TypeId} {pos:String} {aft:Array Edge} {gd:Option (Nat×Bool)} {x ix:Operand} {t e:TypeId} (hu:P.underlying t=some (.slice e)) (hs:(P.info? e).map (·.size)=some 1) {b o n cap:Nat} (i:Nat) {ii:Int} (hx:a.eval x=.slice (some ⟨b,o,none⟩) n cap) (hix:a.eval ix=.int .i64 ii) (hii:ii=(i:Int)) (hi:i<n) :
  (execOp a.eval {dst:=dst,op:=.indexAddr t x ix,type:=typ,pos:=pos,after:=aft,guard:=gd}).run P w=.ok (.value (.pointer (some ⟨b,o+i,none⟩))) w:=by
 subst hii
 have h0:(0:Int)≤(i:Int)∧(i:Int)<(n:Int):=by omega
 cases hq:P.info? e with
 | none=>simp [hq] at hs
 | some q =>
  have hs1:q.size=1:=by simpa [hq] using hs
  have hsz:(sizeOf e).run P w=.ok 1 w:=by simp [sizeOf,typeInfo,hq,hs1]
  unfold execOp
  simp [hx,hix,Instr.indexAt,asIntOf,run_underlying hu,h0,bM,hsz]
  omega
theorem cM:Tryz.prog.underlying 48=some (.slice 3):=Tryz.underlying48
theorem crash_any (g mb:Nat) (kv:Value) (d:Dk) (cs:List Int) (vc:Value) (hcb:Bytes cs) (w:World) (hd:DkAt w g mb kv d) (hs:SlA w (foot g mb kv) vc cs) :
  Calls Tryz.prog 13 #[.pointer (some ⟨g,0,none⟩),vc] w fun e w'=>e=.returned (.tuple #[])∧DkAt w' g mb kv (d.crash cs)∧UpdS (foot g mb kv) w w':=by
 obtain ⟨pc,cc,rfl,hccap,_⟩:=id hs
 obtain ⟨cl,hcl⟩:∃cl,cl=cs.length:=⟨_,rfl⟩
 have HSC0:Hid (SlA w (foot g mb kv) (.slice pc cl cc) cs):=by rw [hcl];exact hs
 have HCL:Hid (∀_:Unit,cl=cs.length):=fun _=>hcl
 have HCS:Hid (Bytes cs):=hcb
 rw [←hcl]
 have HD0:Hid (DkAt w g mb kv d):=hd
 obtain ⟨s,hs0⟩:∃s,s=d.steps:=⟨_,rfl⟩
 have HSS:Hid (∀_:Unit,d.steps=s):=fun _=>hs0.symm
 have hr:=hd.row
 rw [←hs0] at hr
 obtain ⟨l0,hl0⟩:∃l,l=d.left:=⟨_,rfl⟩
 obtain ⟨o0,ho0⟩:∃o,o=d.off:=⟨_,rfl⟩
 rw [←hl0,←ho0] at hr
 have hm:=Mem.enter hr
 clear hd hs hcb hcl hccap hs0 hl0 ho0 hr
 go_enter Tryz.func13,Tryz.ntmps13
 go_wp2_with (first
  | ((with_reducible refine aa none (.store 3 (.tmp 10) (.const (.int .i64 0))) ?_);refine bm 0 3 (.int .i64 0) hm rfl (rfl) rfl dw (by show _<5;omega) rfl rfl ?_;clear hm;intro w1 hm;replace hm:Mem w [g] _ [(g,drow kv mb s 0 o0,53)]:=hm)
  | ((with_reducible refine aa none (.store 4 (.tmp 12) (.const (.bool false))) ?_);refine bm 0 4 (.bool false) hm rfl (rfl) rfl iC (by show _<5;omega) rfl rfl ?_;clear hm;intro w2 hm;replace hm:Mem w [g] _ [(g,drow kv mb s 0 false,53)]:=hm)
  | ((with_reducible refine aa (some 16) (.load 51 (.tmp 15)) ?_);refine bi 0 1 (.map (some mb)) hm rfl rfl dL rfl ?_;have HD2:Hid (DkAt w2 g mb kv d.calm):=HD0.out.turn (d':=d.calm) hm.toUpd (by show Row w2 g (drow kv mb d.steps 0 false) 53;rw [HSS.out ()];exact hm.get 0 rfl) rfl rfl rfl;have HU2:Hid (UpdS (foot g mb kv) w w2):=UpdS.of_upd hm.toUpd (hF ..);clear hm)
  | (go_at_call 31;refine (keys_call (some mb) w2).mono ?_;rintro e w3 ⟨rfl,hw3⟩;subst hw3)
  | (go_at_call 30;refine (sorted_disk g mb kv d.calm w2 HD2.out).mono ?_;rintro e w4 ⟨v,he,hin,hb⟩;obtain ⟨pv,cv,hv,hp2⟩:=id hin;have HIN0:Hid (Ints w4 w2.heap.size v (d.pens d.n)):=hin;have HP2:Hid _:=hp2;have HB4:Hid _:=hb;clear hin hp2 hb;have HV:Hid (∀_:Unit,v=.slice pv (d.rank d.n) cv):=fun _=>hv;subst he;replace hv:v=.slice pv (d.rank d.n) cv:=hv;obtain ⟨rk,hrk⟩:∃rk,rk=d.rank d.n:=⟨_,rfl⟩;have HRK0:Hid (∀_:Unit,rk=d.rank d.n):=fun _=>hrk;rw [←hrk] at hv;subst hv;clear hrk HV))
 have HFT:Hid (∀k∈foot g mb kv,k<w2.heap.size):=HD2.out.lt
 have HRB:Hid (∀_:Unit,d.rank d.n≤4000):=fun _=>Nat.le_trans (d.rank_le d.n) HD0.out.ok.n
 have hrk4:rk≤4000:=by rw [HRK0.out ()];exact HRB.out ()
 have HST:Hid (DkAt w4 g mb kv (d.cr cs 0)∧UpdS (foot g mb kv) w w4∧SlA w4 (foot g mb kv) (.slice pc cl cc) cs):=by
  have hu:UpdS (foot g mb kv) w w4:=HU2.out.trans (UpdS.of_below HB4.out)
  refine ⟨(HD2.out.below HB4.out).congr ?_,hu,HSC0.out.upd hu⟩
  show d.calm=d.cr cs 0
  unfold Dk.cr
  rw [show d.keptAt cs 0=d.kept from funext (d.keptAt_zero cs)]
  rfl
 have HOK:Hid d.Ok:=HD0.out.ok
 clear HD0 HD2 HU2 HB4 HSC0
 go_loopw [20] (fun vk wr=>∃k:Nat,k≤rk∧vk=.int .i64 (k:Int)∧DkAt wr g mb kv (d.cr cs k)∧UpdS (foot g mb kv) w wr∧Ints wr w2.heap.size (.slice pv rk cv) (d.pens d.n)∧SlA wr (foot g mb kv) (.slice pc cl cc) cs)
  (fun vk _=>rk - (intOf vk).toNat)
 case atStart=>exact ⟨0,by omega,rfl,HST.out.1,HST.out.2.1,HIN0.out,HST.out.2.2⟩
 case round =>
  obtain ⟨k,hk,rfl,hdr,hur,hin,hsc⟩:=hrel
  have HR:Hid _:=hdr
  have HUR:Hid _:=hur
  have HIN:Hid (Ints wr w2.heap.size (.slice pv rk cv) (d.pens d.n)):=hin
  have HSC:Hid (SlA wr (foot g mb kv) (.slice pc cl cc) cs):=hsc
  clear hdr hur hin hsc HST HIN0
  by_cases hlt:k<rk
  ·have hkr:(k:Int)<(rk:Int):=by omega
   have hkp:k<(d.pens d.n).length:=by show k<d.rank d.n;rw [←HRK0.out ()];exact hlt
   obtain ⟨i,hki⟩:∃i,(d.pens d.n)[k]?=some i:=⟨_,List.getElem?_eq_getElem hkp⟩
   have hmem:=(d.pens_mem d.n i).1 (List.mem_of_getElem? hki)
   obtain ⟨l,hpl⟩:=Option.isSome_iff_exists.1 hmem.2
   have hok:=HOK.out.pend i l hpl
   have HKI:Hid ((d.pens d.n)[k]?=some i):=hki
   have HPL:Hid ((d.cr cs k).pend i=some l):=hpl
   obtain ⟨pv',cv',hv',hp2⟩:=HIN.out
   have hp3:=hp2 (by omega)
   simp only [Value.slice.injEq] at hv'
   have hv1:=hv'.1
   clear hv'
   obtain ⟨b,hpb,_,_,hcells⟩:=hp3
   rw [hpb] at hv1
   have hci:wr.cell? ⟨b,k,none⟩=some (.int .i64 (i:Int)):=hcells k i hki
   have HCI:Hid _:=hci
   subst hv1
   have hi4:i≤4000:=by have:=HOK.out.n;omega
   obtain ⟨kb,cap,tl,hkv,hcap,hrkk⟩:=HR.out.kept.some (by show 0<d.n;omega)
   obtain ⟨n,hn⟩:∃n,n=d.n:=⟨_,rfl⟩
   have HN:Hid (∀_:Unit,d.n=n):=fun _=>hn.symm
   have HKE:Hid (kv=.slice (some ⟨kb,0,none⟩) n cap):=by show _=_;rw [hkv,hn];rfl
   have HKB:Hid (∀_:Unit,kb∈kbOf kv):=fun _=>by rw [hkv];simp [kbOf];show ¬d.n=0;omega
   have HRK:Hid (Row wr kb (u8s (flatK (d.keptAt cs k) d.n)++tl) 83):=hrkk
   have HKL:Hid (∀i,i<d.n→(d.keptAt cs k i).length=64):=fun j hj=>(Dk.keptAt_ok HOK.out cs k j hj).1
   have HAL:Hid ((d.keptAt cs k i).length=64):=(Dk.keptAt_ok HOK.out cs k i hok.1).1
   have HAB:Hid (Bytes (d.keptAt cs k i)):=(Dk.keptAt_ok HOK.out cs k i hok.1).2
   have HLL:Hid (l.length=64):=hok.2.1
   have HLB:Hid (Bytes l):=hok.2.2
   have hi:i<n:=by rw [hn];exact hok.1
   have hm:=Mem.start wr
   clear hki hmem hpl hok hp2 hpb hcells hkv hcap hrkk hn
   have AX:True:=trivial
   by_cases hkc:k<cl
   ·have hkc2:(k:Int)<(cl:Int):=by omega
    obtain ⟨bc,oc,hpc,_,hcc⟩:=SlA.at HSC.out k hkc
    subst hpc
    obtain ⟨ch,hcv⟩:∃x,x=cs.getD k 0:=⟨_,rfl⟩
    rw [←hcv] at hcc
    have HCC:Hid _:=hcc
    have HCV:Hid (cs.getD k 0=ch):=hcv.symm
    have HCB:Hid (0≤ch∧ch<256):=by rw [hcv];exact Bytes.get HCS.out k
    obtain ⟨T,hT⟩:∃T,T=tornOf (d.keptAt cs k i) l ch:=⟨_,rfl⟩
    have HTT:Hid (∀_:Unit,tornOf (d.keptAt cs k i) l ch=T):=fun _=>hT.symm
    have HTL:Hid (T.length=64):=by show _=_;rw [hT];exact eo HAL.out HLL.out _
    have HTB:Hid (Bytes T):=by rw [hT];exact eK HAB.out HLB.out _
    clear hcc hcv hT
    go_wp2_with (first
     | ((with_reducible refine aa (some 23) (.indexAddr 48 (.tmp 18) (.tmp 20)) ?_);refine ae (.pointer (some ⟨b,0+k,none⟩)) rfl (cC cM dw k rfl rfl rfl hlt) ?_)
     | ((with_reducible refine aa (some 24) (.load 3 (.tmp 23)) ?_);refine aQ (.int .i64 (i:Int)) (by rw [Nat.zero_add];exact HCI.out) rfl cO ?_)
     | ((with_reducible refine aa (some 31) (.indexAddr 33 (.tmp 29) (.tmp 30)) ?_);refine ae (.pointer (some ⟨bc,oc+k,none⟩)) rfl (cC un_bsD ev k rfl rfl rfl hkc) ?_)
     | ((with_reducible refine aa (some 32) (.load 5 (.tmp 31)) ?_);refine aQ (.int .u8 ch) HCC.out rfl ag_u8D ?_))
    refine au ?_
    refine fU (T:=fun W=>Mem wr [] W []) (T2:=fun _=>True) 21 (by kernel_rfl) hm ?_
    clear hm
    intro w5 hm
    refine aA 0 (v:=.pointer (some ⟨g,0,none⟩)) rfl (by kernel_rfl) (by kernel_rfl) (by kernel_rfl) rfl rfl (fun W _=>by go_simp) hm ?_
    go_simp
    refine aA 1 (v:=.pointer (some ⟨g,0,none⟩)) rfl (by kernel_rfl) (by kernel_rfl) (by kernel_rfl) rfl rfl (fun W _=>by go_simp) hm ?_
    go_simp
    refine aA 2 (v:=.pointer (some ⟨g,0,none⟩)) rfl (by kernel_rfl) (by kernel_rfl) (by kernel_rfl) rfl rfl (fun W _=>by go_simp) hm ?_
    go_simp
    refine bN 3 (v:=.slice (some ⟨kb,0,none⟩) n cap) rfl (by kernel_rfl) (by kernel_rfl) (by kernel_rfl) rfl rfl (by kernel_rfl) rfl (fun W hW=>ah 0 (.slice (some ⟨kb,0,none⟩) n cap) (DkAt.row (HR.out.mem hW)) rfl fJ (by rw [←HKE.out];rfl)) hm ?_
    go_simp
    refine aA 4 (v:=.int .i64 (i:Int)) rfl (by kernel_rfl) (by kernel_rfl) (by kernel_rfl) rfl rfl (fun W _=>by go_simp) hm ?_
    go_simp
    refine aA 5 (v:=.pointer (some ⟨g,0,none⟩)) rfl (by kernel_rfl) (by kernel_rfl) (by kernel_rfl) rfl rfl (fun W _=>by go_simp) hm ?_
    go_simp
    refine aA 6 (v:=.pointer (some ⟨g,0,none⟩)) rfl (by kernel_rfl) (by kernel_rfl) (by kernel_rfl) rfl rfl (fun W _=>by go_simp) hm ?_
    go_simp
    refine aA 7 (v:=.pointer (some ⟨g,0,none⟩)) rfl (by kernel_rfl) (by kernel_rfl) (by kernel_rfl) rfl rfl (fun W _=>by go_simp) hm ?_
    go_simp
    refine bN 8 (v:=.slice (some ⟨kb,0,none⟩) n cap) rfl (by kernel_rfl) (by kernel_rfl) (by kernel_rfl) rfl rfl (by kernel_rfl) rfl (fun W hW=>ah 0 (.slice (some ⟨kb,0,none⟩) n cap) (DkAt.row (HR.out.mem hW)) rfl fJ (by rw [←HKE.out];rfl)) hm ?_
    go_simp
    refine aA 9 (v:=.int .i64 (i:Int)) rfl (by kernel_rfl) (by kernel_rfl) (by kernel_rfl) rfl rfl (fun W _=>by go_simp) hm ?_
    go_simp
    refine aA 10 (v:=.pointer (some ⟨kb,i * 64,none⟩)) rfl (by kernel_rfl) (by kernel_rfl) (by kernel_rfl) rfl rfl (fun W _=>eC i rfl rfl rfl hi) hm ?_
    go_simp
    refine bN 11 (v:=.agg (u8s (d.keptAt cs k i)).toArray) rfl (by kernel_rfl) (by kernel_rfl) (by kernel_rfl) rfl rfl (by kernel_rfl) rfl (fun W hW=>iV i (Row.below' HRK.out (Mem.below hW)) HKL.out (by rw [HN.out ()];exact hi) rfl) hm ?_
    go_simp
    refine aA 12 (v:=.pointer (some ⟨g,0,none⟩)) rfl (by kernel_rfl) (by kernel_rfl) (by kernel_rfl) rfl rfl (fun W _=>by go_simp) hm ?_
    go_simp
    refine aA 13 (v:=.pointer (some ⟨g,0,none⟩)) rfl (by kernel_rfl) (by kernel_rfl) (by kernel_rfl) rfl rfl (fun W _=>by go_simp) hm ?_
    go_simp
    refine aA 14 (v:=.pointer (some ⟨g,1,none⟩)) rfl (by kernel_rfl) (by kernel_rfl) (by kernel_rfl) rfl rfl (fun W _=>by go_simp) hm ?_
    go_simp
    refine bN 15 (v:=.map (some mb)) rfl (by kernel_rfl) (by kernel_rfl) (by kernel_rfl) rfl rfl (by kernel_rfl) rfl (fun W hW=>ah 1 (.map (some mb)) (DkAt.row (HR.out.mem hW)) rfl dL rfl) hm ?_
    go_simp
    refine aA 16 (v:=.int .i64 (i:Int)) rfl (by kernel_rfl) (by kernel_rfl) (by kernel_rfl) rfl rfl (fun W _=>by go_simp) hm ?_
    go_simp
    refine bN 17 (v:=.agg (u8s l).toArray) rfl (by kernel_rfl) (by kernel_rfl) (by kernel_rfl) rfl rfl (by kernel_rfl) rfl (fun W hW=>jd (HR.out.mem hW) i hi4 l HPL.out rfl rfl rfl) hm ?_
    go_simp
    refine aA 18 (v:=.int .u8 ch) rfl (by kernel_rfl) (by kernel_rfl) (by kernel_rfl) rfl rfl (fun W _=>by go_simp) hm ?_
    go_simp
    refine anyC_one 19 (by kernel_rfl) rfl rfl rfl ?_
    intro K hK
    go_wp2_with (go_at_call 32;refine (torn_any (d.keptAt cs k i) l ch HCB.out HAL.out HLL.out _).mono ?_;rintro e w6 ⟨he,hb⟩;rw [HTT.out ()] at he;subst he;replace hm:=hm.call hb;clear hb)
    refine hK _ _ hm ?_
    clear hK K
    go_simp
    refine aA 20 (v:=.pointer (some ⟨kb,i * 64,none⟩)) rfl (by kernel_rfl) (by kernel_rfl) (by kernel_rfl) rfl rfl (fun W _=>eC i rfl rfl rfl hi) hm ?_
    go_simp
    refine gQ (by kernel_rfl) rfl rfl ?_
    intro K hK
    refine wpl_stK (d:=d.cr cs k) i T (by have h:=HR.out.mem hm;rw [HKE.out] at h;exact h) (HN.out ()) hi rfl rfl HTL.out HTB.out ?_
    intro w7 hd7 hu7
    have HD7:Hid _:=hd7
    have HU7:Hid _:=hu7
    clear hd7 hu7
    refine wpList_nil ?_
    refine hK _ _ trivial ?_
    clear hK K
    refine wpAnyH_done (by kernel_rfl) ?_ _
    simp only [endsIn]
    have HFK:Hid (∀_:Unit,kb∈foot g mb kv):=fun _=>by simp only [foot,List.mem_cons];exact Or.inr (Or.inr (HKB.out ()))
    have HU8:Hid (UpdS (foot g mb kv) wr w7):=(UpdS.of_below hm.below).trans (UpdS.of_upd HU7.out (HFK.out ()))
    go_wp2_with fail
    go_roundw
    case rel =>
     refine ⟨k+1,by omega,by go_num,?_,HUR.out.trans HU8.out,HIN.out.upd HU8.out HFT.out,HSC.out.upd HU8.out⟩
     have h7:=HD7.out
     rw [←HKE.out] at h7
     refine h7.congr ?_
     show ({d.cr cs k with kept:=upf (d.keptAt cs k) i T}:Dk)=d.cr cs (k+1)
     rw [←HTT.out (),Dk.cr,Dk.cr,d.keptAt_step cs d.n k i l HKI.out HPL.out]
     first|rfl|rw [HCV.out]
    case measure=>simp [intOf];omega
   ·have hkc2:¬((k:Int)<(cl:Int)):=by omega
    have HCV:Hid (cs.getD k 0=0):=getD_out cs k (by rw [←HCL.out ()];exact hkc)
    have HCB:Hid ((0:Int)≤0∧(0:Int)<256):=by constructor<;>omega
    obtain ⟨T,hT⟩:∃T,T=tornOf (d.keptAt cs k i) l 0:=⟨_,rfl⟩
    have HTT:Hid (∀_:Unit,tornOf (d.keptAt cs k i) l 0=T):=fun _=>hT.symm
    have HTL:Hid (T.length=64):=by show _=_;rw [hT];exact eo HAL.out HLL.out _
    have HTB:Hid (Bytes T):=by rw [hT];exact eK HAB.out HLB.out _
    clear hT
    go_wp2_with (first
     | ((with_reducible refine aa (some 23) (.indexAddr 48 (.tmp 18) (.tmp 20)) ?_);refine ae (.pointer (some ⟨b,0+k,none⟩)) rfl (cC cM dw k rfl rfl rfl hlt) ?_)
     | ((with_reducible refine aa (some 24) (.load 3 (.tmp 23)) ?_);refine aQ (.int .i64 (i:Int)) (by rw [Nat.zero_add];exact HCI.out) rfl cO ?_))
    refine au ?_
    refine fU (T:=fun W=>Mem wr [] W []) (T2:=fun _=>True) 21 (by kernel_rfl) hm ?_
    clear hm
    intro w5 hm
    refine aA 0 (v:=.pointer (some ⟨g,0,none⟩)) rfl (by kernel_rfl) (by kernel_rfl) (by kernel_rfl) rfl rfl (fun W _=>by go_simp) hm ?_
    go_simp
    refine aA 1 (v:=.pointer (some ⟨g,0,none⟩)) rfl (by kernel_rfl) (by kernel_rfl) (by kernel_rfl) rfl rfl (fun W _=>by go_simp) hm ?_
    go_simp
    refine aA 2 (v:=.pointer (some ⟨g,0,none⟩)) rfl (by kernel_rfl) (by kernel_rfl) (by kernel_rfl) rfl rfl (fun W _=>by go_simp) hm ?_
    go_simp
    refine bN 3 (v:=.slice (some ⟨kb,0,none⟩) n cap) rfl (by kernel_rfl) (by kernel_rfl) (by kernel_rfl) rfl rfl (by kernel_rfl) rfl (fun W hW=>ah 0 (.slice (some ⟨kb,0,none⟩) n cap) (DkAt.row (HR.out.mem hW)) rfl fJ (by rw [←HKE.out];rfl)) hm ?_
    go_simp
    refine aA 4 (v:=.int .i64 (i:Int)) rfl (by kernel_rfl) (by kernel_rfl) (by kernel_rfl) rfl rfl (fun W _=>by go_simp) hm ?_
    go_simp
    refine aA 5 (v:=.pointer (some ⟨g,0,none⟩)) rfl (by kernel_rfl) (by kernel_rfl) (by kernel_rfl) rfl rfl (fun W _=>by go_simp) hm ?_
    go_simp
    refine aA 6 (v:=.pointer (some ⟨g,0,none⟩)) rfl (by kernel_rfl) (by kernel_rfl) (by kernel_rfl) rfl rfl (fun W _=>by go_simp) hm ?_
    go_simp
    refine aA 7 (v:=.pointer (some ⟨g,0,none⟩)) rfl (by kernel_rfl) (by kernel_rfl) (by kernel_rfl) rfl rfl (fun W _=>by go_simp) hm ?_
    go_simp
    refine bN 8 (v:=.slice (some ⟨kb,0,none⟩) n cap) rfl (by kernel_rfl) (by kernel_rfl) (by kernel_rfl) rfl rfl (by kernel_rfl) rfl (fun W hW=>ah 0 (.slice (some ⟨kb,0,none⟩) n cap) (DkAt.row (HR.out.mem hW)) rfl fJ (by rw [←HKE.out];rfl)) hm ?_
    go_simp
    refine aA 9 (v:=.int .i64 (i:Int)) rfl (by kernel_rfl) (by kernel_rfl) (by kernel_rfl) rfl rfl (fun W _=>by go_simp) hm ?_
    go_simp
    refine aA 10 (v:=.pointer (some ⟨kb,i * 64,none⟩)) rfl (by kernel_rfl) (by kernel_rfl) (by kernel_rfl) rfl rfl (fun W _=>eC i rfl rfl rfl hi) hm ?_
    go_simp
    refine bN 11 (v:=.agg (u8s (d.keptAt cs k i)).toArray) rfl (by kernel_rfl) (by kernel_rfl) (by kernel_rfl) rfl rfl (by kernel_rfl) rfl (fun W hW=>iV i (Row.below' HRK.out (Mem.below hW)) HKL.out (by rw [HN.out ()];exact hi) rfl) hm ?_
    go_simp
    refine aA 12 (v:=.pointer (some ⟨g,0,none⟩)) rfl (by kernel_rfl) (by kernel_rfl) (by kernel_rfl) rfl rfl (fun W _=>by go_simp) hm ?_
    go_simp
    refine aA 13 (v:=.pointer (some ⟨g,0,none⟩)) rfl (by kernel_rfl) (by kernel_rfl) (by kernel_rfl) rfl rfl (fun W _=>by go_simp) hm ?_
    go_simp
    refine aA 14 (v:=.pointer (some ⟨g,1,none⟩)) rfl (by kernel_rfl) (by kernel_rfl) (by kernel_rfl) rfl rfl (fun W _=>by go_simp) hm ?_
    go_simp
    refine bN 15 (v:=.map (some mb)) rfl (by kernel_rfl) (by kernel_rfl) (by kernel_rfl) rfl rfl (by kernel_rfl) rfl (fun W hW=>ah 1 (.map (some mb)) (DkAt.row (HR.out.mem hW)) rfl dL rfl) hm ?_
    go_simp
    refine aA 16 (v:=.int .i64 (i:Int)) rfl (by kernel_rfl) (by kernel_rfl) (by kernel_rfl) rfl rfl (fun W _=>by go_simp) hm ?_
    go_simp
    refine bN 17 (v:=.agg (u8s l).toArray) rfl (by kernel_rfl) (by kernel_rfl) (by kernel_rfl) rfl rfl (by kernel_rfl) rfl (fun W hW=>jd (HR.out.mem hW) i hi4 l HPL.out rfl rfl rfl) hm ?_
    go_simp
    refine aA 18 (v:=.int .u8 0) rfl (by kernel_rfl) (by kernel_rfl) (by kernel_rfl) rfl rfl (fun W _=>by go_simp) hm ?_
    go_simp
    refine anyC_one 19 (by kernel_rfl) rfl rfl rfl ?_
    intro K hK
    go_wp2_with (go_at_call 32;refine (torn_any (d.keptAt cs k i) l 0 HCB.out HAL.out HLL.out _).mono ?_;rintro e w6 ⟨he,hb⟩;rw [HTT.out ()] at he;subst he;replace hm:=hm.call hb;clear hb)
    refine hK _ _ hm ?_
    clear hK K
    go_simp
    refine aA 20 (v:=.pointer (some ⟨kb,i * 64,none⟩)) rfl (by kernel_rfl) (by kernel_rfl) (by kernel_rfl) rfl rfl (fun W _=>eC i rfl rfl rfl hi) hm ?_
    go_simp
    refine gQ (by kernel_rfl) rfl rfl ?_
    intro K hK
    refine wpl_stK (d:=d.cr cs k) i T (by have h:=HR.out.mem hm;rw [HKE.out] at h;exact h) (HN.out ()) hi rfl rfl HTL.out HTB.out ?_
    intro w7 hd7 hu7
    have HD7:Hid _:=hd7
    have HU7:Hid _:=hu7
    clear hd7 hu7
    refine wpList_nil ?_
    refine hK _ _ trivial ?_
    clear hK K
    refine wpAnyH_done (by kernel_rfl) ?_ _
    simp only [endsIn]
    have HFK:Hid (∀_:Unit,kb∈foot g mb kv):=fun _=>by simp only [foot,List.mem_cons];exact Or.inr (Or.inr (HKB.out ()))
    have HU8:Hid (UpdS (foot g mb kv) wr w7):=(UpdS.of_below hm.below).trans (UpdS.of_upd HU7.out (HFK.out ()))
    go_wp2_with fail
    go_roundw
    case rel =>
     refine ⟨k+1,by omega,by go_num,?_,HUR.out.trans HU8.out,HIN.out.upd HU8.out HFT.out,HSC.out.upd HU8.out⟩
     have h7:=HD7.out
     rw [←HKE.out] at h7
     refine h7.congr ?_
     show ({d.cr cs k with kept:=upf (d.keptAt cs k) i T}:Dk)=d.cr cs (k+1)
     rw [←HTT.out (),Dk.cr,Dk.cr,d.keptAt_step cs d.n k i l HKI.out HPL.out]
     first|rfl|rw [HCV.out]
    case measure=>simp [intOf];omega
  ·have hkr:¬((k:Int)<(rk:Int)):=by omega
   have hk2:k=rk:=by omega
   go_wp2_with (first
    | ((with_reducible refine aa (some 58) (.load 51 (.tmp 57)) ?_);refine el 1 (.map (some mb)) (DkAt.row HR.out) rfl dL rfl ?_)
    | ((with_reducible refine aa none (.call {callee:=.builtin .clear,args:=#[.tmp 58],argTypes:=#[51]}) ?_);go_must (refine wpl_clear HR.out rfl ?_);intro w9 hd9 hu9;have HD9:Hid _:=hd9;have HU9:Hid _:=hu9;clear hd9 hu9))
   first|go_ret|go_end0
   refine ⟨rfl,HD9.out.congr ?_,HUR.out.trans (UpdS.of_upd HU9.out (foot_m ..))⟩
   show ({d.cr cs k with pend:=fun _=>none}:Dk)=d.crash cs
   rw [Dk.cr,Dk.crash,hk2,HRK0.out ()]
   rfl
end Go.Proofs.YtnllomcajijbjaaGreatDoor
namespace Go.Proofs.YtnllomcajijbjaaGreatDoor
open Go Go.RowKit Go.Maps
section
variable {ops:Array Oper} {rest:List Oper} {a:Act} {w w0 w':World} {Q:Exit→Act→World→Prop} {dst:Option Tmp} {typ:TypeId} {pos:String} {aft:Array Edge} {gd:Option (Nat×Bool)} {S:List Nat} {rows:List (Nat×List Value×TypeId)} {g mb:Nat} {kv:Value} {d d':Dk} {P:Program}
theorem Sd.turned (st:Sd w0 w g mb kv d rows) (i:Nat) {q:Nat} {l l':List Value} {t:TypeId} (hi:rows[i]?=some (q,l,t)) (hq:Mem w [q] w' [(q,l',t)]):Sd w0 w' g mb kv d (rows.set i (q,l',t)):=st.upd i hi hq.toUpd (hq.get 0 rfl)
theorem Sd.start {w1:World} (hb:Below w.heap.size w w1) (hd:DkAt w1 g mb kv d) (hf:∀q∈foot g mb kv,w.heap.size≤q):Sd w w1 g mb kv d []:=⟨(Mem.start w).call hb,hd,hf,by simp⟩
theorem Sd.congr (st:Sd w0 w g mb kv d rows) (h:d=d'):Sd w0 w g mb kv d' rows:=h▸st
theorem Sd.notin (st:Sd w0 w g mb kv d rows) (i:Nat) {q:Nat} {l:List Value} {t:TypeId} (hi:rows[i]?=some (q,l,t)):q ∉ foot g mb kv:=st.apart _ (List.mem_of_getElem? hi)
theorem Sd.sl (st:Sd w0 w g mb kv d rows) (i:Nat) {q:Nat} {cs:List Int} {t:TypeId} (hi:rows[i]?=some (q,u8s cs,t)) (n cap:Nat) (hn:n=cs.length) (hc:n≤cap):SlA w (foot g mb kv) (.slice (some ⟨q,0,none⟩) n cap) cs :=
 SlA.of_row (st.mem.get i hi) n hn (st.notin i hi) cap hc
theorem Sd.old (st:Sd w0 w g mb kv d rows) {v:Value} {cs:List Int} (h:SlOld w0 v cs):SlA w (foot g mb kv) v cs:=SlA.of_old h st.mem st.new
end
section
variable {w0 w:World} {g mb:Nat} {kv:Value} {d:Dk} {rows:List (Nat×List Value×TypeId)}
end
theorem Dk.step_calm {d:Dk} (hl:d.left=0) (ho:d.off=false):d.step.off=false∧d.step.left=0∧d.step.steps=d.steps+1:=by
 simp [Dk.step,hl,ho]
structure Dk.Calm (d:Dk):Prop where
 left:d.left=0
 off:d.off=false
 s0:0≤d.steps
theorem Dk.Calm.num {d:Dk} (h:d.Calm) (hs:d.steps<1000000000):d.Num:=⟨⟨h.s0,hs⟩,by rw [h.left];omega,by rw [h.left];omega⟩
theorem Dk.Calm.step {d:Dk} (h:d.Calm):d.step.Calm:=by
 obtain ⟨h1,h2,h3⟩:=Dk.step_calm h.left h.off
 exact ⟨h2,h1,by rw [h3];have:=h.s0;omega⟩
theorem Dk.Calm.put {d:Dk} (h:d.Calm) (i:Nat) (l:List Int):(d.put i l).Calm:=⟨h.left,h.off,h.s0⟩
theorem Dk.Calm.flushed {d:Dk} (h:d.Calm):d.flushed.Calm:=⟨h.left,h.off,h.s0⟩
end Go.Proofs.YtnllomcajijbjaaGreatDoor
