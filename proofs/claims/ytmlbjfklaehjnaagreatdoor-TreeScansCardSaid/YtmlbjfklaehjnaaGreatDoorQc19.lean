import Derived.Test.YtmlbjfklaehjnaaGreatDoorQc18
import Derived.Test.YtmlbjfklaehjnaaGreatDoorQc11
import Derived.Test.YtmlbjfklaehjnaaGreatDoorQc12
set_option maxRecDepth 100000
set_option maxHeartbeats 4000000
namespace Go.Proofs.YtmlbjfklaehjnaaGreatDoor
open Go Go.RowKit Go.Maps
theorem built_b2 (b c:Bk):Tryz.prog.built 121 [(0,.agg (blC b).toArray),(1,.agg (blC c).toArray)]=some (b2C b c).toArray:=by kernel_rfl
theorem built_grd (p:Option Addr) (n k:Nat) (b c:Bk):Tryz.prog.built 123 [(0,.slice p n k),(1,.agg (b2C b c).toArray)]=some (grC (.slice p n k) b c).toArray:=by kernel_rfl
theorem groundOf_any (K1 K2 K3 A:List Int) (pages b off cap:Nat) (hl1:K1.length=32) (hl2:K2.length=32) (hl3:K3.length=32) (hkb:Bytes K2) (hkc:Bytes K3) (hp:pages≤400) (hal:A.length=2048) (hab:Bytes A) (hcap:2048≤cap) (w:World) (ht:Tab w) (hq:QTab w) (hs:Seg w b off A) :
  Calls Tryz.prog 74 #[.agg (u8s (K1++(K2++K3))).toArray,.int .i64 (pages:Int),.slice (some ⟨b,off,none⟩) 2048 cap] w fun e w'=>∃k0 k1,e=.returned (.agg (grC (.slice (some ⟨b,off,none⟩) 2048 cap) k0 k1).toArray)∧BlkIs w' w.heap.size K2 K3 pages A 0 k0∧BlkIs w' w.heap.size K2 K3 pages A 1 k1∧Below w.heap.size w w':=by
 have HT:Hid (Tab w):=ht
 have HQ:Hid (QTab w):=hq
 have HKB:Hid (Bytes K2):=hkb
 have HKC:Hid (Bytes K3):=hkc
 have HAL:Hid (A.length=2048):=hal
 have HAB:Hid (Bytes A):=hab
 have HSG:Hid (Seg w b off A):=hs
 obtain ⟨KS,hKS⟩:∃KS,KS=K1++(K2++K3):=⟨_,rfl⟩
 have lK:∀K:List Int,K.length=32→(u8s K).length=32:=fun K h=>by rw [ab,h]
 have hKE:u8s KS=u8s K1++(u8s K2++u8s K3):=by rw [hKS];simp [u8s]
 have HKU:Hid ((u8s KS).length=96):=by show _=_;rw [hKE];simp [lK K1 hl1,lK K2 hl2,lK K3 hl3]
 have HK2:Hid (((u8s KS).drop 32).take 32=u8s K2):=by
  show _=_
  rw [hKE,List.drop_append,List.drop_of_length_le (by rw [lK K1 hl1];omega),List.nil_append,lK K1 hl1,Nat.sub_self,List.drop_zero,List.take_append_of_le_length (by rw [lK K2 hl2];omega),List.take_of_length_le (by rw [lK K2 hl2];omega)]
 have HK3:Hid (KS.drop 64=K3):=by
  show _=_
  rw [hKS,←List.append_assoc,List.drop_append,List.drop_of_length_le (by simp [hl1,hl2]),List.nil_append,show 64 - (K1++K2).length=0 by simp [hl1,hl2],List.drop_zero]
 have HKE:Hid (∀_:Unit,K1++(K2++K3)=KS):=fun _=>hKS.symm
 have hm:=Mem.start w
 rw [←hKS]
 clear ht hq hs hkb hkc hal hab hKS hKE lK
 go_enter Tryz.func74,Tryz.ntmps74
 go_wp2_with (first
  | ((with_reducible refine aa (some 3) (.box 108 (.tmp 0)) ?_);refine ak (u8s KS) rfl hm ?_;clear hm;intro w1 gk hm)
  | ((with_reducible refine aa (some 6) (.alloc 123) ?_);refine af _ eU hm ?_;clear hm;intro w2 gr hm))
 refine au ?_
 refine ap (T:=fun W=>Mem w [] W [(gk,u8s KS,108)]) (by kernel_rfl) hm ?_
 clear hm
 intro w6 hm
 obtain ⟨fk,hfk⟩:=jq
 refine aT 0 (v:=.slice (some ⟨b,off,none⟩) 2048 cap) rfl (by kernel_rfl) rfl (fun W _=>by go_simp) hm.tail ?_
 go_simp
 refine aT 1 (v:=.agg (u8s KS).toArray) rfl (by kernel_rfl) rfl (fun W hW=>ao 0 (u8s KS) (hW.get 0 rfl) rfl _ hfk rfl 96 iu (by rw [HKU.out];omega) (by rw [List.drop_zero,List.take_of_length_le (Nat.le_of_eq HKU.out)])) hm.tail ?_
 go_simp
 refine aT 2 (v:=.int .i64 (pages:Int)) rfl (by kernel_rfl) rfl (fun W _=>by go_simp) hm.tail ?_
 go_simp
 refine aT 3 (v:=.slice (some ⟨b,off,none⟩) 2048 cap) rfl (by kernel_rfl) rfl (fun W _=>by go_simp) hm.tail ?_
 go_simp
 refine aT 5 (v:=.agg (u8s KS).toArray) rfl (by kernel_rfl) rfl (fun W hW=>ao 0 (u8s KS) (hW.get 0 rfl) rfl _ hfk rfl 96 iu (by rw [HKU.out];omega) (by rw [List.drop_zero,List.take_of_length_le (Nat.le_of_eq HKU.out)])) hm.tail ?_
 go_simp
 refine aT 6 (v:=.int .i64 (pages:Int)) rfl (by kernel_rfl) rfl (fun W _=>by go_simp) hm.tail ?_
 go_simp
 refine aT 7 (v:=.slice (some ⟨b,off,none⟩) 2048 cap) rfl (by kernel_rfl) rfl (fun W _=>by go_simp) hm.tail ?_
 go_simp
 refine aO 4 (by kernel_rfl) rfl rfl ?_
 intro K hK
 go_wp2_with (go_at_call 113;refine (mD K1 K2 K3 KS A (HKE.out ()) pages 0 b off cap hl1 hl2 hl3 HKB.out HKC.out hp (by omega) HAL.out HAB.out hcap _ (Tab.mem HT.out hm (by simp)) (QTab.mem HQ.out hm (by simp)) (Seg.mem HSG.out hm (by simp))).mono ?_;rintro e wd0 ⟨k0,he,hbk,hb⟩;subst he;have HK0:Hid (BlkIs wd0 w.heap.size K2 K3 pages A 0 k0):=hbk.mono hm.size;replace hm:=hm.call hb;clear hb hbk)
 refine hK _ _ hm.tail ?_
 clear hK K
 refine aO 8 (by kernel_rfl) rfl rfl ?_
 intro K hK
 go_wp2_with (go_at_call 113;refine (mD K1 K2 K3 KS A (HKE.out ()) pages 1 b off cap hl1 hl2 hl3 HKB.out HKC.out hp (by omega) HAL.out HAB.out hcap _ (Tab.mem HT.out hm (by simp)) (QTab.mem HQ.out hm (by simp)) (Seg.mem HSG.out hm (by simp))).mono ?_;rintro e wd1 ⟨k1,he,hbk,hb⟩;subst he;have HK1:Hid (BlkIs wd1 w.heap.size K2 K3 pages A 1 k1):=hbk.mono hm.size;replace HK0:Hid (BlkIs wd1 w.heap.size K2 K3 pages A 0 k0):=HK0.out.below hb;replace hm:=hm.call hb;clear hb hbk)
 refine hK _ _ hm.tail ?_
 clear hK K
 refine aT 9 (v:=.agg (b2C k0 k1).toArray) rfl (by kernel_rfl) rfl (fun W _=>fe _ _ (by first|rfl|simp [Act.eval]) (built_b2 _ _)) hm.tail ?_
 go_simp
 refine aT 10 (v:=.agg (grC (.slice (some ⟨b,off,none⟩) 2048 cap) k0 k1).toArray) rfl (by kernel_rfl) rfl (fun W _=>fe _ _ (by first|rfl|simp [Act.eval]) (built_grd _ _ _ _ _)) hm.tail ?_
 go_simp
 refine aO 11 (by kernel_rfl) rfl rfl ?_
 intro K hK
 refine ag 0 (grC (.slice (some ⟨b,off,none⟩) 2048 cap) k0 k1) (Mem.enter (hm.get 0 rfl)) rfl rfl rfl 11 bH rfl rfl (fP _ _ _ _ _) ?_
 intro wz hq
 replace HK0:Hid (BlkIs wz w.heap.size K2 K3 pages A 0 k0):=HK0.out.updRow (hm.get 0 rfl) hq.toUpd
 replace HK1:Hid (BlkIs wz w.heap.size K2 K3 pages A 1 k1):=HK1.out.updRow (hm.get 0 rfl) hq.toUpd
 replace hm:=hm.upd 0 rfl hq.toUpd (hq.get 0 rfl)
 clear hq
 refine wpList_nil ?_
 refine hK _ _ hm.tail ?_
 clear hK K
 refine wpAnyH_done (by kernel_rfl) ?_ _
 simp only [endsIn]
 go_wp2_with fail
 obtain ⟨fs,hfs⟩:=cM
 exact ay 0 hm rfl Tryz.results74 rfl _ hfs rfl 11 bH rfl rfl ⟨k0,k1,rfl,HK0.out,HK1.out,hm.below⟩
open Go Go.RowKit Go.Maps
structure PgR (w:World) (gp g mb:Nat) (kv:Value) (P:Pg) (ml mu:Option Nat) (d:Dk):Prop where
 ok:P.Ok
 row:Row w gp (hdP g P.kP P.kS P.kN++tlP P.gn P.root P.mt ml mu P.off) 113
 dk:DkAt w g mb kv d
section
variable {w w':World} {gp g mb:Nat} {ml mu:Option Nat} {kv:Value} {P P':Pg} {d d':Dk}
theorem PgAt.toR {ml mu:Nat} (h:PgAt w gp g mb kv ml mu P d):PgR w gp g mb kv P (some ml) (some mu) d:=⟨h.ok,h.row,h.dk⟩
theorem PgR.lt (h:PgR w gp g mb kv P ml mu d):∀k∈gp::foot g mb kv,k<w.heap.size:=by
 intro k hk
 simp only [List.mem_cons] at hk
 rcases hk with rfl|hk
 ·exact h.row.lt
 ·exact h.dk.lt k hk
theorem PgR.keep (h:PgR w gp g mb kv P ml mu d) (hk:∀k∈gp::foot g mb kv,w'.heap[k]?=w.heap[k]?):PgR w' gp g mb kv P ml mu d:=by
 refine ⟨h.ok,?_,h.dk.keep (fun k hh=>hk k (by simp [hh]))⟩
 unfold Row
 rw [hk gp (by simp)]
 exact h.row
theorem PgR.below (h:PgR w gp g mb kv P ml mu d) (hb:Below w.heap.size w w'):PgR w' gp g mb kv P ml mu d:=h.keep (fun k hk=>hb.block k (h.lt k hk))
theorem PgR.mem {w0:World} {rows:List (Nat×List Value×TypeId)} (h:PgR w0 gp g mb kv P ml mu d) (hm:Mem w0 [] w rows):PgR w gp g mb kv P ml mu d:=h.below hm.below
theorem PgR.hlen (h:PgR w gp g mb kv P ml mu d):(hdP g P.kP P.kS P.kN).length=97:=mP g h.ok.kP.1 h.ok.kS.1 h.ok.kN.1
theorem PgR.cell (h:PgR w gp g mb kv P ml mu d) (j:Nat):w.cell? ⟨gp,97+j,none⟩=(tlP P.gn P.root P.mt ml mu P.off)[j]?:=by
 rw [h.row.cell,tl_get h.hlen]
theorem PgR.cell0 (h:PgR w gp g mb kv P ml mu d):w.cell? ⟨gp,0,none⟩=some (.pointer (some ⟨g,0,none⟩)):=by
 rw [h.row.cell];rfl
theorem PgR.apart (h:PgR w gp g mb kv P ml mu d):gp ∉ foot g mb kv:=by
 obtain ⟨es2,c2,hmb⟩:=h.dk.isMap
 have hk:∀k∈kbOf kv,k≠gp:=by
  intro k hk
  obtain ⟨p,cap,rfl,hc,h2⟩:=h.dk.kept.ex
  rcases Nat.eq_zero_or_pos d.n with hn|hn
  ·rw [hn] at hk;cases p<;>simp [kbOf] at hk
  ·obtain ⟨kb,tl,rfl,hr⟩:=h2 hn
   have:k=kb:=by simp [kbOf] at hk;exact hk.2
   subst this
   rintro rfl
   have h3:=h.row
   unfold Row at h3 hr
   rw [h3] at hr
   simp only [Option.some.injEq,Obj.cells.injEq] at hr
   exact absurd hr.2.1 (by decide)
 have hg:gp≠g:=by
  rintro rfl
  have h3:=h.row
  have hr:=h.dk.row
  unfold Row at h3 hr
  rw [h3] at hr
  simp only [Option.some.injEq,Obj.cells.injEq] at hr
  exact absurd hr.2.1 (by decide)
 have hgm:=ax h.row hmb
 intro hh
 simp only [foot,List.mem_cons] at hh
 rcases hh with e|e|e
 ·exact hg e
 ·exact hgm e
 ·exact hk gp e rfl
theorem PgR.setDisk (h:PgR w gp g mb kv P ml mu d) (hd:DkAt w' g mb kv d') (hu:UpdS (foot g mb kv) w w'):PgR w' gp g mb kv P ml mu d':=⟨h.ok,hu.row h.row h.apart,hd⟩
theorem PgR.setRow {ml' mu':Option Nat} (h:PgR w gp g mb kv P ml mu d) (hu:Upd gp w w') (ho:P'.Ok) (hr:Row w' gp (hdP g P'.kP P'.kS P'.kN++tlP P'.gn P'.root P'.mt ml' mu' P'.off) 113):PgR w' gp g mb kv P' ml' mu' d :=
 ⟨ho,hr,h.dk.keep (fun k hk=>hu.block k (h.dk.lt k hk) (fun e=>h.apart (e▸hk)))⟩
end
theorem plenR_any (gp g mb:Nat) (kv:Value) (P:Pg) (ml mu:Option Nat) (d:Dk) (pg:Nat) (hn:d.n=32+8 * pg) (hpg:pg≤400) (w:World) (hp:PgR w gp g mb kv P ml mu d) :
  Calls Tryz.prog 40 #[.pointer (some ⟨gp,0,none⟩)] w fun e w'=>e=.returned (.int .i64 (pg:Int))∧w'=w:=by
 have hc:=hp.cell0
 have HP:Hid (PgR w gp g mb kv P ml mu d):=hp
 clear hp
 go_enter Tryz.func40,Tryz.ntmps40
 go_wp2_with (go_at_call 42;refine (iq g mb kv d pg hn hpg _ (PgR.dk HP.out)).mono ?_;rintro e w1 ⟨rfl,rfl⟩)
 go_ret
 exact ⟨rfl,rfl⟩
theorem undoR_any (gp g mb:Nat) (kv:Value) (P:Pg) (ml:Nat) (mu:Option Nat) (d:Dk) (p:Sts) (hne:ml≠mb) (w:World) (hp:PgR w gp g mb kv P (some ml) mu d) (hst:StM w ml p) :
  Calls Tryz.prog 82 #[.pointer (some ⟨gp,0,none⟩)] w fun e w'=>e=.returned (.tuple #[])∧∃mu',PgAt w' gp g mb kv ml mu' {P with last:=p,used:=p} d∧w.heap.size≤mu'∧UpdS [gp] w w':=by
 have HP:Hid (PgR w gp g mb kv P (some ml) mu d):=hp
 have HST:Hid (StM w ml p):=hst
 have hc:w.cell? ⟨gp,97+5,none⟩=some (.map (some ml)):=(hp.cell 5).trans rfl
 clear hp hst
 go_enter Tryz.func82,Tryz.ntmps82
 go_wp2_with (first
  | (go_at_call 126;refine (cloneS ml p _ HST.out).mono ?_;rintro e w1 ⟨mu',rfl,hge,hs,hb⟩;have HGE:Hid (w.heap.size≤mu'):=hge;have HS:Hid (StM w1 mu' p):=hs;have HB:Hid (Below w.heap.size w w1):=hb;clear hge hs hb)
  | ((with_reducible refine aa none (.store 104 (.tmp 10) (.tmp 8)) ?_);go_must (refine aD 0 103 (.map (some mu')) (Mem.enter (PgR.row (PgR.below HP.out HB.out))) rfl rfl rfl sz_smap (by rw [List.length_append,PgR.hlen HP.out];show 103<97+8;omega) rfl rfl ?_);intro w2 hq;have HQ:Hid _:=hq;clear hq))
 go_end0
 have hp1:=PgR.below HP.out HB.out
 have hu:=HQ.out.toUpd
 have ha:=hp1.apart
 have hr2:=HQ.out.get 0 rfl
 rw [show (103:Nat)=97+6 from rfl,tl_set (PgR.hlen HP.out)] at hr2
 have hlt:=HP.out.lt
 have hge:=HGE.out
 obtain ⟨es,c,hmap⟩:=HS.out.isMap
 have hst1:=HST.out.below HB.out
 obtain ⟨es1,c1,hmap1⟩:=hst1.isMap
 refine ⟨rfl,mu',⟨⟨hp1.ok.kP,hp1.ok.kS,hp1.ok.kN⟩,hr2,hp1.dk.keep (fun k hk=>hu.block k (hp1.dk.lt k hk) (fun e=>ha (e▸hk))),hst1.upd hu (ax hp1.row hmap1),HS.out.upd hu (ax hp1.row hmap),?_,hne,?_⟩,hge,(UpdS.of_below HB.out).trans (UpdS.of_upd hu (by simp))⟩
 ·have:=HST.out.lt;omega
 ·have:=hlt mb (by simp [foot]);omega
open Go Go.RowKit Go.Maps
structure On (d:Dk) (k:Nat):Prop where
 off:d.off=false
 left:d.left=0
 s0:0≤d.steps
 s1:d.steps≤k
theorem On.step {d:Dk} {k:Nat} (h:On d k):On d.step (k+1):=by
 refine ⟨?_,?_,?_,?_⟩
 ·simp [Dk.step,h.left,h.off]
 ·simp [Dk.step,h.left]
 ·have:=h.s0;show 0≤d.steps+1;omega
 ·have:=h.s1;show d.steps+1≤((k+1:Nat):Int);omega
theorem On.put {d:Dk} {k:Nat} (h:On d k) (i:Nat) (l:List Int):On (d.put i l) k:=⟨h.off,h.left,h.s0,h.s1⟩
theorem On.flushed {d:Dk} {k:Nat} (h:On d k):On d.flushed k:=⟨h.off,h.left,h.s0,h.s1⟩
theorem On.mono {d:Dk} {k k':Nat} (h:On d k) (hk:k≤k'):On d k':=⟨h.off,h.left,h.s0,by have:=h.s1;omega⟩
theorem On.num {d:Dk} {k:Nat} (h:On d k) (hk:k<100000000):d.Num:=by
 have h0:=h.s0
 have h1:=h.s1
 have h2:=h.left
 exact ⟨by omega,by omega⟩
theorem secs_snoc (f:Nat→List Int) (at_ n:Nat):secs f at_ (n+1)=secs f at_ n++f (at_+n):=rfl
theorem en (g mb:Nat) (kv:Value) (d:Dk) (from_ n:Nat) (hoff:d.off=false) (hf:from_+n≤d.n) (hn:n≤32) (hfl:from_≤10000) (w:World) (hd:DkAt w g mb kv d) :
  Calls Tryz.prog 73 #[.pointer (some ⟨g,0,none⟩),.int .i64 (from_:Int),.int .i64 (n:Int)] w fun e w'=>∃v,e=.returned (.tuple #[v,.int .i64 0])∧OwnB 5 w' w.heap.size v (secs d.now from_ n)∧Below w.heap.size w w':=by
 have HD:Hid _:=hd
 have hm:=Mem.start w
 have HL:Hid (∀k,k≤n→(secs d.now from_ k).length=k * 64):=fun k hk=>cJ (fun i hi=>hd.ok.now (by omega))
 clear hd
 go_enter Tryz.func73,Tryz.ntmps73
 go_wp2_with (first
  | ((with_reducible refine aa (some 14) (.makeSlice 54 (.const (.int .i64 0)) (.tmp 13)) ?_);go_must (refine wpl_makeE _ aq _ aU rfl (n * 64) rfl rfl (by first|rfl|omega|go_num) (by omega) hm ?_);clear hm;intro w1 gm hm;have hown:OwnB 5 w1 w.heap.size (.slice (some ⟨gm,0,none⟩) 0 (n * 64)) []:=own_empty (hm.get 0 rfl) (by have:=hm.fresh _ (List.mem_cons_self ..);simpa using this) (by omega);replace hm:=hm.tail;have HOW:Hid _:=hown;clear hown))
 go_loopw [8,16] (fun vb vk wr=>∃k:Nat,k≤n∧vk=.int .i64 (k:Int)∧OwnB 5 wr w.heap.size vb (secs d.now from_ k)∧Mem w [] wr []) (fun _ vk _=>n - (RowKit.intOf vk).toNat)
 case atStart=>exact ⟨0,by omega,rfl,HOW.out,hm⟩
 case round =>
  clear HOW hm
  obtain ⟨k,hk,rfl,ho,hm⟩:=hrel
  have HO:Hid (OwnB 5 wr w.heap.size u8 (secs d.now from_ k)):=ho
  clear ho
  by_cases hlt:k<n
  ·have hlt2:(k:Int)<(n:Int):=by omega
   have HNL:Hid ((d.now (from_+k)).length=64):=HD.out.ok.now (by omega)
   go_wp2_with (first
    | (go_at_call 112;refine (read_good g mb kv d (from_+k) hoff (by omega) _ (HD.out.mem hm)).mono ?_;rintro e w2 ⟨q,rfl,hq,hr,hb⟩;have HO':=OwnB.below HO.out hb;have hm':=hm.callNew hb hr hq;clear hm HO hb hr hq;have hm:=hm';have HO:Hid (OwnB 5 w2 w.heap.size u8 (secs d.now from_ k)):=HO';clear HO' hm')
    | ((with_reducible refine aa (some 32) (.call {callee:=.builtin .append,args:=#[.tmp 30,.tmp 31],argTypes:=#[54,54]}) ?_);go_must (refine bO rfl aq aU (d.now (from_+k)) hm HO.out (by intro r hr;simp only [List.mem_cons,List.not_mem_nil,or_false] at hr;subst hr;simp) rfl rfl (by rw [HNL.out]) (fun _=>⟨_,0,rfl,Seg.row (hm.get 0 rfl)⟩) (by rw [HL.out k hk,HNL.out];omega) ?_);clear hm;intro v3 w3 ho hm;have HO4:Hid (OwnB 5 w3 w.heap.size v3 (secs d.now from_ (k+1))):=ho;clear ho))
   go_roundw
   case rel=>exact ⟨k+1,by omega,by go_num,HO4.out,hm.tail⟩
   case measure=>simp [RowKit.intOf];omega
  ·have hk2:¬((k:Int)<(n:Int)):=by omega
   have hkn:k=n:=by omega
   have HOF:Hid (OwnB 5 wr w.heap.size u8 (secs d.now from_ n)):=by rw [←hkn];exact HO.out
   clear hkn HO
   go_wp2_with fail
   go_ret2
   exact ⟨_,rfl,HOF.out,hm.below⟩
open Go Go.RowKit Go.Maps
theorem SlA.sec {w:World} {L:List Nat} {p:Option Addr} {n cap:Nat} {cs:List Int} (h:SlA w L (.slice p n cap) cs) (i:Nat) (hi:64 * i+64≤n):SlA w L (.slice (cutHi (cutLo p cap (64 * i)) (cap - 64 * i)) 64 (cap - 64 * i)) (secOf cs i):=by
 obtain ⟨q,c,hv,hc,hs⟩:=h
 simp only [Value.slice.injEq] at hv
 obtain ⟨rfl,hn,rfl⟩:=hv
 have hl:(secOf cs i).length=64:=gD (by omega)
 obtain ⟨b,off,rfl,hb,hseg⟩:=hs (by omega)
 refine ⟨_,cap - 64 * i,by rw [hl],by rw [hl];omega,fun _=>⟨b,off+64 * i,?_,hb,?_⟩⟩
 ·unfold cutHi cutLo
  rw [if_neg (by omega),if_neg (by omega)]
  simp [aZ]
 ·exact (hseg.drop (64 * i)).take 64
theorem gI (g mb:Nat) (kv:Value) (d:Dk) (old new:List Int) (u v:Value) (K:Nat) (hon:On d K) (hK:K<10000000) (hol:old.length=2048) (hnl:new.length=2048) (hob:Bytes old) (hnb:Bytes new) (hn:32≤d.n) (w:World) (hd:DkAt w g mb kv d) (hu:SlA w (foot g mb kv) u old) (hv:SlA w (foot g mb kv) v new) :
  Calls Tryz.prog 78 #[.pointer (some ⟨g,0,none⟩),u,v] w fun e w'=>e=.returned (.int .i64 0)∧DkAt w' g mb kv (rewArea d old new)∧UpdS (foot g mb kv) w w':=by
 obtain ⟨p,c,rfl,hc⟩:∃p c,u=.slice p 2048 c∧2048≤c:=by obtain ⟨p,c,h1,h2,_⟩:=hu;rw [hol] at h1 h2;exact ⟨p,c,h1,h2⟩
 obtain ⟨p',c',rfl,hc'⟩:∃p c,v=.slice p 2048 c∧2048≤c:=by obtain ⟨p,c,h1,h2,_⟩:=hv;rw [hnl] at h1 h2;exact ⟨p,c,h1,h2⟩
 have HU:Hid (SlA w (foot g mb kv) (.slice p 2048 c) old):=hu
 have HV:Hid (SlA w (foot g mb kv) (.slice p' 2048 c') new):=hv
 have HD:Hid (DkAt w g mb kv d):=hd
 have HON:Hid (On d K):=hon
 have HOB:Hid (Bytes old):=hob
 have HNB:Hid (Bytes new):=hnb
 have HNUM:Hid (∀k,k≤32→(rewL d old new k).Num∧(rewL d old new k).step.off=false∧(rewL d old new k).n=d.n):=by
  intro k hk
  obtain ⟨a1,a2,a3,_⟩:=eN hon.off hon.left old new k
  have hst:=ja d old new k
  have hs0:=hon.s0
  have hs1:=hon.s1
  exact ⟨⟨by omega,by omega⟩,by simp [Dk.step,a1,a2],a3⟩
 clear hu hv hd hon hob hnb
 go_enter Tryz.func78,Tryz.ntmps78
 go_wp2_with fail
 go_loopw [11] (fun vi wr=>∃k:Nat,k≤32∧vi=.int .i64 (k:Int)∧Hid (DkAt wr g mb kv (rewL d old new k))∧Hid (UpdS (foot g mb kv) w wr)) (fun vi _=>32 - (RowKit.intOf vi).toNat)
 case atStart=>exact ⟨0,by omega,rfl,HD.out,UpdS.refl _ _⟩
 case round =>
  obtain ⟨k,hk,rfl,HK,HW⟩:=hrel
  by_cases hlt:k<32
  ·have hki:(k:Int)<32:=by omega
   obtain ⟨A,hA⟩:∃z:Nat,z=64 * k:=⟨_,rfl⟩
   obtain ⟨M,hM⟩:∃z:Nat,z=2048 - A:=⟨_,rfl⟩
   have HWA:IntKind.i64.wrap ((k:Int) * 64)=(A:Int):=by rw [show (k:Int) * 64=(A:Int) by omega];exact b7 A (by omega)
   have HWB:wrap64 ((k:Int) * 64)=(A:Int):=by rw [show (k:Int) * 64=(A:Int) by omega];exact eD _ (by omega)
   obtain ⟨X1,hX1⟩:∃z,z=cutLo p' c' (64 * k):=⟨_,rfl⟩
   obtain ⟨clX,hclX⟩:∃z,z=c' - 64 * k:=⟨_,rfl⟩
   obtain ⟨X2,hX2⟩:∃z,z=cutHi X1 clX:=⟨_,rfl⟩
   have HX1:Hid (∀W:World,∀a:Act,∀(dst:Option Tmp) (typ:TypeId) (pos:String) (aft:Array Edge),a.eval (.tmp 16)=.slice p' 2048 c'→a.eval (.tmp 17)=.int .i64 (A:Int)→(execOp a.eval {dst:=dst,op:=.slice 54 (.tmp 16) (some (.tmp 17)) none none,type:=typ,pos:=pos,after:=aft,guard:=none}).run Tryz.prog W=.ok (.value (.slice X1 M clX)) W):=by
    intro W a dst typ pos aft h h'
    rw [hX1,hclX,hM,←hA]
    exact cw aq av A (by omega) h h' rfl
   have HX2:Hid (∀W:World,∀a:Act,∀(dst:Option Tmp) (typ:TypeId) (pos:String) (aft:Array Edge),a.eval (.tmp 18)=.slice X1 M clX→(execOp a.eval {dst:=dst,op:=.slice 54 (.tmp 18) none (some (.const (.int .i64 64))) none,type:=typ,pos:=pos,after:=aft,guard:=none}).run Tryz.prog W=.ok (.value (.slice X2 64 clX)) W):=by
    intro W a dst typ pos aft h
    rw [hX2]
    exact dL aq av 64 (by omega) h rfl rfl
   obtain ⟨Y1,hY1⟩:∃z,z=cutLo p c (64 * k):=⟨_,rfl⟩
   obtain ⟨clY,hclY⟩:∃z,z=c - 64 * k:=⟨_,rfl⟩
   obtain ⟨Y2,hY2⟩:∃z,z=cutHi Y1 clY:=⟨_,rfl⟩
   have HY1:Hid (∀W:World,∀a:Act,∀(dst:Option Tmp) (typ:TypeId) (pos:String) (aft:Array Edge),a.eval (.tmp 21)=.slice p 2048 c→a.eval (.tmp 22)=.int .i64 (A:Int)→(execOp a.eval {dst:=dst,op:=.slice 54 (.tmp 21) (some (.tmp 22)) none none,type:=typ,pos:=pos,after:=aft,guard:=none}).run Tryz.prog W=.ok (.value (.slice Y1 M clY)) W):=by
    intro W a dst typ pos aft h h'
    rw [hY1,hclY,hM,←hA]
    exact cw aq av A (by omega) h h' rfl
   have HY2:Hid (∀W:World,∀a:Act,∀(dst:Option Tmp) (typ:TypeId) (pos:String) (aft:Array Edge),a.eval (.tmp 23)=.slice Y1 M clY→(execOp a.eval {dst:=dst,op:=.slice 54 (.tmp 23) none (some (.const (.int .i64 64))) none,type:=typ,pos:=pos,after:=aft,guard:=none}).run Tryz.prog W=.ok (.value (.slice Y2 64 clY)) W):=by
    intro W a dst typ pos aft h
    rw [hY2]
    exact dL aq av 64 (by omega) h rfl rfl
   have HSX:Hid (SlA wr (foot g mb kv) (.slice X2 64 clX) (secOf new k)):=by rw [hX2,hX1,hclX];exact SlA.sec (SlA.upd HV.out HW.out) k (by omega)
   have HSY:Hid (SlA wr (foot g mb kv) (.slice Y2 64 clY) (secOf old k)):=by rw [hY2,hY1,hclY];exact SlA.sec (SlA.upd HU.out HW.out) k (by omega)
   have HXB:Hid (Bytes (secOf new k)):=iw HNB.out k
   have HYB:Hid (Bytes (secOf old k)):=iw HOB.out k
   have hXL:(secOf new k).length=64:=gD (by omega)
   have hnum:=HNUM.out k (by omega)
   obtain ⟨D,hD⟩:∃z,z=rewL d old new k:=⟨_,rfl⟩
   rw [←hD] at hnum HK
   have HNU:Hid D.Num:=hnum.1
   have HWC:Hid (D.wcode (k:Int) (secOf new k)=0):=by
    show _=_
    unfold Dk.wcode Dk.fits
    rw [if_neg (by rw [hnum.2.1];simp),decide_eq_true (by rw [hnum.2.2];omega),decide_eq_true (by omega)]
    rfl
   have HNX:Hid (∀_:Unit,rewL d old new (k+1)=if secOf new k=secOf old k then D else D.write (k:Int) (secOf new k)):=fun _=>by rw [rewL,←hD]
   clear hX1 hX2 hclX hY1 hY2 hclY hM hA hD hnum hXL
   by_cases he:secOf new k=secOf old k
   ·have HDE:Hid (decide (secOf new k=secOf old k)=true):=decide_eq_true he
    have HN2:Hid (∀_:Unit,rewL d old new (k+1)=D):=fun _=>by rw [HNX.out (),if_pos he]
    clear he HNX
    go_wp2_with (first
     | ((with_reducible refine aa (some 18) (.slice 54 (.tmp 16) (some (.tmp 17)) none none) ?_);go_must (refine ae (.slice X1 M clX) rfl (HX1.out _ _ _ _ _ _ rfl rfl) ?_))
     | ((with_reducible refine aa (some 19) (.slice 54 (.tmp 18) none (some (.const (.int .i64 64))) none) ?_);go_must (refine ae (.slice X2 64 clX) rfl (HX2.out _ _ _ _ _ _ rfl) ?_))
     | ((with_reducible refine aa (some 23) (.slice 54 (.tmp 21) (some (.tmp 22)) none none) ?_);go_must (refine ae (.slice Y1 M clY) rfl (HY1.out _ _ _ _ _ _ rfl rfl) ?_))
     | ((with_reducible refine aa (some 24) (.slice 54 (.tmp 23) none (some (.const (.int .i64 64))) none) ?_);go_must (refine ae (.slice Y2 64 clY) rfl (HY2.out _ _ _ _ _ _ rfl) ?_))
     | (go_at_call 118;refine (iW (secOf new k) (secOf old k) _ _ HXB.out HYB.out _ HSX.out.old HSY.out.old).mono ?_;rintro e w2 ⟨he,hw⟩;rw [HDE.out] at he;subst he;replace hw:=hw.symm;subst hw))
    go_roundw
    case rel=>exact ⟨k+1,by omega,by go_num,by show DkAt _ _ _ _ _;rw [HN2.out ()];exact HK.out,HW.out⟩
    case measure=>simp [RowKit.intOf];omega
   ·have HDE:Hid (decide (secOf new k=secOf old k)=false):=decide_eq_false he
    have HN2:Hid (∀_:Unit,rewL d old new (k+1)=D.write (k:Int) (secOf new k)):=fun _=>by rw [HNX.out (),if_neg he]
    clear he HNX
    go_wp2_with (first
     | ((with_reducible refine aa (some 18) (.slice 54 (.tmp 16) (some (.tmp 17)) none none) ?_);go_must (refine ae (.slice X1 M clX) rfl (HX1.out _ _ _ _ _ _ rfl rfl) ?_))
     | ((with_reducible refine aa (some 19) (.slice 54 (.tmp 18) none (some (.const (.int .i64 64))) none) ?_);go_must (refine ae (.slice X2 64 clX) rfl (HX2.out _ _ _ _ _ _ rfl) ?_))
     | ((with_reducible refine aa (some 23) (.slice 54 (.tmp 21) (some (.tmp 22)) none none) ?_);go_must (refine ae (.slice Y1 M clY) rfl (HY1.out _ _ _ _ _ _ rfl rfl) ?_))
     | ((with_reducible refine aa (some 24) (.slice 54 (.tmp 23) none (some (.const (.int .i64 64))) none) ?_);go_must (refine ae (.slice Y2 64 clY) rfl (HY2.out _ _ _ _ _ _ rfl) ?_))
     | (go_at_call 118;refine (iW (secOf new k) (secOf old k) _ _ HXB.out HYB.out _ HSX.out.old HSY.out.old).mono ?_;rintro e w2 ⟨he,hw⟩;rw [HDE.out] at he;subst he;replace hw:=hw.symm;subst hw)
     | (go_at_call 119;go_must (refine (write_anyD g mb kv D (k:Int) (secOf new k) _ HXB.out HNU.out _ HK.out HSX.out).mono ?_);rintro e w3 ⟨he,hd3,hu3⟩;rw [HWC.out] at he;subst he;have HK3:Hid (DkAt w3 g mb kv (D.write (k:Int) (secOf new k))):=hd3;have HW3:Hid (UpdS (foot g mb kv) w w3):=UpdS.trans HW.out hu3;clear hd3 hu3))
    go_roundw
    case rel=>exact ⟨k+1,by omega,by go_num,by show DkAt _ _ _ _ _;rw [HN2.out ()];exact HK3.out,HW3.out⟩
    case measure=>simp [RowKit.intOf];omega
  ·have hkn:k=32:=by omega
   subst hkn
   have hni:¬(((32:Nat):Int)<32):=by omega
   have hnum:=HNUM.out 32 (by omega)
   have HNU:Hid (rewL d old new 32).Num:=hnum.1
   have HFC:Hid ((rewL d old new 32).fcode=0):=by
    show _=_
    unfold Dk.fcode
    rw [if_neg (by rw [hnum.2.1];simp)]
   clear hnum
   go_wp2_with (first
    | (go_at_call 120;refine (flush_any g mb kv (rewL d old new 32) HNU.out _ HK.out).mono ?_;rintro e w3 ⟨he,hd3,hu3⟩;rw [HFC.out] at he;subst he;have HK3:Hid (DkAt w3 g mb kv (rewArea d old new)):=hd3;have HW3:Hid (UpdS (foot g mb kv) w w3):=UpdS.trans HW.out hu3;clear hd3 hu3))
   go_ret
   exact ⟨rfl,HK3.out,HW3.out⟩
open Go Go.RowKit Go.Maps
theorem dz {f:Nat→List Int} {at_:Nat}:∀n,(∀i,i<n→Bytes (f (at_+i)))→Bytes (secs f at_ n)
 | 0,_=>by intro x hx;cases hx
 | n+1,h=>by
  rw [secs_snoc]
  exact (dz n (fun i hi=>h i (by omega))).append (h n (by omega))
theorem groundOf_at (K1 K2 K3 KS A:List Int) (hks:K1++(K2++K3)=KS) (pages b off cap:Nat) (hl1:K1.length=32) (hl2:K2.length=32) (hl3:K3.length=32) (hkb:Bytes K2) (hkc:Bytes K3) (hp:pages≤400) (hal:A.length=2048) (hab:Bytes A) (hcap:2048≤cap) (w:World) (ht:Tab w) (hq:QTab w) (hs:Seg w b off A) :
  Calls Tryz.prog 74 #[.agg (u8s KS).toArray,.int .i64 (pages:Int),.slice (some ⟨b,off,none⟩) 2048 cap] w fun e w'=>∃k0 k1,e=.returned (.agg (grC (.slice (some ⟨b,off,none⟩) 2048 cap) k0 k1).toArray)∧BlkIs w' w.heap.size K2 K3 pages A 0 k0∧BlkIs w' w.heap.size K2 K3 pages A 1 k1∧Below w.heap.size w w':=by
 subst hks
 exact groundOf_any K1 K2 K3 A pages b off cap hl1 hl2 hl3 hkb hkc hp hal hab hcap w ht hq hs
theorem eL (gp g mb:Nat) (kv:Value) (P:Pg) (ml mu:Option Nat) (d:Dk) (pg:Nat) (A:List Int) (hA:secs d.now 0 32=A) (hn:d.n=32+8 * pg) (hpg:pg≤400) (hoff:d.off=false) (w:World) (ht:Tab w) (hq:QTab w) (hp:PgR w gp g mb kv P ml mu d) :
  Calls Tryz.prog 44 #[.pointer (some ⟨gp,0,none⟩)] w fun e w'=>∃gA cA lA k0 k1,e=.returned (.tuple #[.agg (grC (.slice (some ⟨gA,0,none⟩) 2048 cA) k0 k1).toArray,.int .i64 0])∧2048≤cA∧w.heap.size≤gA∧Row w' gA (u8s A++lA) 5∧BlkIs w' w.heap.size P.kS P.kN pg A 0 k0∧BlkIs w' w.heap.size P.kS P.kN pg A 1 k1∧Below w.heap.size w w':=by
 have HT:Hid (Tab w):=ht
 have HQ:Hid (QTab w):=hq
 have HP:Hid (PgR w gp g mb kv P ml mu d):=hp
 have hc0:=hp.cell0
 have HAE:Hid (∀_:Unit,secs d.now 0 32=A):=fun _=>hA
 have HAL:Hid (A.length=2048):=by show _=_;rw [←hA];exact cJ (fun i hi=>hp.dk.ok.now (by omega))
 have HAB:Hid (Bytes A):=by rw [←hA];exact dz 32 (fun i hi=>hp.dk.ok.nowB (by omega))
 obtain ⟨KS,hKS⟩:∃KS,KS=P.kP++(P.kS++P.kN):=⟨_,rfl⟩
 have HKE:Hid (∀_:Unit,P.kP++(P.kS++P.kN)=KS):=fun _=>hKS.symm
 have hm:=Mem.start w
 clear ht hq hp hA hKS
 go_enter Tryz.func44,Tryz.ntmps44
 go_wp2_with (first
  | ((with_reducible refine aa (some 2) (.alloc 123) ?_);refine af _ eU hm ?_;clear hm;intro w1 gr hm)
  | ((with_reducible refine aa (some 10) (.load 69 (.tmp 9)) ?_);go_must (refine ae (.pointer (some ⟨g,0,none⟩)) rfl (aF (.pointer (some ⟨g,0,none⟩)) (PgR.cell0 (PgR.mem HP.out hm)) rfl kG) ?_))
  | (go_at_call 73;refine (en g mb kv d 0 32 hoff (by omega) (by omega) (by omega) _ (PgR.dk (PgR.mem HP.out hm))).mono ?_;rintro e w2 ⟨v,he,ho,hb⟩;rw [HAE.out ()] at ho;obtain ⟨gA,cA,lA,hv,hgA,hrA,hcA⟩:=OwnB.row ho (by rw [HAL.out];omega);rw [HAL.out] at hv hcA;subst hv;subst he;have HRA:Hid (Row w2 gA (u8s A++lA) 5):=hrA;have HGA:Hid (w.heap.size≤gA):=Nat.le_trans hm.size hgA;replace hm:=hm.call hb;clear ho hgA hrA hb))
 refine au ?_
 refine cL (T:=fun W=>Mem w [] W []) (by kernel_rfl) hm ?_
 clear hm
 intro w3 hb hm
 replace HRA:Hid (Row w3 gA (u8s A++lA) 5):=Row.below' HRA.out hb
 clear hb
 obtain ⟨fk,hfk⟩:=jq
 refine aT 0 (v:=.pointer (some ⟨gp,0,none⟩)) rfl (by kernel_rfl) rfl (fun W _=>by go_simp) hm.tail ?_
 go_simp
 refine aT 1 (v:=.pointer (some ⟨gp,0,none⟩)) rfl (by kernel_rfl) rfl (fun W _=>by go_simp) hm.tail ?_
 go_simp
 refine aT 2 (v:=.pointer (some ⟨gp,1,none⟩)) rfl (by kernel_rfl) rfl (fun W _=>by go_simp) hm.tail ?_
 go_simp
 refine aT 3 (v:=.agg (u8s KS).toArray) rfl (by kernel_rfl) rfl (fun W hW=>ao 1 (u8s KS) (PgR.row (PgR.mem HP.out hW)) rfl _ hfk rfl 96 iu (by rw [List.length_append,PgR.hlen HP.out];show 1+96≤97+8;omega) (by rw [hd_keys g _ HP.out.ok.kP.1 HP.out.ok.kS.1 HP.out.ok.kN.1,HKE.out ()])) hm.tail ?_
 go_simp
 refine aT 4 (v:=.pointer (some ⟨gp,0,none⟩)) rfl (by kernel_rfl) rfl (fun W _=>by go_simp) hm.tail ?_
 go_simp
 refine aT 6 (v:=.slice (some ⟨gA,0,none⟩) 2048 cA) rfl (by kernel_rfl) rfl (fun W _=>by go_simp) hm.tail ?_
 go_simp
 refine aO 5 (by kernel_rfl) rfl rfl ?_
 intro K hK
 go_wp2_with (go_at_call 40;refine (plenR_any gp g mb kv P ml mu d pg hn hpg _ (PgR.mem HP.out hm)).mono ?_;rintro e w4 ⟨rfl,rfl⟩)
 refine hK _ _ hm.tail ?_
 clear hK K
 refine aO 7 (by kernel_rfl) rfl rfl ?_
 intro K hK
 go_wp2_with (go_at_call 74;refine (groundOf_at P.kP P.kS P.kN KS A (HKE.out ()) pg gA 0 cA HP.out.ok.kP.1 HP.out.ok.kS.1 HP.out.ok.kN.1 HP.out.ok.kS.2 HP.out.ok.kN.2 hpg HAL.out HAB.out hcA _ (Tab.mem HT.out hm (by simp)) (QTab.mem HQ.out hm (by simp)) (eP HRA.out)).mono ?_;rintro e w5 ⟨k0,k1,he,hk0,hk1,hb⟩;subst he;have HK0:Hid (BlkIs w5 w.heap.size P.kS P.kN pg A 0 k0):=hk0.mono hm.size;have HK1:Hid (BlkIs w5 w.heap.size P.kS P.kN pg A 1 k1):=hk1.mono hm.size;replace HRA:Hid (Row w5 gA (u8s A++lA) 5):=Row.below' HRA.out hb;replace hm:=hm.call hb;clear hb hk0 hk1)
 refine hK _ _ hm.tail ?_
 clear hK K
 refine aO 8 (by kernel_rfl) rfl rfl ?_
 intro K hK
 refine ag 0 (grC (.slice (some ⟨gA,0,none⟩) 2048 cA) k0 k1) (Mem.enter (hm.get 0 rfl)) rfl rfl rfl 11 bH rfl rfl (fP _ _ _ _ _) ?_
 intro wz hq
 replace HK0:Hid (BlkIs wz w.heap.size P.kS P.kN pg A 0 k0):=HK0.out.updRow (hm.get 0 rfl) hq.toUpd
 replace HK1:Hid (BlkIs wz w.heap.size P.kS P.kN pg A 1 k1):=HK1.out.updRow (hm.get 0 rfl) hq.toUpd
 replace HRA:Hid (Row wz gA (u8s A++lA) 5):=hq.toUpd.row HRA.out (aQ HRA.out (hm.get 0 rfl) (by decide))
 replace hm:=hm.upd 0 rfl hq.toUpd (hq.get 0 rfl)
 clear hq
 refine wpList_nil ?_
 refine hK _ _ hm.tail ?_
 clear hK K
 refine aT 9 (v:=.int .i64 0) rfl (by kernel_rfl) rfl (fun W _=>by go_simp) hm.tail ?_
 go_simp
 refine wpAnyH_done (by kernel_rfl) ?_ _
 simp only [endsIn]
 go_wp2_with fail
 obtain ⟨fs,hfs⟩:=cM
 exact ret_ct 0 _ hm rfl Tryz.results44 rfl rfl _ hfs rfl 11 bH rfl rfl ⟨gA,cA,lA,k0,k1,rfl,hcA,HGA.out,HRA.out,HK0.out,HK1.out,hm.below⟩
open Go Go.RowKit Go.Maps
def gnC (n:Gn):List Value:=[.int .u64 (n.first:Int),.int .u64 (n.next:Int),.int .u64 (n.limit:Int)]
theorem lz (n:Gn):∀v∈gnC n,v.oneCell'=true:=fun v hv=>by
 simp only [gnC,List.mem_cons,List.not_mem_nil,or_false] at hv
 rcases hv with rfl|rfl|rfl<;>rfl
theorem hd_gens {h:List Value} (hl:h.length=97) (n:Gn) (t:List Value):((h++(gnC n++t)).drop 97).take 3=gnC n:=by
 rw [←hl,List.drop_left]
 rfl
theorem gV {h:List Value} (hl:h.length=97) (n n':Gn) (t:List Value):splice (h++(gnC n++t)) 97 (gnC n')=h++(gnC n'++t):=by
 rw [dQ h _ _ 97 hl]
 rfl
theorem more_bare (g:Gn) (known:Nat) (h1:g.first≤g.next) (h2:g.next≤g.limit) (hb:g.limit<2305843009213693952) (hkb:known<2305843009213693952) (w:World) :
  Calls Tryz.prog 76 #[gnV g,.int .u64 (known:Int)] w fun e w'=>e=.returned (gnV (g.more known))∧Below w.heap.size w w':=by
 by_cases hk:g.limit<known
 ·exact more_new g known h1 h2 hb hkb hk w
 ·exact more_same g known h1 h2 hb hkb hk w
theorem On.rewA {d:Dk} {k:Nat} (h:On d k) (A A1:List Int):On (rewArea d A A1) (k+33)∧(rewArea d A A1).n=d.n:=by
 obtain ⟨a,b,c,_,e,f⟩:=dY h.off h.left A A1
 have h0:=h.s0
 have h1:=h.s1
 exact ⟨⟨a,b,by omega,by omega⟩,c⟩
theorem nn (K1 K2 K3 KS:List Int) (hks:K1++(K2++K3)=KS) (limit root:Int) (pages n:Nat) (mt:ByteArray) (mv:Value) (p:Sts) (hl1:K1.length=32) (hl2:K2.length=32) (hl3:K3.length=32) (hkb:Bytes K2) (hkc:Bytes K3) (hp:pages≤400) (hrt:0≤root∧root<4294967296) (hmt:mt.size=n) (hn:n≤200) (w:World) (ht:Tab w) (hq:QTab w) (hs:StV w mv p) :
  Calls Tryz.prog 79 #[.agg (u8s KS).toArray,.int .i64 (pages:Int),.int .u64 limit,.agg (supC root mt mv).toArray] w fun e w'=>∃v,e=.returned v∧OwnB 5 w' w.heap.size v (blockN K2 K3 pages limit (bodyN root (strB mt) p) p)∧Below w.heap.size w w':=by
 subst hks
 exact mF K1 K2 K3 limit root pages n mt mv p hl1 hl2 hl3 hkb hkc hp hrt hmt hn w ht hq hs
theorem StV.updS {L:List Nat} {w w':World} {mv:Value} {p:Sts} (h:StV w mv p) (hu:UpdS L w w') (ha:∀m,mv=.map (some m)→m ∉ L):StV w' mv p:=by
 rcases h with h|⟨m,rfl,h⟩
 ·exact Or.inl h
 ·exact Or.inr ⟨m,rfl,h.updS hu (ha m rfl)⟩
theorem Tab.updS {w w':World} {L:List Nat} (h:Tab w) (hu:UpdS L w w') (hL:∀q∈L,2≤q):Tab w':=Tab.mem h (⟨hu.os,hu.tape,hu.output,hu.size,hu.block,fun r hr=>(by cases hr),(by simp),fun r hr=>(by cases hr)⟩:Mem w L w' []) (fun hh=>by have:=hL _ hh;omega)
theorem QTab.updS {w w':World} {L:List Nat} (h:QTab w) (hu:UpdS L w w') (hL:∀q∈L,2≤q):QTab w':=QTab.mem h (⟨hu.os,hu.tape,hu.output,hu.size,hu.block,fun r hr=>(by cases hr),(by simp),fun r hr=>(by cases hr)⟩:Mem w L w' []) (fun hh=>by have:=hL _ hh;omega)
theorem keep_any (gp g mb:Nat) (kv:Value) (P:Pg) (ml mu:Option Nat) (d:Dk) (pg k n kn at_ gA cA:Nat) (lA:List Value) (k0 k1:Bk) (root:Int) (mt:ByteArray) (mo:Option Nat) (p:Sts) (A A1 A2:List Int) (GN:Gn)
  (hA:secs d.now 0 32=A) (hat:nextP k0.v k1.v k0.l k1.l=at_) (hkn:knownN k0.v k1.v k0.l k1.l=(kn:Int)) (hGN:P.gn.more kn=GN) (hA1:wg A p=A1) (hA2:keepA P.kS P.kN pg A at_ GN.limit root (strB mt) p=A2)
  (hn:d.n=32+8 * pg) (hpg:pg≤400) (hdom:Dom p) (hgo:P.gn.first≤P.gn.next∧P.gn.next≤P.gn.limit) (hgb:P.gn.limit<2305843009213693952) (hknb:kn<2305843009213693952) (hrt:0≤root∧root<4294967296) (hmt:mt.size=n) (hnm:n≤200) (hon:On d k) (hk:k<9000000) (hcA:2048≤cA) (hg2:∀q∈gp::foot g mb kv,2≤q)
  (w:World) (ht:Tab w) (hq:QTab w) (hp:PgR w gp g mb kv P ml mu d) (hrA:Row w gA (u8s A++lA) 5) (hgA:gA ∉ foot g mb kv) (hs:StV w (.map mo) p) (hap:∀m,mo=some m→m ∉ gp::foot g mb kv) :
  Calls Tryz.prog 47 #[.pointer (some ⟨gp,0,none⟩),.agg (grC (.slice (some ⟨gA,0,none⟩) 2048 cA) k0 k1).toArray,.agg (supC root mt (.map mo)).toArray] w fun e w'=>e=.returned (.int .i64 0)∧PgR w' gp g mb kv {P with gn:=GN} ml mu (keepD d A A1 A2)∧UpdS (gp::foot g mb kv) w w':=by
 have HT:Hid (Tab w):=ht
 have HQ:Hid (QTab w):=hq
 have HP:Hid (PgR w gp g mb kv P ml mu d):=hp
 have HS:Hid (StV w (.map mo) p):=hs
 have HON:Hid (On d k):=hon
 have HAP:Hid (∀m,mo=some m→m ∉ gp::foot g mb kv):=hap
 have HRT:Hid (0≤root∧root<4294967296):=hrt
 have HGA:Hid (Row w gA (u8s A++lA) 5):=hrA
 have HFGA:Hid (gA ∉ foot g mb kv):=hgA
 have HG2:Hid (∀q∈gp::foot g mb kv,2≤q):=hg2
 have HAE:Hid (∀_:Unit,secs d.now 0 32=A):=fun _=>hA
 have HAL:Hid (A.length=2048):=by show _=_;rw [←hA];exact cJ (fun i hi=>hp.dk.ok.now (by omega))
 have HAB:Hid (Bytes A):=by rw [←hA];exact dz 32 (fun i hi=>hp.dk.ok.nowB (by omega))
 have HA1E:Hid (∀_:Unit,wg A p=A1):=fun _=>hA1
 have HA1L:Hid (A1.length=2048):=by rw [←hA1];exact dR HAL.out HAB.out hdom
 have HA1B:Hid (Bytes A1):=by rw [←hA1];exact lY HAL.out HAB.out hdom
 obtain ⟨KS,hKS⟩:∃KS,KS=P.kP++(P.kS++P.kN):=⟨_,rfl⟩
 have HKE:Hid (∀_:Unit,P.kP++(P.kS++P.kN)=KS):=fun _=>hKS.symm
 have hat2:at_<2:=by rw [←hat];exact ef _ _ _ _
 have HAT:Hid (∀_:Unit,nextP k0.v k1.v k0.l k1.l=at_):=fun _=>hat
 have HKN:Hid (∀_:Unit,knownN k0.v k1.v k0.l k1.l=(kn:Int)):=fun _=>hkn
 have HGNE:Hid (∀_:Unit,P.gn.more kn=GN):=fun _=>hGN
 have HGO:Hid (P.gn.first≤P.gn.next∧P.gn.next≤P.gn.limit):=hgo
 obtain ⟨BB,hBB⟩:∃BB,BB=blockN P.kS P.kN pg GN.limit (bodyN root (strB mt) p) p:=⟨_,rfl⟩
 have HBB:Hid (∀_:Unit,blockN P.kS P.kN pg GN.limit (bodyN root (strB mt) p) p=BB):=fun _=>hBB.symm
 have HBL:Hid (BB.length=299):=by rw [hBB];exact cD _ _ _ _ (bV _ _ _) _
 have HBBB:Hid (Bytes BB):=by rw [hBB];exact j2 _ _ _ _ (eY _ (cW mt) _) _
 have HA2E:Hid (∀_:Unit,withB A1 at_ BB=A2):=fun _=>by rw [←hA2,keepA,hA1,hBB]
 have HA2L:Hid (A2.length=2048):=by rw [←hA2];exact ev HAL.out HAB.out hdom hat2
 have HA2B:Hid (Bytes A2):=by rw [←hA2];exact fb HAL.out HAB.out hdom (cW mt)
 have HD1:Hid (On (rewArea d A A1) (k+33)∧(rewArea d A A1).n=d.n):=hon.rewA A A1
 have HGV:Hid (∀_:Unit,gnV P.gn=.agg (gnC P.gn).toArray∧gnV GN=.agg (gnC GN).toArray):=fun _=>⟨rfl,rfl⟩
 have hm:=Mem.start w
 clear ht hq hp hs hon hap hrt hrA hgA hA hat hkn hGN hA1 hA2 hKS hgo hBB hg2 hdom
 go_enter Tryz.func47,Tryz.ntmps47
 go_wp2_with (first
  | ((with_reducible refine aa (some 4) (.box 123 (.tmp 1)) ?_);refine ak (grC (.slice (some ⟨gA,0,none⟩) 2048 cA) k0 k1) rfl hm ?_;clear hm;intro w1 gG hm)
  | ((with_reducible refine aa (some 5) (.box 106 (.tmp 2)) ?_);refine ak (supC root mt (.map mo)) rfl hm ?_;clear hm;intro w2 gS hm)
  | ((with_reducible refine aa (some 15) (.load 123 (.tmp 4)) ?_);obtain ⟨fs,hfs⟩:=cM;go_must (refine am 1 hm rfl rfl _ hfs rfl 11 bH rfl ?_);clear hfs fs)
  | (go_at_call 75;refine (next_any _ k0 k1 _).mono ?_;rintro e w3 ⟨he,hb⟩;rw [HAT.out (),HKN.out ()] at he;subst he;replace hm:=hm.call hb;clear hb)
  | ((with_reducible refine aa (some 22) (.load 111 (.tmp 21)) ?_);obtain ⟨fs,hfs⟩:=fR;go_must (refine ae (gnV P.gn) rfl (ao 97 (gnC P.gn) (PgR.row (PgR.mem HP.out hm)) rfl _ hfs rfl 3 bX (by rw [List.length_append,PgR.hlen HP.out];show 97+3≤97+8;omega) (hd_gens (PgR.hlen HP.out) P.gn _)) ?_);clear hfs fs)
  | (go_at_call 76;refine (more_bare P.gn kn HGO.out.1 HGO.out.2 hgb hknb _).mono ?_;rintro e w4 ⟨he,hb⟩;rw [HGNE.out ()] at he;subst he;replace hm:=hm.call hb;clear hb)
  | ((with_reducible refine aa (some 9) (.alloc 111) ?_);refine af _ iC hm ?_;clear hm;intro w5 g9 hm)
  | ((with_reducible refine aa none (.store 111 (.tmp 9) (.tmp 24)) ?_);refine ag 0 (gnC GN) hm rfl rfl rfl 3 bX rfl rfl (lz _) ?_;clear hm;intro w6 hm)
  | ((with_reducible refine aa (some 26) (.load 54 (.tmp 25)) ?_);go_must (refine ai 2 0 (.slice (some ⟨gA,0,none⟩) 2048 cA) hm rfl rfl ag_bs rfl ?_))
  | ((with_reducible refine aa (some 28) (.load 104 (.tmp 27)) ?_);go_must (refine ai 1 2 (.map mo) hm rfl rfl cZ rfl ?_))
  | (go_at_call 77;refine (withGens_any A _ (.map mo) p HAL.out HAB.out _ ⟨_,cA,by rw [HAL.out],by rw [HAL.out];exact hcA,fun _=>⟨gA,0,rfl,eP (Row.below' HGA.out hm.below)⟩⟩ (StV.below HS.out hm.below)).mono ?_;rintro e w7 ⟨gW,rfl,hge,hr,hb⟩;rw [HA1E.out ()] at hr;replace hm:Mem w [] w7 [(gW,u8s A1,5),(g9,gnC GN,111),(gS,supC root mt (.map mo),106),(gG,grC (.slice (some ⟨gA,0,none⟩) 2048 cA) k0 k1,123)]:=hm.callNew hb hr hge;clear hb hr hge))
 have HP7:Hid (PgR w7 gp g mb kv P ml mu d):=PgR.mem HP.out hm
 have HB7:Hid (Below w.heap.size w w7):=hm.below
 replace HGA:Hid (Row w7 gA (u8s A++lA) 5):=Row.below' HGA.out hm.below
 have HGW:Hid (Row w7 gW (u8s A1) 5):=hm.get 0 rfl
 have HGN:Hid (Row w7 g9 (gnC GN) 111):=hm.get 1 rfl
 have HGS:Hid (Row w7 gS (supC root mt (.map mo)) 106):=hm.get 2 rfl
 have HGG:Hid (Row w7 gG (grC (.slice (some ⟨gA,0,none⟩) 2048 cA) k0 k1) 123):=hm.get 3 rfl
 have HNEW:Hid (∀r∈[gW,g9,gS,gG],w.heap.size≤r):=fun r hr=>by
  simp only [List.mem_cons,List.not_mem_nil,or_false] at hr
  have h9:=hm.fresh
  rcases hr with rfl|rfl|rfl|rfl
  ·have:=h9 _ (List.mem_of_getElem? (i:=0) rfl);simpa using this
  ·have:=h9 _ (List.mem_of_getElem? (i:=1) rfl);simpa using this
  ·have:=h9 _ (List.mem_of_getElem? (i:=2) rfl);simpa using this
  ·have:=h9 _ (List.mem_of_getElem? (i:=3) rfl);simpa using this
 have HFF:Hid (∀r∈[gW,g9,gS,gG],r ∉ gp::foot g mb kv):=fun r hr hh=>by have h1:=HP.out.lt r hh;have h2:=HNEW.out r hr;omega
 have HFGW:Hid (gW ∉ foot g mb kv):=fun hh=>HFF.out gW (by simp) (List.mem_cons_of_mem _ hh)
 have HFGN:Hid (g9 ∉ foot g mb kv):=fun hh=>HFF.out g9 (by simp) (List.mem_cons_of_mem _ hh)
 have HFGS:Hid (gS ∉ foot g mb kv):=fun hh=>HFF.out gS (by simp) (List.mem_cons_of_mem _ hh)
 have HFGG:Hid (gG ∉ foot g mb kv):=fun hh=>HFF.out gG (by simp) (List.mem_cons_of_mem _ hh)
 have HS7:Hid (StV w7 (.map mo) p):=StV.below HS.out hm.below
 have HT7:Hid (Tab w7):=Tab.mem HT.out hm (by simp)
 have HQ7:Hid (QTab w7):=QTab.mem HQ.out hm (by simp)
 clear hm HT HQ HS
 have hm:=Mem.start w7
 refine au ?_
 refine ap (T:=fun W=>W.cell? ⟨gp,0,none⟩=some (.pointer (some ⟨g,0,none⟩))∧W.cell? ⟨gG,0,none⟩=some (.slice (some ⟨gA,0,none⟩) 2048 cA)) (by kernel_rfl) hm ?_
 clear hm
 intro w8 hm
 have HC8:Hid (w8.cell? ⟨gp,0,none⟩=some (.pointer (some ⟨g,0,none⟩))∧w8.cell? ⟨gG,0,none⟩=some (.slice (some ⟨gA,0,none⟩) 2048 cA)):=⟨(PgR.mem HP7.out hm).cell0,((Row.below' HGG.out hm.below).cell 0).trans rfl⟩
 refine aT 0 (v:=.pointer (some ⟨gp,0,none⟩)) rfl (by kernel_rfl) rfl (fun W _=>by go_simp) HC8.out ?_
 go_simp
 refine aT 1 (v:=.pointer (some ⟨gp,0,none⟩)) rfl (by kernel_rfl) rfl (fun W _=>by go_simp) HC8.out ?_
 go_simp
 refine aT 2 (v:=.pointer (some ⟨gp,0,none⟩)) rfl (by kernel_rfl) rfl (fun W _=>by go_simp) HC8.out ?_
 go_simp
 refine aT 3 (v:=.pointer (some ⟨g,0,none⟩)) rfl (by kernel_rfl) rfl (fun W hW=>aF (.pointer (some ⟨g,0,none⟩)) hW.1 rfl kG) HC8.out ?_
 go_simp
 refine aT 4 (v:=.pointer (some ⟨gG,0,none⟩)) rfl (by kernel_rfl) rfl (fun W _=>by go_simp) HC8.out ?_
 go_simp
 refine aT 5 (v:=.slice (some ⟨gA,0,none⟩) 2048 cA) rfl (by kernel_rfl) rfl (fun W hW=>aF (.slice (some ⟨gA,0,none⟩) 2048 cA) hW.2 rfl ag_bs) HC8.out ?_
 go_simp
 refine aT 6 (v:=.slice (some ⟨gW,0,none⟩) 2048 2048) rfl (by kernel_rfl) rfl (fun W _=>by go_simp) HC8.out ?_
 go_simp
 refine aO 7 (by kernel_rfl) rfl rfl ?_
 intro K hK
 go_wp2_with (go_at_call 78;refine (gI g mb kv d A A1 _ _ k HON.out (by omega) HAL.out HA1L.out HAB.out HA1B.out (by omega) _ (PgR.dk (PgR.mem HP7.out hm)) ⟨_,cA,by rw [HAL.out],by rw [HAL.out];exact hcA,fun _=>⟨gA,0,rfl,HFGA.out,eP (Row.below' HGA.out hm.below)⟩⟩ (SlA.of_row (Row.below' HGW.out hm.below) 2048 HA1L.out.symm HFGW.out 2048 (Nat.le_refl _))).mono ?_;rintro e w9 ⟨he,hd9,hu9⟩;subst he;have HU9:Hid (UpdS (foot g mb kv) w7 w9):=(UpdS.of_below hm.below).trans hu9;have HP9:Hid (PgR w9 gp g mb kv P ml mu (rewArea d A A1)):=PgR.setDisk (PgR.mem HP7.out hm) hd9 hu9;clear hd9 hu9 hm)
 replace HGA:Hid (Row w9 gA (u8s A++lA) 5):=(HU9.out).row HGA.out HFGA.out
 replace HGW:Hid (Row w9 gW (u8s A1) 5):=(HU9.out).row HGW.out HFGW.out
 replace HGG:Hid (Row w9 gG (grC (.slice (some ⟨gA,0,none⟩) 2048 cA) k0 k1) 123):=(HU9.out).row HGG.out HFGG.out
 replace HGS:Hid (Row w9 gS (supC root mt (.map mo)) 106):=(HU9.out).row HGS.out HFGS.out
 replace HGN:Hid (Row w9 g9 (gnC GN) 111):=(HU9.out).row HGN.out HFGN.out
 replace HS7:Hid (StV w9 (.map mo) p):=StV.updS HS7.out HU9.out (fun m hm hh=>HAP.out m (by simpa using hm) (List.mem_cons_of_mem _ hh))
 replace HT7:Hid (Tab w9):=Tab.updS HT7.out HU9.out (fun q hq=>HG2.out q (List.mem_cons_of_mem _ hq))
 replace HQ7:Hid (QTab w9):=QTab.updS HQ7.out HU9.out (fun q hq=>HG2.out q (List.mem_cons_of_mem _ hq))
 have HC9:Hid (w9.cell? ⟨gp,0,none⟩=some (.pointer (some ⟨g,0,none⟩))∧w9.cell? ⟨gG,0,none⟩=some (.slice (some ⟨gA,0,none⟩) 2048 cA)):=⟨HP9.out.cell0,(HGG.out.cell 0).trans rfl⟩
 have HUW9:Hid (UpdS (gp::foot g mb kv) w w9):=(UpdS.of_below HB7.out).trans (HU9.out.mono (fun q hq=>List.mem_cons_of_mem _ hq))
 refine hK _ _ HC9.out ?_
 clear hK K
 refine aT 8 (v:=.int .i64 0) rfl (by kernel_rfl) rfl (fun W _=>by go_simp) HC9.out ?_
 go_simp
 refine wpAnyH_done (by kernel_rfl) ?_ _
 simp only [endsIn]
 clear HC8 HC9 HP7
 go_wp2_with fail
 have hm:=Mem.start w9
 refine au ?_
 refine ap (T:=fun W=>Mem w9 [] W []) (by kernel_rfl) hm ?_
 clear hm
 intro wa hm
 obtain ⟨fk,hfk⟩:=jq
 obtain ⟨fu,hfu⟩:=ep
 refine aT 0 (v:=.pointer (some ⟨gp,0,none⟩)) rfl (by kernel_rfl) rfl (fun W _=>by go_simp) hm ?_
 go_simp
 refine aT 1 (v:=.pointer (some ⟨gp,0,none⟩)) rfl (by kernel_rfl) rfl (fun W _=>by go_simp) hm ?_
 go_simp
 refine aT 2 (v:=.pointer (some ⟨gp,1,none⟩)) rfl (by kernel_rfl) rfl (fun W _=>by go_simp) hm ?_
 go_simp
 refine aT 3 (v:=.agg (u8s KS).toArray) rfl (by kernel_rfl) rfl (fun W hW=>ao 1 (u8s KS) (PgR.row (PgR.mem HP9.out hW)) rfl _ hfk rfl 96 iu (by rw [List.length_append,PgR.hlen HP.out];show 1+96≤97+8;omega) (by rw [hd_keys g _ HP.out.ok.kP.1 HP.out.ok.kS.1 HP.out.ok.kN.1,HKE.out ()])) hm ?_
 go_simp
 refine aT 4 (v:=.pointer (some ⟨gp,0,none⟩)) rfl (by kernel_rfl) rfl (fun W _=>by go_simp) hm ?_
 go_simp
 refine aT 6 (v:=.pointer (some ⟨g9,2,none⟩)) rfl (by kernel_rfl) rfl (fun W _=>by go_simp) hm ?_
 go_simp
 refine aT 7 (v:=.int .u64 (GN.limit:Int)) rfl (by kernel_rfl) rfl (fun W hW=>aF (.int .u64 (GN.limit:Int)) (((Row.below' HGN.out hW.below).cell 2).trans rfl) rfl aI) hm ?_
 go_simp
 refine aT 8 (v:=.agg (supC root mt (.map mo)).toArray) rfl (by kernel_rfl) rfl (fun W hW=>ao 0 (supC root mt (.map mo)) (Row.below' HGS.out hW.below) rfl _ hfu rfl 3 b8 (by show 0+3≤3;omega) rfl) hm ?_
 go_simp
 refine aO 5 (by kernel_rfl) rfl rfl ?_
 intro K hK
 go_wp2_with (go_at_call 40;refine (plenR_any gp g mb kv P ml mu (rewArea d A A1) pg (by rw [HD1.out.2];exact hn) hpg _ (PgR.mem HP9.out hm)).mono ?_;rintro e wb ⟨rfl,rfl⟩)
 refine hK _ _ hm ?_
 clear hK K
 refine aO 9 (by kernel_rfl) rfl rfl ?_
 intro K hK
 go_wp2_with (go_at_call 79;refine (nn P.kP P.kS P.kN KS (HKE.out ()) (GN.limit:Int) root pg n mt (.map mo) p HP.out.ok.kP.1 HP.out.ok.kS.1 HP.out.ok.kN.1 HP.out.ok.kS.2 HP.out.ok.kN.2 hpg HRT.out hmt hnm _ (Tab.mem HT7.out hm (by simp)) (QTab.mem HQ7.out hm (by simp)) (StV.below HS7.out hm.below)).mono ?_;rintro e wc ⟨v,he,ho,hb⟩;rw [HBB.out ()] at ho;obtain ⟨gB,cB,lB,hv,hgB,hrB,hcB⟩:=OwnB.row ho (by rw [HBL.out];omega);rw [HBL.out] at hv hcB;subst hv;subst he;have HRB:Hid (Row wc gB (u8s BB++lB) 5):=hrB;replace hm:=hm.call hb;clear ho hgB hrB hb)
 refine hK _ _ hm ?_
 clear hK K
 refine aT 10 (v:=.slice (some ⟨gB,0,none⟩) 299 cB) rfl (by kernel_rfl) rfl (fun W _=>by go_simp) hm ?_
 go_simp
 refine wpAnyH_done (by kernel_rfl) ?_ _
 simp only [endsIn]
 have HPC:Hid (PgR wc gp g mb kv P ml mu (rewArea d A A1)):=PgR.mem HP9.out hm
 replace HGW:Hid (Row wc gW (u8s A1) 5):=Row.below' HGW.out hm.below
 replace HGN:Hid (Row wc g9 (gnC GN) 111):=Row.below' HGN.out hm.below
 have HBC:Hid (Below w9.heap.size w9 wc):=hm.below
 clear hm HT7 HQ7 HS7 HGS HGG HGA
 go_wp2_with fail
 have hm:=Mem.start wc
 refine au ?_
 refine ap (T:=fun W=>W.cell? ⟨gp,0,none⟩=some (.pointer (some ⟨g,0,none⟩))) (by kernel_rfl) hm ?_
 clear hm
 intro wd hm
 have HCD:Hid (wd.cell? ⟨gp,0,none⟩=some (.pointer (some ⟨g,0,none⟩))):=(PgR.mem HPC.out hm).cell0
 refine aT 0 (v:=.pointer (some ⟨gp,0,none⟩)) rfl (by kernel_rfl) rfl (fun W _=>by go_simp) HCD.out ?_
 go_simp
 refine aT 1 (v:=.pointer (some ⟨gp,0,none⟩)) rfl (by kernel_rfl) rfl (fun W _=>by go_simp) HCD.out ?_
 go_simp
 refine aT 2 (v:=.pointer (some ⟨gp,0,none⟩)) rfl (by kernel_rfl) rfl (fun W _=>by go_simp) HCD.out ?_
 go_simp
 refine aT 3 (v:=.pointer (some ⟨g,0,none⟩)) rfl (by kernel_rfl) rfl (fun W hW=>aF (.pointer (some ⟨g,0,none⟩)) hW rfl kG) HCD.out ?_
 go_simp
 refine aT 4 (v:=.slice (some ⟨gW,0,none⟩) 2048 2048) rfl (by kernel_rfl) rfl (fun W _=>by go_simp) HCD.out ?_
 go_simp
 refine aT 5 (v:=.slice (some ⟨gW,0,none⟩) 2048 2048) rfl (by kernel_rfl) rfl (fun W _=>by go_simp) HCD.out ?_
 go_simp
 refine aT 6 (v:=.int .i64 (at_:Int)) rfl (by kernel_rfl) rfl (fun W _=>by go_simp) HCD.out ?_
 go_simp
 refine aT 7 (v:=.slice (some ⟨gB,0,none⟩) 299 cB) rfl (by kernel_rfl) rfl (fun W _=>by go_simp) HCD.out ?_
 go_simp
 refine aO 8 (by kernel_rfl) rfl rfl ?_
 intro K hK
 go_wp2_with (go_at_call 80;refine (m8 A1 BB _ _ at_ (by omega) HA1L.out HBL.out _ (aE (Row.below' HGW.out hm.below) HA1L.out (Nat.le_refl _)) ⟨_,cB,by rw [HBL.out],by rw [HBL.out];exact hcB,fun _=>⟨gB,0,rfl,eP (Row.below' HRB.out hm.below)⟩⟩).mono ?_;rintro e we ⟨gZ,rfl,hge,hr,hb⟩;rw [HA2E.out ()] at hr;have HRZ:Hid (Row we gZ (u8s A2) 5):=hr;have HFZ:Hid (gZ ∉ foot g mb kv):=(fun hh=>by have h1:=(PgR.dk HPC.out).lt gZ hh;have h2:=Nat.le_trans hm.size hge;omega);replace hm:=hm.call hb;clear hb hr hge)
 have HCE:Hid (we.cell? ⟨gp,0,none⟩=some (.pointer (some ⟨g,0,none⟩))):=(PgR.mem HPC.out hm).cell0
 refine hK _ _ HCE.out ?_
 clear hK K
 refine aO 9 (by kernel_rfl) rfl rfl ?_
 intro K hK
 go_wp2_with (go_at_call 78;refine (gI g mb kv (rewArea d A A1) A1 A2 _ _ (k+33) HD1.out.1 (by omega) HA1L.out HA2L.out HA1B.out HA2B.out (by rw [HD1.out.2];omega) _ (PgR.dk (PgR.mem HPC.out hm)) (SlA.of_row (Row.below' HGW.out hm.below) 2048 HA1L.out.symm HFGW.out 2048 (Nat.le_refl _)) (SlA.of_row HRZ.out 2048 HA2L.out.symm HFZ.out 2048 (Nat.le_refl _))).mono ?_;rintro e wf ⟨he,hdf,huf⟩;subst he;have HUF:Hid (UpdS (foot g mb kv) wc wf):=(UpdS.of_below hm.below).trans huf;have HPF:Hid (PgR wf gp g mb kv P ml mu (keepD d A A1 A2)):=PgR.setDisk (PgR.mem HPC.out hm) hdf huf;clear hdf huf hm)
 replace HGN:Hid (Row wf g9 (gnC GN) 111):=HUF.out.row HGN.out HFGN.out
 have HCF:Hid (wf.cell? ⟨gp,0,none⟩=some (.pointer (some ⟨g,0,none⟩))):=HPF.out.cell0
 have HUWF:Hid (UpdS (gp::foot g mb kv) w wf):=(HUW9.out.trans (UpdS.of_below HBC.out)).trans (HUF.out.mono (fun q hq=>List.mem_cons_of_mem _ hq))
 refine hK _ _ HCF.out ?_
 clear hK K
 refine aT 10 (v:=.int .i64 0) rfl (by kernel_rfl) rfl (fun W _=>by go_simp) HCF.out ?_
 go_simp
 refine wpAnyH_done (by kernel_rfl) ?_ _
 simp only [endsIn]
 go_wp2_with (first
  | ((with_reducible refine aa (some 65) (.load 111 (.tmp 9)) ?_);obtain ⟨fs,hfs⟩:=fR;go_must (refine ae (.agg (gnC GN).toArray) rfl (ao 0 (gnC GN) HGN.out rfl _ hfs rfl 3 bX (by show 0+3≤3;omega) rfl) ?_);clear hfs fs)
  | ((with_reducible refine aa none (.store 111 (.tmp 67) (.tmp 65)) ?_);go_must (refine iV 0 97 (gnC GN) (hdP g P.kP P.kS P.kN++tlP GN P.root P.mt ml mu P.off) (Mem.enter (PgR.row HPF.out)) rfl rfl rfl 3 bX rfl (by rw [List.length_append,PgR.hlen HPF.out];show 97+3≤97+8;omega) (lz _) (gV (PgR.hlen HPF.out) P.gn GN _) ?_);intro wg_ hq;have HUG:Hid (Upd gp wf wg_):=hq.toUpd;have HPG:Hid (PgR wg_ gp g mb kv {P with gn:=GN} ml mu (keepD d A A1 A2)):=PgR.setRow HPF.out hq.toUpd ⟨HPF.out.ok.kP,HPF.out.ok.kS,HPF.out.ok.kN⟩ (hq.get 0 rfl);clear hq))
 go_ret
 exact ⟨rfl,HPG.out,HUWF.out.trans (UpdS.of_upd HUG.out (by simp))⟩
end Go.Proofs.YtmlbjfklaehjnaaGreatDoor
