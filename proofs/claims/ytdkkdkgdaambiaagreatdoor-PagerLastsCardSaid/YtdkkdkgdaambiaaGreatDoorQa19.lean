import Derived.Test.YtdkkdkgdaambiaaGreatDoorQa17
import Derived.Test.YtdkkdkgdaambiaaGreatDoorQa18
set_option maxRecDepth 100000
namespace Go.Proofs.YtdkkdkgdaambiaaGreatDoor
open Go Go.RowKit Go.Maps
theorem ag_strP:∀w,(isAgg 9).run Tryz.prog w=.ok false w:=by intro w;simp [go_sem]
theorem OwnB.monoP {e:TypeId} {w:World} {b b':Nat} {v:Value} {zs:List Int} (h:OwnB e w b v zs) (hb:b'≤b):OwnB e w b' v zs:=by
 refine ⟨h.1,?_⟩
 rcases h.2 with hn | ⟨g,cap,cur,hv,hg,rest⟩
 ·exact Or.inl hn
 ·exact Or.inr ⟨g,cap,cur,hv,Nat.le_trans hb hg,rest⟩
def supC (root:Int) (mt:ByteArray) (mv:Value):List Value:=[.int .u32 root,.string mt,mv]
set_option maxHeartbeats 3000000 in
theorem superNonce_any (K1 K2 K3 body:List Int) (pages:Nat) (limit:Int) (v mv:Value) (p:Sts) (hl1:K1.length=32) (hl2:K2.length=32) (hl3:K3.length=32) (hkc:Bytes K3) (hp:pages≤400) (hbl:body.length=263) (hbb:Bytes body) (w:World) (ht:Tab w) (hv:SlOld w v body) (hs:StV w mv p) :
  Calls Tryz.prog 104 #[.agg (u8s (K1++(K2++K3))).toArray,.int .i64 (pages:Int),.int .u64 limit,v,mv] w fun e w'=>e=.returned (.agg (u8s (nonN K3 pages limit body p)).toArray)∧Below w.heap.size w w':=by
 obtain ⟨q,cap,rfl,hc,hsg⟩:=hv
 rw [hbl] at hc hsg ⊢
 have HV:Hid (0<263→∃b off,q=some ⟨b,off,none⟩∧Seg w b off body):=hsg
 have HT:Hid (Tab w):=ht
 have HS:Hid (StV w mv p):=hs
 have HKC:Hid (Bytes K3):=hkc
 have HBL:Hid (body.length=263):=hbl
 have HBB:Hid (Bytes body):=hbb
 obtain ⟨KS,hKS⟩:∃KS,KS=K1++(K2++K3):=⟨_,rfl⟩
 have lK:∀K:List Int,K.length=32→(u8s K).length=32:=fun K h=>by rw [u8s_length,h]
 have hKE:u8s KS=u8s K1++(u8s K2++u8s K3):=by rw [hKS];simp [u8s]
 have HKU:Hid ((u8s KS).length=96):=by show _=_;rw [hKE];simp [lK K1 hl1,lK K2 hl2,lK K3 hl3]
 have HK2:Hid (((u8s KS).drop 32).take 32=u8s K2):=by
  show _=_
  rw [hKE,List.drop_append,List.drop_of_length_le (by rw [lK K1 hl1];omega),List.nil_append,lK K1 hl1,Nat.sub_self,List.drop_zero,List.take_append_of_le_length (by rw [lK K2 hl2];omega),List.take_of_length_le (by rw [lK K2 hl2];omega)]
 have HK3:Hid (KS.drop 64=K3):=by
  show _=_
  rw [hKS,←List.append_assoc,List.drop_append,List.drop_of_length_le (by simp [hl1,hl2]),List.nil_append,show 64 - (K1++K2).length=0 by simp [hl1,hl2],List.drop_zero]
 have HLEN:Hid (∀k,k≤400→(aadN pages limit++body++gensB p k).length≤278+8 * k):=fun k _=>by
  have h9:=gensB_length p k
  rw [List.length_append,List.length_append,aadN_length,hbl]
  omega
 have HMB:Hid (Bytes (aadN pages limit++body++gensB p pages)):=((aadN_bytes _ _).append hbb).append (gensB_bytes _ _)
 obtain ⟨SU,hSU⟩:∃SU,SU=macOf K3 (aadN pages limit++body++gensB p pages):=⟨_,rfl⟩
 have HSU:Hid (∀_:Unit,macOf K3 (aadN pages limit++body++gensB p pages)=SU):=fun _=>hSU.symm
 have HSUL:Hid (SU.length=32):=by rw [hSU];exact macOf_length _ _
 have HSUU:Hid ((u8s SU).length=32):=by show _=_;rw [u8s_length,HSUL.out]
 obtain ⟨ns,hns⟩:∃ns,ns=nonN K3 pages limit body p:=⟨_,rfl⟩
 have HNE:Hid (∀_:Unit,SU.take 12=ns):=fun _=>by rw [hns,hSU,nonN]
 have HNL:Hid (ns.length=12):=by rw [hns];exact nonN_length _ _ _ _ _
 have HNU:Hid ((u8s ns).length=12):=by show _=_;rw [u8s_length,HNL.out]
 have hm:=Mem.start w
 rw [←hKS,←hns]
 clear ht hs hsg hkc hbb hKS hKE lK hSU hns hbl
 go_enter Tryz.func104,Tryz.ntmps104
 go_wp2_with (first
  | ((with_reducible refine at_op (some 5) (.box 69 (.tmp 0)) ?_);refine wpl_box (u8s KS) rfl hm ?_;clear hm;intro w1 gk hm)
  | ((with_reducible refine at_op (some 10) (.alloc 113) ?_);refine wpl_alloc _ zero_nce hm ?_;clear hm;intro w2 gn hm)
  | (go_at_call 105;refine (superAad_any pages limit hp _).mono ?_;rintro e w3 ⟨ga,rfl,hge,hr,hb⟩;have HO:Hid (OwnB 5 w3 w.heap.size (.slice (some ⟨ga,0,none⟩) 15 15) (aadN pages limit)):=own_row (zs:=aadN pages limit) hr (Nat.le_trans hm.size hge) (by rw [aadN_length];omega);replace hm:=hm.call hb;clear hb hr hge)
  | ((with_reducible refine at_op (some 21) (.call {callee:=.builtin .append,args:=#[.tmp 19,.tmp 20],argTypes:=#[22,22]}) ?_);go_must (refine wpl_app rfl un_bs made_u8 body hm HO.out (by intro r hr;simp only [List.mem_cons,List.not_mem_nil,or_false] at hr;rcases hr with rfl | rfl<;>simp) rfl rfl HBL.out.symm (fun h0=>by obtain ⟨b,off,e,hs⟩:=HV.out (by omega);exact ⟨b,off,e,Seg.mem hs hm (by simp)⟩) (by rw [aadN_length,HBL.out];omega) ?_);clear hm HO;intro v4 w4 ho hm;have HO:Hid (OwnB 5 w4 w.heap.size v4 (aadN pages limit++body)):=ho;clear ho))
 go_loopw [11,24] (fun va vi wr=>∃k:Nat,k≤pages∧vi=.int .u32 (k:Int)∧Hid (OwnB 5 wr w.heap.size va (aadN pages limit++body++gensB p k))∧Mem w [] wr [(gn,u8s (List.replicate 12 0),113),(gk,u8s KS,69)]) (fun _ vi _=>pages - (RowKit.intOf vi).toNat)
 case atStart=>exact ⟨0,by omega,rfl,by show OwnB _ _ _ _ _;rw [show gensB p 0=[] from rfl,List.append_nil];exact HO.out,hm⟩
 case round =>
  clear hm HO
  obtain ⟨k,hk,rfl,HO,hm⟩:=hrel
  by_cases hlt:k<pages
  ·have hki:(k:Int)<(pages:Int):=by omega
   have HK4:Hid (k<4294967296):=by show _<_;omega
   cases hpk:p k with
   | none =>
    have HPK:Hid (p k=none):=hpk
    have HCN:Hid (∀_:Unit,gensB p (k+1)=gensB p k):=fun _=>by rw [gensB,hpk]
    clear hpk
    go_wp2_with (first
     | (go_at_call 29;refine (indexOf_any (k:Int) _).mono ?_;rintro e w3 ⟨rfl,hb⟩;replace HO:Hid (OwnB 5 w3 w.heap.size u11 (aadN pages limit++body++gensB p k)):=OwnB.below HO.out hb;replace hm:=hm.call hb;clear hb)
     | ((with_reducible refine at_op (some 31) (.lookup 73 (.tmp 28) (.tmp 30) true) ?_);go_must (refine wpl_execG (.tuple #[stV ((p k).getD 0),.bool (p k).isSome]) rfl (exec_svlook (StV.below HS.out hm.below) k HK4.out rfl rfl) ?_);rw [HPK.out])
     | ((with_reducible refine at_op (some 13) (.alloc 83) ?_);refine wpl_allocB _ zero_staL hm ?_;clear hm;intro w4 gs hb hm;replace HO:Hid (OwnB 5 w4 w.heap.size u11 (aadN pages limit++body++gensB p k)):=OwnB.below HO.out hb;clear hb)
     | ((with_reducible refine at_op none (.store 83 (.tmp 13) (.tmp 32)) ?_);refine wpl_stw 0 (stC 0) (Mem.enter (hm.get 0 rfl)) rfl rfl rfl 1 sz_sta rfl rfl (stC_one _) ?_;intro w5 hq;replace HO:Hid (OwnB 5 w5 w.heap.size u11 (aadN pages limit++body++gensB p k)):=OwnB.upd HO.out (hm.get 0 rfl) (by decide) hq.toUpd;replace hm:Mem w [] w5 ((gs,stC 0,83)::[(gn,u8s (List.replicate 12 0),113),(gk,u8s KS,69)]):=hm.upd 0 rfl hq.toUpd (hq.get 0 rfl);clear hq))
    go_roundw
    case rel=>exact ⟨k+1,by omega,by go_num,by show OwnB _ _ _ _ _;rw [HCN.out ()];exact HO.out,hm.tail⟩
    case measure=>simp [RowKit.intOf];omega
   | some s =>
    have HPK:Hid (p k=some s):=hpk
    have HCN:Hid (∀_:Unit,gensB p (k+1)=gensB p k++be8 (s:Int)):=fun _=>by rw [gensB,hpk]
    clear hpk
    go_wp2_with (first
     | (go_at_call 29;refine (indexOf_any (k:Int) _).mono ?_;rintro e w3 ⟨rfl,hb⟩;replace HO:Hid (OwnB 5 w3 w.heap.size u11 (aadN pages limit++body++gensB p k)):=OwnB.below HO.out hb;replace hm:=hm.call hb;clear hb)
     | ((with_reducible refine at_op (some 31) (.lookup 73 (.tmp 28) (.tmp 30) true) ?_);go_must (refine wpl_execG (.tuple #[stV ((p k).getD 0),.bool (p k).isSome]) rfl (exec_svlook (StV.below HS.out hm.below) k HK4.out rfl rfl) ?_);rw [HPK.out])
     | ((with_reducible refine at_op (some 13) (.alloc 83) ?_);refine wpl_allocB _ zero_staL hm ?_;clear hm;intro w4 gs hb hm;replace HO:Hid (OwnB 5 w4 w.heap.size u11 (aadN pages limit++body++gensB p k)):=OwnB.below HO.out hb;clear hb)
     | ((with_reducible refine at_op none (.store 83 (.tmp 13) (.tmp 32)) ?_);refine wpl_stw 0 (stC s) (Mem.enter (hm.get 0 rfl)) rfl rfl rfl 1 sz_sta rfl rfl (stC_one _) ?_;intro w5 hq;replace HO:Hid (OwnB 5 w5 w.heap.size u11 (aadN pages limit++body++gensB p k)):=OwnB.upd HO.out (hm.get 0 rfl) (by decide) hq.toUpd;replace hm:Mem w [] w5 ((gs,stC s,83)::[(gn,u8s (List.replicate 12 0),113),(gk,u8s KS,69)]):=hm.upd 0 rfl hq.toUpd (hq.get 0 rfl);clear hq)
     | ((with_reducible refine at_op (some 36) (.load 70 (.tmp 35)) ?_);refine wpl_ldc 0 0 (.int .u64 (s:Int)) hm rfl rfl ag_u64 (rfl) ?_)
     | (go_at_call 68;refine (put_at8 [] _ (s:Int) (by simp) _ ⟨none,0,rfl,Nat.le_refl _,fun h=>absurd h (by simp)⟩).mono ?_;rintro e w6 ⟨gt,rfl,hge,hr,hb⟩;rw [show ([]:List Int).length+8=8 from rfl];have HX:Hid (Row w6 gt (u8s (be8 (s:Int))) 5):=hr;replace HO:Hid (OwnB 5 w6 w.heap.size u11 (aadN pages limit++body++gensB p k)):=OwnB.below HO.out hb;replace hm:=hm.call hb;clear hb hr hge)
     | ((with_reducible refine at_op (some 40) (.call {callee:=.builtin .append,args:=#[.tmp 38,.tmp 39],argTypes:=#[22,22]}) ?_);go_must (refine wpl_app rfl un_bs made_u8 (be8 (s:Int)) hm HO.out (by intro r hr;simp only [List.mem_cons,List.not_mem_nil,or_false] at hr;rcases hr with rfl | rfl | rfl<;>simp) rfl rfl rfl (fun h0=>⟨gt,0,rfl,Seg.row HX.out⟩) (by have h9:=HLEN.out k (by omega);rw [be8_length];omega) ?_);clear hm HO HX;intro v7 w7 ho hm;have HO7:Hid (OwnB 5 w7 w.heap.size v7 ((aadN pages limit++body++gensB p k)++be8 (s:Int))):=ho;clear ho))
    go_roundw
    case rel=>exact ⟨k+1,by omega,by go_num,by show OwnB _ _ _ _ _;rw [HCN.out (),←List.append_assoc];exact HO7.out,hm.tail⟩
    case measure=>simp [RowKit.intOf];omega
  ·obtain rfl:k=pages:=by omega
   have hni:¬(k:Int)<(k:Int):=by omega
   go_wp2_with (first
    | ((with_reducible refine at_op (some 43) (.slice 61 (.tmp 42) none none none) ?_);go_must (refine wpl_execG (.slice (some ⟨gk,64,none⟩) 32 32) rfl (exec_slaT 32 un_key sz_u8 0 32 (by omega) (by omega) rfl (Or.inr ⟨rfl,rfl⟩) (Or.inr ⟨rfl,rfl⟩)) ?_))
    | (go_at_call 128;refine (mac_any K3 (aadN k limit++body++gensB p k) _ _ HKC.out HMB.out (by omega) (by have h9:=HLEN.out k (by omega);omega) _ (Tab.mem HT.out hm (by simp)) ⟨_,32,by rw [hl3],by omega,fun _=>⟨gk,64,rfl,by have h9:=(Seg.row (hm.get 1 rfl)).drop 64;rw [HK3.out] at h9;exact h9⟩⟩ (OwnB.old HO.out)).mono ?_;rintro e w6 ⟨he,hb⟩;rw [HSU.out ()] at he;subst he;clear HO;replace hm:=hm.call hb;clear hb)
    | ((with_reducible refine at_op (some 16) (.alloc 60) ?_);refine wpl_alloc _ zero_b32 hm ?_;clear hm;intro w7 gu hm)
    | ((with_reducible refine at_op none (.store 60 (.tmp 16) (.tmp 45)) ?_);refine wpl_stw 0 (u8s SU) hm rfl rfl rfl 32 sz_b32 (by simp [u8s_length]) (HSUU.out) (u8s_one _) ?_;clear hm;intro w8 hm)
    | ((with_reducible refine at_op (some 46) (.slice 60 (.tmp 16) none (some (.const (.int .i64 12))) none) ?_);go_must (refine wpl_execG (.slice (some ⟨gu,0,none⟩) 12 32) rfl (exec_slaT 32 un_b32 sz_u8 0 12 (by omega) (by omega) rfl (Or.inr ⟨rfl,rfl⟩) (Or.inl rfl)) ?_))
    | ((with_reducible refine at_op (some 47) (.sliceToArrayPointer 113 (.tmp 46)) ?_);go_must (refine wpl_s2a 12 un_nce (by omega) rfl ?_))
    | ((with_reducible refine at_op (some 48) (.load 113 (.tmp 47)) ?_);go_must (refine wpl_execG (.agg (u8s ns).toArray) rfl (exec_ldS ns rfl (by rw [←HNE.out ()];exact (Seg.row (hm.get 0 rfl)).take 12) _ un_nce rfl 12 sz_nce HNL.out) ?_))
    | ((with_reducible refine at_op none (.store 113 (.tmp 10) (.tmp 48)) ?_);refine wpl_stw 1 (u8s ns) hm rfl rfl rfl 12 sz_nce (by simp [u8s_length]) (HNU.out) (u8s_one _) ?_;clear hm;intro w9 hm))
   exact ret_cell 1 hm rfl Tryz.results104 rfl _ un_nce rfl 12 sz_nce HNU.out rfl ⟨rfl,hm.below⟩
open Go Go.RowKit Go.Maps
set_option maxHeartbeats 1000000 in
theorem text_posG (zs:List Int) (v:Value) (s:ByteArray) (m n:Nat) (hz:zs.length=m) (hml:m≤1000) (hn:s.size=n) (hl:n≤300) (h0:0<n) (w:World) (hv:SlOld w v zs) :
  Calls Tryz.prog 131 #[v,.string s] w fun e w'=>∃g,e=.returned (.slice (some ⟨g,0,none⟩) (m+(2+n)) (m+(2+n)))∧w.heap.size≤g∧Row w' g (u8s (zs++(be2 n++strB s))) 5∧Below w.heap.size w w':=by
 obtain ⟨p,cap,rfl,hcap⟩:=hv.len
 have HV:Hid (SlOld w (.slice p zs.length cap) zs):=hv
 have HZL:Hid (zs.length=m):=hz
 have hm:=Mem.start w
 have HSL:Hid ((strB s).length=n):=by show _=_;rw [strB_length,hn]
 have HW:IntKind.u64.wrap (n:Int)=(n:Int):=wrapU_of n (by omega)
 have HR0:Hid (List.replicate (2+n) (0:Int)=[0,0]++List.replicate n 0):=by
  show _=_
  rw [show [(0:Int),0]=List.replicate 2 0 from rfl,List.replicate_append_replicate]
 have HSP:Hid (splice (u8s (zs++(be2 n++List.replicate n 0))) (m+2) (u8s (strB s))=u8s (zs++(be2 n++strB s))):=by
  show _=_
  unfold splice u8s
  rw [←List.map_take,←List.map_drop,←List.map_append,←List.map_append]
  congr 1
  have h9:(zs++be2 (n:Int)).length=m+2:=by rw [List.length_append,hz,be2_length]
  have e1:zs++(be2 (n:Int)++List.replicate n 0)=(zs++be2 (n:Int))++List.replicate n 0:=by rw [List.append_assoc]
  rw [e1,←h9,List.take_left,List.length_map,HSL.out,List.drop_of_length_le (by rw [List.length_append];simp),List.append_nil,List.append_assoc]
 rw [hz] at HV hcap ⊢
 clear hv hz
 have HLG:Hid (∀W,Below w.heap.size w W→Calls Tryz.prog 97 #[.slice p m cap,.int .i64 ((2+n:Nat):Int)] W fun e w'=>∃g,e=.returned (.slice (some ⟨g,0,none⟩) (m+(2+n)) (m+(2+n)))∧W.heap.size≤g∧Row w' g (u8s (zs++([0,0]++List.replicate n 0))) 5∧Below W.heap.size W w'):=fun W hW=>by
  have h9:=longer_gen zs (.slice p m cap) (2+n) (by rw [HZL.out];omega) (by omega) W (SlOld.bel HV.out hW)
  rw [HZL.out,HR0.out] at h9
  exact h9
 have HPN:Hid (∀g W,Row W g (u8s (zs++([0,0]++List.replicate n 0))) 5→Calls Tryz.prog 98 #[.slice (some ⟨g,m,none⟩) 2 (2+n),.int .u64 (n:Int)] W fun e w'=>e=.returned (.tuple #[])∧Row w' g (u8s (zs++(be2 n++List.replicate n 0))) 5∧Upd g W w'):=fun g W hr=>by
  have h9:=putNumber_two g zs (List.replicate n 0) (n:Int) (2+n) W hr
  rw [HZL.out] at h9
  exact h9
 go_enter Tryz.func131,Tryz.ntmps131
 go_wp2_with (first
  | ((with_reducible refine at_op (some 11) (.slice 9 (.tmp 7) none (some (.tmp 10)) none) ?_);go_must (refine wpl_execG (.string s) rfl (exec_strAll s n hn rfl rfl) ?_))
  | (go_at_call 97;refine (HLG.out _ (hm.below)).mono ?_;rintro e w2 ⟨g,he,hge,hr,hb⟩;subst he;replace hm:=hm.callNew hb hr hge;clear hb hr hge)
  | ((with_reducible refine at_op (some 20) (.slice 22 (.tmp 17) (some (.tmp 19)) none none) ?_);go_must (refine wpl_slo un_bs sz_u8 m m (2+n) (2+n) (by omega) (by omega) (by omega) (by omega) (by omega) rfl rfl rfl ?_))
  | ((with_reducible refine at_op (some 22) (.slice 22 (.tmp 21) none (some (.const (.int .i64 2))) none) ?_);go_must (refine wpl_execG (.slice (some ⟨g,m,none⟩) 2 (2+n)) rfl (exec_hiS un_bs sz_u8 2 (by omega) rfl rfl rfl) ?_))
  | (go_at_call 98;refine (HPN.out g _ (hm.get 0 rfl)).mono ?_;rintro e w3 ⟨rfl,hr2,hu⟩;replace hm:=hm.upd 0 rfl hu hr2;clear hr2 hu)
  | ((with_reducible refine at_op (some 28) (.slice 22 (.tmp 27) (some (.const (.int .i64 2))) none none) ?_);go_must (refine wpl_execG (.slice (some ⟨g,m+2,none⟩) n (2+n - 2)) rfl (exec_loS (g:=g) (o:=m) (len:=2+n) (cap:=2+n) un_bs sz_u8 2 n (by omega) (by omega) (by omega) rfl rfl rfl) ?_))
  | ((with_reducible refine at_op (some 30) (.call {callee:=.builtin .copy,args:=#[.tmp 28,.tmp 29],argTypes:=#[22,9]}) ?_);go_must (refine wpl_cpStr 0 (m+2) n _ s (u8s (zs++(be2 n++strB s))) hm rfl rfl rfl _ un_bs sz_u8 (by omega) (by rw [u8s_length,List.length_append,HZL.out];simp [be2_length];omega) HSP.out ?_);clear hm;intro w4 hm))
 go_ret
 have hf:=hm.fresh _ (List.mem_cons_self ..)
 exact ⟨g,rfl,by simpa using hf,hm.get 0 rfl,hm.below⟩
set_option maxHeartbeats 1000000 in
theorem text_nilG (zs:List Int) (v:Value) (m:Nat) (hz:zs.length=m) (hml:m≤1000) (w:World) (hv:SlOld w v zs) :
  Calls Tryz.prog 131 #[v,.string {data:=#[]}] w fun e w'=>∃g,e=.returned (.slice (some ⟨g,0,none⟩) (m+2) (m+2))∧w.heap.size≤g∧Row w' g (u8s (zs++(be2 0++([]:List Int)))) 5∧Below w.heap.size w w':=by
 obtain ⟨p,cap,rfl,hcap⟩:=hv.len
 have HV:Hid (SlOld w (.slice p zs.length cap) zs):=hv
 have HZL:Hid (zs.length=m):=hz
 have hm:=Mem.start w
 have HR0:Hid (List.replicate 2 (0:Int)=[0,0]++List.replicate 0 (0:Int)):=by
  show _=_
  rw [show [(0:Int),0]=List.replicate 2 0 from rfl,List.replicate_append_replicate]
 have HSP:Hid (splice (u8s (zs++(be2 0++List.replicate 0 (0:Int)))) m (u8s (([]:List Int)))=u8s (zs++(be2 0++([]:List Int)))):=by
  show _=_
  simp [splice,u8s]
 rw [hz] at HV hcap ⊢
 clear hv hz
 have HLG:Hid (∀W,Below w.heap.size w W→Calls Tryz.prog 97 #[.slice p m cap,.int .i64 2] W fun e w'=>∃g,e=.returned (.slice (some ⟨g,0,none⟩) (m+2) (m+2))∧W.heap.size≤g∧Row w' g (u8s (zs++([0,0]++List.replicate 0 (0:Int)))) 5∧Below W.heap.size W w'):=fun W hW=>by
  have h9:=longer_gen zs (.slice p m cap) 2 (by rw [HZL.out];omega) (by omega) W (SlOld.bel HV.out hW)
  rw [HZL.out,HR0.out] at h9
  exact h9
 have HPN:Hid (∀g W,Row W g (u8s (zs++([0,0]++List.replicate 0 (0:Int)))) 5→Calls Tryz.prog 98 #[.slice (some ⟨g,m,none⟩) 2 2,.int .u64 0] W fun e w'=>e=.returned (.tuple #[])∧Row w' g (u8s (zs++(be2 0++List.replicate 0 (0:Int)))) 5∧Upd g W w'):=fun g W hr=>by
  have h9:=putNumber_two g zs (List.replicate 0 (0:Int)) 0 2 W hr
  rw [HZL.out] at h9
  exact h9
 go_enter Tryz.func131,Tryz.ntmps131
 go_wp2_with (first
  | ((with_reducible refine at_op (some 11) (.slice 9 (.tmp 7) none (some (.tmp 10)) none) ?_);go_must (refine wpl_execG (.string {data:=#[]}) rfl (exec_strAll {data:=#[]} 0 rfl rfl rfl) ?_))
  | (go_at_call 97;refine (HLG.out _ (hm.below)).mono ?_;rintro e w2 ⟨g,he,hge,hr,hb⟩;subst he;replace hm:=hm.callNew hb hr hge;clear hb hr hge)
  | ((with_reducible refine at_op (some 20) (.slice 22 (.tmp 17) (some (.tmp 19)) none none) ?_);go_must (refine wpl_slo un_bs sz_u8 m m 2 2 (by omega) (by omega) (by omega) (by omega) (by omega) rfl rfl rfl ?_))
  | ((with_reducible refine at_op (some 22) (.slice 22 (.tmp 21) none (some (.const (.int .i64 2))) none) ?_);go_must (refine wpl_execG (.slice (some ⟨g,m,none⟩) 2 2) rfl (exec_hiS un_bs sz_u8 2 (by omega) rfl rfl rfl) ?_))
  | (go_at_call 98;refine (HPN.out g _ (hm.get 0 rfl)).mono ?_;rintro e w3 ⟨rfl,hr2,hu⟩;replace hm:=hm.upd 0 rfl hu hr2;clear hr2 hu)
  | ((with_reducible refine at_op (some 28) (.slice 22 (.tmp 27) (some (.const (.int .i64 2))) none none) ?_);go_must (refine wpl_execG (.slice (some ⟨g,m,none⟩) 0 0) rfl (exec_sLo (len:=2) (cap:=2) (p:=some ⟨g,m,none⟩) un_bs sz_u8 2 (by omega) rfl rfl rfl) ?_))
  | ((with_reducible refine at_op (some 30) (.call {callee:=.builtin .copy,args:=#[.tmp 28,.tmp 29],argTypes:=#[22,9]}) ?_);go_must (refine wpl_cpStr 0 m 0 0 {data:=#[]} (u8s (zs++(be2 0++[]))) hm rfl rfl rfl _ un_bs sz_u8 (Nat.le_refl _) (by show m+0≤_;rw [u8s_length,List.length_append,HZL.out];omega) HSP.out ?_);clear hm;intro w4 hm))
 go_ret
 have hf:=hm.fresh _ (List.mem_cons_self ..)
 exact ⟨g,rfl,by simpa using hf,hm.get 0 rfl,hm.below⟩
theorem text_gen (zs:List Int) (v:Value) (s:ByteArray) (m n:Nat) (hz:zs.length=m) (hml:m≤1000) (hn:s.size=n) (hl:n≤300) (w:World) (hv:SlOld w v zs) :
  Calls Tryz.prog 131 #[v,.string s] w fun e w'=>∃g,e=.returned (.slice (some ⟨g,0,none⟩) (m+(2+n)) (m+(2+n)))∧w.heap.size≤g∧Row w' g (u8s (zs++(be2 n++strB s))) 5∧Below w.heap.size w w':=by
 by_cases h0:0<n
 ·exact text_posG zs v s m n hz hml hn hl h0 w hv
 ·obtain rfl:n=0:=by omega
  obtain ⟨dt⟩:=s
  have hd:dt=#[]:=Array.eq_empty_of_size_eq_zero hn
  subst hd
  exact text_nilG zs v m hz hml w hv
open Go Go.RowKit Go.Maps
theorem ag_u32x:∀w,(isAgg 30).run Tryz.prog w=.ok false w:=by intro w;simp [go_sem]
theorem built_sup (root:Int) (mt:ByteArray) (m:Option Nat):Tryz.prog.built 75 [(0,.int .u32 root),(1,.string mt),(2,.map m)]=some (supC root mt (.map m)).toArray:=by rfl
theorem sz_sup:(Tryz.prog.info? 75).map (·.size)=some 3:=by kernel_rfl
theorem un_sup:∃fs,Tryz.prog.underlying 75=some (.struct fs):=⟨_,Tryz.underlying75⟩
theorem supC_one (root:Int) (mt:ByteArray) (m:Option Nat):∀v∈supC root mt (.map m),v.oneCell'=true:=fun v hv=>by
 simp only [supC,List.mem_cons,List.not_mem_nil,or_false] at hv
 rcases hv with rfl | rfl | rfl<;>rfl
theorem row_typed {w:World} {a b:Nat} {l l':List Value} {t t':TypeId} (h1:Row w a l t) (h2:Row w b l' t') (ht:t≠t'):a≠b:=by
 rintro rfl
 unfold Row at h1 h2
 rw [h1] at h2
 simp only [Option.some.injEq,Obj.cells.injEq] at h2
 exact ht h2.2.1
theorem anyH_startB {P:Program} {R:Act→World→Prop} {T:World→Prop} {a:Act} {w w0:World} {S:List Nat} {rows:List (Nat×List Value×TypeId)} {id:Nat} {l:List Oper} (hmix:P.follows .mixedOrders=true) (hm:Mem w0 S w rows)
  (h:∀w',Below w.heap.size w w'→Mem w0 S w' rows→wpAnyH P .any l.toArray (endsIn R) T l.toArray.size (Array.replicate l.toArray.size false) a w'):(Code.region id l.toArray true).wp P (endsIn R) a w :=
 wp_region_held hmix (h _ ⟨rfl,rfl,rfl,Nat.le_refl _,fun _ _=>rfl⟩ hm.drew)
theorem superNonce_at (K1 K2 K3 KS body:List Int) (hks:K1++(K2++K3)=KS) (pages:Nat) (limit:Int) (v mv:Value) (p:Sts) (hl1:K1.length=32) (hl2:K2.length=32) (hl3:K3.length=32) (hkc:Bytes K3) (hp:pages≤400) (hbl:body.length=263) (hbb:Bytes body) (w:World) (ht:Tab w) (hv:SlOld w v body) (hs:StV w mv p) :
  Calls Tryz.prog 104 #[.agg (u8s KS).toArray,.int .i64 (pages:Int),.int .u64 limit,v,mv] w fun e w'=>e=.returned (.agg (u8s (nonN K3 pages limit body p)).toArray)∧Below w.heap.size w w':=by
 subst hks
 exact superNonce_any K1 K2 K3 body pages limit v mv p hl1 hl2 hl3 hkc hp hbl hbb w ht hv hs
set_option maxHeartbeats 2000000 in
theorem bodyOf_any (root:Int) (mt:ByteArray) (mv:Value) (p:Sts) (n:Nat) (hrt:0≤root∧root<4294967296) (hmt:mt.size=n) (hn:n≤200) (w:World) (hs:StV w mv p) :
  Calls Tryz.prog 103 #[.agg (supC root mt mv).toArray] w fun e w'=>∃g,e=.returned (.slice (some ⟨g,0,none⟩) 263 263)∧w.heap.size≤g∧Row w' g (u8s (bodyN root (strB mt) p)) 5∧Below w.heap.size w w':=by
 have HS:Hid (StV w mv p):=hs
 have HWR:IntKind.u64.wrap root=root:=wrapu_int root hrt.1 hrt.2
 have HML:Hid ((strB mt).length=n):=by show _=_;rw [strB_length,hmt]
 obtain ⟨MK,hMK⟩:∃MK,MK=marksOf p:=⟨_,rfl⟩
 have HMK:Hid (∀_:Unit,marksOf p=MK):=fun _=>hMK.symm
 have HMKL:Hid (MK.length=50):=by rw [hMK];exact marksOf_length p
 have HFL:Hid ((be4 root++MK).length=54):=by show _=_;rw [List.length_append,HMKL.out];rfl
 have HXL:Hid ((be4 root++MK++(be2 n++strB mt)).length=54+(2+n)):=by show _=_;rw [List.length_append,HFL.out,List.length_append,HML.out];rfl
 obtain ⟨BD,hBD⟩:∃BD,BD=bodyN root (strB mt) p:=⟨_,rfl⟩
 have HBE:Hid (∀_:Unit,fillTo (be4 root++MK++(be2 n++strB mt)) 263=BD):=fun _=>by rw [hBD,bodyN,HML.out,hMK]
 have hm:=Mem.start w
 rw [←hBD]
 clear hs hMK hBD
 go_enter Tryz.func103,Tryz.ntmps103
 go_wp2_with (first
  | ((with_reducible refine at_op (some 1) (.box 75 (.tmp 0)) ?_);refine wpl_box (supC root mt mv) rfl hm ?_;clear hm;intro w1 gs hm))
 refine wp_ends0 ?_
 refine anyH_start (T:=fun W=>Mem w [] W [(gs,supC root mt mv,75)]) (by kernel_rfl) hm ?_
 clear hm
 intro w3 hm
 refine aT 0 (v:=.pointer (some ⟨gs,0,none⟩)) rfl (by kernel_rfl) rfl (fun W _=>by go_simp) hm ?_
 go_simp
 refine aT 1 (v:=.int .u32 root) rfl (by kernel_rfl) rfl (fun W hW=>exec_ldx (.int .u32 root) (((hW.get 0 rfl).cell 0).trans rfl) rfl ag_u32x) hm ?_
 go_simp
 refine aT 2 (v:=.int .u64 root) rfl (by kernel_rfl) rfl (fun W _=>by go_simp) hm ?_
 go_simp
 refine aT 4 (v:=.pointer (some ⟨gs,2,none⟩)) rfl (by kernel_rfl) rfl (fun W _=>by go_simp) hm ?_
 go_simp
 refine aT 5 (v:=mv) rfl (by kernel_rfl) rfl (fun W hW=>exec_ldx mv (((hW.get 0 rfl).cell 2).trans rfl) rfl ag_smap) hm ?_
 go_simp
 refine aO 3 (by kernel_rfl) rfl rfl ?_
 intro K hK
 go_wp2_with (go_at_call 68;refine (put_four [] _ root (by simp) _ ⟨none,0,rfl,Nat.le_refl _,fun h=>absurd h (by simp)⟩).mono ?_;rintro e w4 ⟨gt,rfl,hge,hr,hb⟩;rw [show ([]:List Int).length+4=4 from rfl];have HO:Hid (OwnB 5 w4 w.heap.size (.slice (some ⟨gt,0,none⟩) 4 4) (be4 root)):=own_row (zs:=be4 root) hr (Nat.le_trans hm.size hge) (by simp [be4_length]);replace hm:=hm.call hb;clear hb hr hge)
 refine hK _ _ hm ?_
 clear hK K
 refine aO 6 (by kernel_rfl) rfl rfl ?_
 intro K hK
 go_wp2_with (go_at_call 130;refine (marksOf_any mv p _ (StV.below HS.out hm.below)).mono ?_;rintro e w5 ⟨gx,rfl,hge,hr,hb⟩;rw [HMK.out ()] at hr;have HX:Hid (Row w5 gx (u8s MK) 5):=hr;replace HO:Hid (OwnB 5 w5 w.heap.size (.slice (some ⟨gt,0,none⟩) 4 4) (be4 root)):=OwnB.below HO.out hb;replace hm:=hm.call hb;clear hb hr hge)
 refine hK _ _ hm ?_
 clear hK K
 refine aO 7 (by kernel_rfl) rfl rfl ?_
 intro K hK
 refine wpl_app rfl un_bs made_u8 MK hm HO.out (by intro r hr;simp only [List.mem_cons,List.not_mem_nil,or_false] at hr;subst hr;simp) rfl rfl HMKL.out.symm (fun h0=>⟨gx,0,rfl,Seg.row HX.out⟩) (by rw [be4_length,HMKL.out];omega) ?_
 clear hm HO HX
 intro v6 w6 ho hm
 have HO:Hid (OwnB 5 w6 w.heap.size v6 (be4 root++MK)):=ho
 clear ho
 refine wpList_nil ?_
 refine hK _ _ hm ?_
 clear hK K
 refine aT 8 (v:=v6) rfl (by kernel_rfl) rfl (fun W _=>by go_simp) hm ?_
 go_simp
 refine wpAnyH_done (by kernel_rfl) ?_ _
 simp only [endsIn]
 go_wp2_with (first
  | ((with_reducible refine at_op (some 14) (.load 9 (.tmp 13)) ?_);go_must (refine wpl_ldc 0 1 (.string mt) hm rfl rfl ag_strP rfl ?_))
  | (go_at_call 131;refine (text_gen (be4 root++MK) _ mt 54 n HFL.out (by omega) hmt (by omega) _ (OwnB.old HO.out)).mono ?_;rintro e w7 ⟨gc,rfl,hge,hr,hb⟩;have HX:Hid (Row w7 gc (u8s (be4 root++MK++(be2 n++strB mt))) 5):=hr;clear HO;replace hm:=hm.call hb;clear hb hr hge)
  | (go_at_call 71;refine (filledUp_any (be4 root++MK++(be2 n++strB mt)) _ 263 (54+(2+n)) HXL.out (by omega) _ (old_all HX.out HXL.out (Nat.le_refl _))).mono ?_;rintro e w9 ⟨gF,rfl,hge,hr,hb⟩;rw [HBE.out ()] at hr;have HR9:Hid (Row w9 gF (u8s BD) 5):=hr;have HG9:Hid (w.heap.size≤gF):=Nat.le_trans hm.size hge;replace hm:=hm.call hb;clear hb hr hge))
 go_ret
 exact ⟨gF,rfl,HG9.out,HR9.out,hm.below⟩
set_option maxHeartbeats 4000000 in
theorem blockBytes_any (K1 K2 K3:List Int) (limit root:Int) (pages n:Nat) (mt:ByteArray) (mv:Value) (p:Sts) (hl1:K1.length=32) (hl2:K2.length=32) (hl3:K3.length=32) (hkb:Bytes K2) (hkc:Bytes K3) (hp:pages≤400) (hrt:0≤root∧root<4294967296) (hmt:mt.size=n) (hn:n≤200) (w:World) (ht:Tab w) (hq:QTab w) (hs:StV w mv p) :
  Calls Tryz.prog 76 #[.agg (u8s (K1++(K2++K3))).toArray,.int .i64 (pages:Int),.int .u64 limit,.agg (supC root mt mv).toArray] w fun e w'=>∃v,e=.returned v∧OwnB 5 w' w.heap.size v (blockN K2 K3 pages limit (bodyN root (strB mt) p) p)∧Below w.heap.size w w':=by
 have HT:Hid (Tab w):=ht
 have HQ:Hid (QTab w):=hq
 have HS:Hid (StV w mv p):=hs
 have HKB:Hid (Bytes K2):=hkb
 have HKC:Hid (Bytes K3):=hkc
 obtain ⟨KS,hKS⟩:∃KS,KS=K1++(K2++K3):=⟨_,rfl⟩
 have lK:∀K:List Int,K.length=32→(u8s K).length=32:=fun K h=>by rw [u8s_length,h]
 have hKE:u8s KS=u8s K1++(u8s K2++u8s K3):=by rw [hKS];simp [u8s]
 have HKU:Hid ((u8s KS).length=96):=by show _=_;rw [hKE];simp [lK K1 hl1,lK K2 hl2,lK K3 hl3]
 have HK2:Hid (((u8s KS).drop 32).take 32=u8s K2):=by
  show _=_
  rw [hKE,List.drop_append,List.drop_of_length_le (by rw [lK K1 hl1];omega),List.nil_append,lK K1 hl1,Nat.sub_self,List.drop_zero,List.take_append_of_le_length (by rw [lK K2 hl2];omega),List.take_of_length_le (by rw [lK K2 hl2];omega)]
 have HK3:Hid (KS.drop 64=K3):=by
  show _=_
  rw [hKS,←List.append_assoc,List.drop_append,List.drop_of_length_le (by simp [hl1,hl2]),List.nil_append,show 64 - (K1++K2).length=0 by simp [hl1,hl2],List.drop_zero]
 have HKE:Hid (∀_:Unit,K1++(K2++K3)=KS):=fun _=>hKS.symm
 obtain ⟨BD,hBD⟩:∃BD,BD=bodyN root (strB mt) p:=⟨_,rfl⟩
 have HBE:Hid (∀_:Unit,bodyN root (strB mt) p=BD):=fun _=>hBD.symm
 have HBL:Hid (BD.length=263):=by rw [hBD];exact bodyN_length _ _ _
 have HBB:Hid (Bytes BD):=by rw [hBD];exact bodyN_bytes _ (strB_bytes mt) _
 obtain ⟨ns,hns⟩:∃ns,ns=nonN K3 pages limit BD p:=⟨_,rfl⟩
 have HNE:Hid (∀_:Unit,nonN K3 pages limit BD p=ns):=fun _=>hns.symm
 have HNL:Hid (ns.length=12):=by rw [hns];exact nonN_length _ _ _ _ _
 have HNU:Hid ((u8s ns).length=12):=by show _=_;rw [u8s_length,HNL.out]
 have HNB:Hid (Bytes ns):=by rw [hns];exact nonN_bytes _ _ _ _ _
 obtain ⟨Z,hZ⟩:∃Z,Z=sealOf K2 ns (aadN pages limit) BD:=⟨_,rfl⟩
 have HZE:Hid (∀_:Unit,sealOf K2 ns (aadN pages limit) BD=Z):=fun _=>hZ.symm
 have HZL:Hid (Z.length=263+16):=by show _=_;rw [hZ,sealOf_length,HBL.out]
 have HRE:Hid (∀_:Unit,be8 limit++ns++Z=blockN K2 K3 pages limit BD p):=fun _=>by rw [blockN,←hns,←hZ]
 have hm:=Mem.start w
 rw [←hKS,←hBD]
 clear ht hq hs hkb hkc hKS hKE lK hBD hns hZ
 go_enter Tryz.func76,Tryz.ntmps76
 go_wp2_with (first
  | ((with_reducible refine at_op (some 4) (.box 69 (.tmp 0)) ?_);refine wpl_box (u8s KS) rfl hm ?_;clear hm;intro w1 gk hm)
  | ((with_reducible refine at_op (some 7) (.box 75 (.tmp 3)) ?_);refine wpl_box (supC root mt mv) rfl hm ?_;clear hm;intro w2 gs hm)
  | ((with_reducible refine at_op (some 12) (.load 75 (.tmp 7)) ?_);obtain ⟨fs,hfs⟩:=un_sup;go_must (refine wpl_ldw 0 hm rfl rfl _ hfs rfl 3 sz_sup rfl ?_);clear hfs fs)
  | (go_at_call 103;refine (bodyOf_any root mt mv p n hrt hmt hn _ (StV.below HS.out hm.below)).mono ?_;rintro e w3 ⟨gF,rfl,hge,hr,hb⟩;rw [HBE.out ()] at hr;have HGF:Hid (Row w3 gF (u8s BD) 5):=hr;replace hm:=hm.call hb;clear hb hr hge)
  | ((with_reducible refine at_op (some 14) (.load 69 (.tmp 4)) ?_);obtain ⟨fs,hfs⟩:=un_kys;go_must (refine wpl_ldw 1 hm rfl rfl _ hfs rfl 96 sz_kys HKU.out ?_);clear hfs fs)
  | ((with_reducible refine at_op (some 19) (.load 73 (.tmp 18)) ?_);go_must (refine wpl_ldc 0 2 mv hm rfl rfl ag_smap rfl ?_))
  | (go_at_call 104;refine (superNonce_at K1 K2 K3 KS BD (HKE.out ()) pages limit _ mv p hl1 hl2 hl3 HKC.out hp HBL.out HBB.out _ (Tab.mem HT.out hm (by simp)) (old_all HGF.out HBL.out (Nat.le_refl _)) (StV.below HS.out hm.below)).mono ?_;rintro e w4 ⟨he,hb⟩;rw [HNE.out ()] at he;subst he;replace HGF:Hid (Row w4 gF (u8s BD) 5):=Row.below' HGF.out hb;replace hm:=hm.call hb;clear hb)
  | ((with_reducible refine at_op (some 10) (.alloc 113) ?_);refine wpl_allocB _ zero_nce hm ?_;clear hm;intro w5 gn hb hm;replace HGF:Hid (Row w5 gF (u8s BD) 5):=Row.below' HGF.out hb;clear hb)
  | ((with_reducible refine at_op none (.store 113 (.tmp 10) (.tmp 20)) ?_);refine wpl_stw 0 (u8s ns) (Mem.enter (hm.get 0 rfl)) rfl rfl rfl 12 sz_nce (by simp [u8s_length]) HNU.out (u8s_one _) ?_;intro w6 hq;replace HGF:Hid (Row w6 gF (u8s BD) 5):=hq.toUpd.row HGF.out (row_typed HGF.out (hm.get 0 rfl) (by decide));replace hm:Mem w [] w6 [(gn,u8s ns,113),(gs,supC root mt mv,75),(gk,u8s KS,69)]:=hm.upd 0 rfl hq.toUpd (hq.get 0 rfl);clear hq))
 have HGK:Hid (Row w6 gk (u8s KS) 69):=hm.get 2 rfl
 have HGN:Hid (Row w6 gn (u8s ns) 113):=hm.get 0 rfl
 have HB1:Hid (Below w.heap.size w w6):=hm.below
 have HT1:Hid (Tab w6):=Tab.mem HT.out hm (by simp)
 have HQ1:Hid (QTab w6):=QTab.mem HQ.out hm (by simp)
 clear hm HT HQ HS
 have hm:=Mem.start w6
 refine wp_ends0 ?_
 refine anyH_start (T:=fun W=>Mem w6 [] W []) (by kernel_rfl) hm ?_
 clear hm
 intro w7 hm
 refine aT 0 (v:=.int .u64 limit) rfl (by kernel_rfl) rfl (fun W _=>by go_simp) hm ?_
 go_simp
 refine aT 2 (v:=.slice (some ⟨gn,0,none⟩) 12 12) rfl (by kernel_rfl) rfl (fun W _=>exec_slaT 12 un_nce sz_u8 0 12 (by omega) (by omega) rfl (Or.inr ⟨rfl,rfl⟩) (Or.inr ⟨rfl,rfl⟩)) hm ?_
 go_simp
 refine aO 1 (by kernel_rfl) rfl rfl ?_
 intro K hK
 go_wp2_with (go_at_call 68;refine (put_at8 [] _ limit (by simp) _ ⟨none,0,rfl,Nat.le_refl _,fun h=>absurd h (by simp)⟩).mono ?_;rintro e w8 ⟨g3,rfl,hge,hr,hb⟩;rw [show ([]:List Int).length+8=8 from rfl];have HO:Hid (OwnB 5 w8 w6.heap.size (.slice (some ⟨g3,0,none⟩) 8 8) (be8 limit)):=own_row (zs:=be8 limit) hr (Nat.le_trans hm.size hge) (by simp [be8_length]);replace hm:=hm.call hb;clear hb hr hge)
 refine hK _ _ hm ?_
 clear hK K
 refine aO 3 (by kernel_rfl) rfl rfl ?_
 intro K hK
 refine wpl_app rfl un_bs made_u8 ns hm HO.out (by intro r hr;cases hr) rfl rfl HNL.out.symm (fun h0=>⟨gn,0,rfl,Seg.row (Row.below' HGN.out hm.below)⟩) (by rw [be8_length,HNL.out];omega) ?_
 clear hm HO
 intro v3 w9 ho hm
 have HO:Hid (OwnB 5 w9 w6.heap.size v3 (be8 limit++ns)):=ho
 clear ho
 refine wpList_nil ?_
 refine hK _ _ hm ?_
 clear hK K
 refine aT 4 (v:=v3) rfl (by kernel_rfl) rfl (fun W _=>by go_simp) hm ?_
 go_simp
 refine wpAnyH_done (by kernel_rfl) ?_ _
 simp only [endsIn]
 go_wp2_with fail
 refine wp_ends0 ?_
 refine anyH_startB (T:=fun W=>Mem w6 [] W []) (by kernel_rfl) hm ?_
 clear hm
 intro w10 hb hm
 replace HO:Hid (OwnB 5 w10 w6.heap.size v3 (be8 limit++ns)):=OwnB.below HO.out hb
 clear hb
 refine aT 0 (v:=v3) rfl (by kernel_rfl) rfl (fun W _=>by go_simp) hm ?_
 go_simp
 refine aT 1 (v:=.pointer (some ⟨gk,32,none⟩)) rfl (by kernel_rfl) rfl (fun W _=>by go_simp) hm ?_
 go_simp
 refine aT 2 (v:=.agg (u8s K2).toArray) rfl (by kernel_rfl) rfl (fun W hW=>exec_ldsG 32 (u8s K2) (Row.below' HGK.out hW.below) rfl _ un_key rfl 32 sz_key (by rw [HKU.out];omega) HK2.out) hm ?_
 go_simp
 refine aT 3 (v:=.agg (u8s ns).toArray) rfl (by kernel_rfl) rfl (fun W hW=>exec_ldsG 0 (u8s ns) (Row.below' HGN.out hW.below) rfl _ un_nce rfl 12 sz_nce (by rw [HNU.out];omega) (by rw [List.drop_zero,List.take_of_length_le (Nat.le_of_eq HNU.out)])) hm ?_
 go_simp
 refine aT 4 (v:=.int .i64 (pages:Int)) rfl (by kernel_rfl) rfl (fun W _=>by go_simp) hm ?_
 go_simp
 refine aT 5 (v:=.int .u64 limit) rfl (by kernel_rfl) rfl (fun W _=>by go_simp) hm ?_
 go_simp
 refine aT 7 (v:=.slice (some ⟨gF,0,none⟩) 263 263) rfl (by kernel_rfl) rfl (fun W _=>by go_simp) hm ?_
 go_simp
 refine aO 6 (by kernel_rfl) rfl rfl ?_
 intro K hK
 go_wp2_with (go_at_call 105;refine (superAad_any pages limit hp _).mono ?_;rintro e w11 ⟨ga,rfl,hge,hr,hb⟩;have HGA:Hid (Row w11 ga (u8s (aadN pages limit)) 5):=hr;replace HO:Hid (OwnB 5 w11 w6.heap.size v3 (be8 limit++ns)):=OwnB.below HO.out hb;replace hm:=hm.call hb;clear hb hr hge)
 refine hK _ _ hm ?_
 clear hK K
 refine aO 8 (by kernel_rfl) rfl rfl ?_
 intro K hK
 go_wp2_with (go_at_call 69;refine (seal_any K2 ns (aadN pages limit) BD _ _ hl2 HNL.out HKB.out HNB.out (aadN_bytes _ _) HBB.out (by rw [aadN_length];omega) (by rw [HBL.out];omega) _ (Tab.mem HT1.out hm (by simp)) (QTab.mem HQ1.out hm (by simp)) (old_all HGA.out (aadN_length _ _) (Nat.le_refl _)) (old_all (Row.below' HGF.out hm.below) HBL.out (Nat.le_refl _))).mono ?_;rintro e w12 ⟨g5,cp,ls,he,hcp,hg5,hrs,hb⟩;rw [HBL.out] at he hcp;subst he;rw [HZE.out ()] at hrs;have HX:Hid (Row w12 g5 (u8s Z++ls) 5):=hrs;replace HO:Hid (OwnB 5 w12 w6.heap.size v3 (be8 limit++ns)):=OwnB.below HO.out hb;replace hm:=hm.call hb;clear hb hrs hg5)
 refine hK _ _ hm ?_
 clear hK K
 refine aO 9 (by kernel_rfl) rfl rfl ?_
 intro K hK
 refine wpl_app rfl un_bs made_u8 Z hm HO.out (by intro r hr;cases hr) rfl rfl HZL.out.symm (fun h0=>⟨g5,0,rfl,seg_hd HX.out⟩) (by rw [List.length_append,be8_length,HNL.out,HZL.out];omega) ?_
 clear hm HO
 intro v9 w13 ho hm
 rw [HRE.out ()] at ho
 have HO:Hid (OwnB 5 w13 w6.heap.size v9 (blockN K2 K3 pages limit BD p)):=ho
 clear ho
 refine wpList_nil ?_
 refine hK _ _ hm ?_
 clear hK K
 refine aT 10 (v:=v9) rfl (by kernel_rfl) rfl (fun W _=>by go_simp) hm ?_
 go_simp
 refine wpAnyH_done (by kernel_rfl) ?_ _
 simp only [endsIn]
 go_wp2_with fail
 go_ret
 exact ⟨v9,rfl,OwnB.monoP HO.out HB1.out.size,HB1.out.trans (hm.below.mono HB1.out.size)⟩
end Go.Proofs.YtdkkdkgdaambiaaGreatDoor
