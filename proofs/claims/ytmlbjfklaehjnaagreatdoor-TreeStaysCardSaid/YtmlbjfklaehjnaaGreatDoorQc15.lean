import Derived.Test.YtmlbjfklaehjnaaGreatDoorQc13
import Derived.Test.YtmlbjfklaehjnaaGreatDoorQc14
set_option maxRecDepth 100000
set_option maxHeartbeats 4000000
namespace Go.Proofs.YtmlbjfklaehjnaaGreatDoor
open Go Go.RowKit Go.Maps
theorem text_posG (zs:List Int) (v:Value) (s:ByteArray) (m n:Nat) (hz:zs.length=m) (hml:m≤1000) (hn:s.size=n) (hl:n≤300) (h0:0<n) (w:World) (hv:SlOld w v zs) :
  Calls Tryz.prog 54 #[v,.string s] w fun e w'=>∃g,e=.returned (.slice (some ⟨g,0,none⟩) (m+(2+n)) (m+(2+n)))∧w.heap.size≤g∧Row w' g (u8s (zs++(be2 n++strB s))) 5∧Below w.heap.size w w':=by
 obtain ⟨p,cap,rfl,hcap⟩:=hv.len
 have HV:Hid (SlOld w (.slice p zs.length cap) zs):=hv
 have HZL:Hid (zs.length=m):=hz
 have hm:=Mem.start w
 have HSL:Hid ((strB s).length=n):=by show _=_;rw [a6,hn]
 have HW:IntKind.u64.wrap (n:Int)=(n:Int):=ec n (by omega)
 have HR0:Hid (List.replicate (2+n) (0:Int)=[0,0]++List.replicate n 0):=by
  show _=_
  rw [show [(0:Int),0]=List.replicate 2 0 from rfl,List.replicate_append_replicate]
 have HSP:Hid (splice (u8s (zs++(be2 n++List.replicate n 0))) (m+2) (u8s (strB s))=u8s (zs++(be2 n++strB s))):=by
  show _=_
  unfold splice u8s
  rw [←List.map_take,←List.map_drop,←List.map_append,←List.map_append]
  congr 1
  have h9:(zs++be2 (n:Int)).length=m+2:=by rw [List.length_append,hz,aH]
  have e1:zs++(be2 (n:Int)++List.replicate n 0)=(zs++be2 (n:Int))++List.replicate n 0:=by rw [List.append_assoc]
  rw [e1,←h9,List.take_left,List.length_map,HSL.out,List.drop_of_length_le (by rw [List.length_append];simp),List.append_nil,List.append_assoc]
 rw [hz] at HV hcap ⊢
 clear hv hz
 have HLG:Hid (∀W,Below w.heap.size w W→Calls Tryz.prog 90 #[.slice p m cap,.int .i64 ((2+n:Nat):Int)] W fun e w'=>∃g,e=.returned (.slice (some ⟨g,0,none⟩) (m+(2+n)) (m+(2+n)))∧W.heap.size≤g∧Row w' g (u8s (zs++([0,0]++List.replicate n 0))) 5∧Below W.heap.size W w'):=fun W hW=>by
  have h9:=bm zs (.slice p m cap) (2+n) (by rw [HZL.out];omega) (by omega) W (SlOld.bel HV.out hW)
  rw [HZL.out,HR0.out] at h9
  exact h9
 have HPN:Hid (∀g W,Row W g (u8s (zs++([0,0]++List.replicate n 0))) 5→Calls Tryz.prog 91 #[.slice (some ⟨g,m,none⟩) 2 (2+n),.int .u64 (n:Int)] W fun e w'=>e=.returned (.tuple #[])∧Row w' g (u8s (zs++(be2 n++List.replicate n 0))) 5∧Upd g W w'):=fun g W hr=>by
  have h9:=dl g zs (List.replicate n 0) (n:Int) (2+n) W hr
  rw [HZL.out] at h9
  exact h9
 go_enter Tryz.func54,Tryz.ntmps54
 go_wp2_with (first
  | ((with_reducible refine aa (some 11) (.slice 9 (.tmp 7) none (some (.tmp 10)) none) ?_);go_must (refine ae (.string s) rfl (fd s n hn rfl rfl) ?_))
  | (go_at_call 90;refine (HLG.out _ (hm.below)).mono ?_;rintro e w2 ⟨g,he,hge,hr,hb⟩;subst he;replace hm:=hm.callNew hb hr hge;clear hb hr hge)
  | ((with_reducible refine aa (some 20) (.slice 54 (.tmp 17) (some (.tmp 19)) none none) ?_);go_must (refine gg aq av m m (2+n) (2+n) (by omega) (by omega) (by omega) (by omega) (by omega) rfl rfl rfl ?_))
  | ((with_reducible refine aa (some 22) (.slice 54 (.tmp 21) none (some (.const (.int .i64 2))) none) ?_);go_must (refine ae (.slice (some ⟨g,m,none⟩) 2 (2+n)) rfl (cy aq av 2 (by omega) rfl rfl rfl) ?_))
  | (go_at_call 91;refine (HPN.out g _ (hm.get 0 rfl)).mono ?_;rintro e w3 ⟨rfl,hr2,hu⟩;replace hm:=hm.upd 0 rfl hu hr2;clear hr2 hu)
  | ((with_reducible refine aa (some 28) (.slice 54 (.tmp 27) (some (.const (.int .i64 2))) none none) ?_);go_must (refine ae (.slice (some ⟨g,m+2,none⟩) n (2+n - 2)) rfl (dI (g:=g) (o:=m) (len:=2+n) (cap:=2+n) aq av 2 n (by omega) (by omega) (by omega) rfl rfl rfl) ?_))
  | ((with_reducible refine aa (some 30) (.call {callee:=.builtin .copy,args:=#[.tmp 28,.tmp 29],argTypes:=#[54,9]}) ?_);go_must (refine iP 0 (m+2) n _ s (u8s (zs++(be2 n++strB s))) hm rfl rfl rfl _ aq av (by omega) (by rw [ab,List.length_append,HZL.out];simp [aH];omega) HSP.out ?_);clear hm;intro w4 hm))
 go_ret
 have hf:=hm.fresh _ (List.mem_cons_self ..)
 exact ⟨g,rfl,by simpa using hf,hm.get 0 rfl,hm.below⟩
theorem text_nilG (zs:List Int) (v:Value) (m:Nat) (hz:zs.length=m) (hml:m≤1000) (w:World) (hv:SlOld w v zs) :
  Calls Tryz.prog 54 #[v,.string {data:=#[]}] w fun e w'=>∃g,e=.returned (.slice (some ⟨g,0,none⟩) (m+2) (m+2))∧w.heap.size≤g∧Row w' g (u8s (zs++(be2 0++([]:List Int)))) 5∧Below w.heap.size w w':=by
 obtain ⟨p,cap,rfl,hcap⟩:=hv.len
 have HV:Hid (SlOld w (.slice p zs.length cap) zs):=hv
 have HZL:Hid (zs.length=m):=hz
 have hm:=Mem.start w
 have HR0:Hid (List.replicate 2 (0:Int)=[0,0]++List.replicate 0 (0:Int)):=by
  show _=_
  rw [show [(0:Int),0]=List.replicate 2 0 from rfl,List.replicate_append_replicate]
 have HSP:Hid (splice (u8s (zs++(be2 0++List.replicate 0 (0:Int)))) m (u8s (([]:List Int)))=u8s (zs++(be2 0++([]:List Int)))):=by
  show _=_
  simp [splice,u8s]
 rw [hz] at HV hcap ⊢
 clear hv hz
 have HLG:Hid (∀W,Below w.heap.size w W→Calls Tryz.prog 90 #[.slice p m cap,.int .i64 2] W fun e w'=>∃g,e=.returned (.slice (some ⟨g,0,none⟩) (m+2) (m+2))∧W.heap.size≤g∧Row w' g (u8s (zs++([0,0]++List.replicate 0 (0:Int)))) 5∧Below W.heap.size W w'):=fun W hW=>by
  have h9:=bm zs (.slice p m cap) 2 (by rw [HZL.out];omega) (by omega) W (SlOld.bel HV.out hW)
  rw [HZL.out,HR0.out] at h9
  exact h9
 have HPN:Hid (∀g W,Row W g (u8s (zs++([0,0]++List.replicate 0 (0:Int)))) 5→Calls Tryz.prog 91 #[.slice (some ⟨g,m,none⟩) 2 2,.int .u64 0] W fun e w'=>e=.returned (.tuple #[])∧Row w' g (u8s (zs++(be2 0++List.replicate 0 (0:Int)))) 5∧Upd g W w'):=fun g W hr=>by
  have h9:=dl g zs (List.replicate 0 (0:Int)) 0 2 W hr
  rw [HZL.out] at h9
  exact h9
 go_enter Tryz.func54,Tryz.ntmps54
 go_wp2_with (first
  | ((with_reducible refine aa (some 11) (.slice 9 (.tmp 7) none (some (.tmp 10)) none) ?_);go_must (refine ae (.string {data:=#[]}) rfl (fd {data:=#[]} 0 rfl rfl rfl) ?_))
  | (go_at_call 90;refine (HLG.out _ (hm.below)).mono ?_;rintro e w2 ⟨g,he,hge,hr,hb⟩;subst he;replace hm:=hm.callNew hb hr hge;clear hb hr hge)
  | ((with_reducible refine aa (some 20) (.slice 54 (.tmp 17) (some (.tmp 19)) none none) ?_);go_must (refine gg aq av m m 2 2 (by omega) (by omega) (by omega) (by omega) (by omega) rfl rfl rfl ?_))
  | ((with_reducible refine aa (some 22) (.slice 54 (.tmp 21) none (some (.const (.int .i64 2))) none) ?_);go_must (refine ae (.slice (some ⟨g,m,none⟩) 2 2) rfl (cy aq av 2 (by omega) rfl rfl rfl) ?_))
  | (go_at_call 91;refine (HPN.out g _ (hm.get 0 rfl)).mono ?_;rintro e w3 ⟨rfl,hr2,hu⟩;replace hm:=hm.upd 0 rfl hu hr2;clear hr2 hu)
  | ((with_reducible refine aa (some 28) (.slice 54 (.tmp 27) (some (.const (.int .i64 2))) none none) ?_);go_must (refine ae (.slice (some ⟨g,m,none⟩) 0 0) rfl (cw (len:=2) (cap:=2) (p:=some ⟨g,m,none⟩) aq av 2 (by omega) rfl rfl rfl) ?_))
  | ((with_reducible refine aa (some 30) (.call {callee:=.builtin .copy,args:=#[.tmp 28,.tmp 29],argTypes:=#[54,9]}) ?_);go_must (refine iP 0 m 0 0 {data:=#[]} (u8s (zs++(be2 0++[]))) hm rfl rfl rfl _ aq av (Nat.le_refl _) (by show m+0≤_;rw [ab,List.length_append,HZL.out];omega) HSP.out ?_);clear hm;intro w4 hm))
 go_ret
 have hf:=hm.fresh _ (List.mem_cons_self ..)
 exact ⟨g,rfl,by simpa using hf,hm.get 0 rfl,hm.below⟩
theorem text_gen (zs:List Int) (v:Value) (s:ByteArray) (m n:Nat) (hz:zs.length=m) (hml:m≤1000) (hn:s.size=n) (hl:n≤300) (w:World) (hv:SlOld w v zs) :
  Calls Tryz.prog 54 #[v,.string s] w fun e w'=>∃g,e=.returned (.slice (some ⟨g,0,none⟩) (m+(2+n)) (m+(2+n)))∧w.heap.size≤g∧Row w' g (u8s (zs++(be2 n++strB s))) 5∧Below w.heap.size w w':=by
 by_cases h0:0<n
 ·exact text_posG zs v s m n hz hml hn hl h0 w hv
 ·obtain rfl:n=0:=by omega
  obtain ⟨dt⟩:=s
  have hd:dt=#[]:=Array.eq_empty_of_size_eq_zero hn
  subst hd
  exact text_nilG zs v m hz hml w hv
open Go Go.RowKit Go.Maps
theorem ag_u32x:∀w,(isAgg 25).run Tryz.prog w=.ok false w:=by intro w;simp [go_sem]
theorem built_sup (root:Int) (mt:ByteArray) (m:Option Nat):Tryz.prog.built 106 [(0,.int .u32 root),(1,.string mt),(2,.map m)]=some (supC root mt (.map m)).toArray:=by rfl
theorem b8:(Tryz.prog.info? 106).map (·.size)=some 3:=by kernel_rfl
theorem ep:∃fs,Tryz.prog.underlying 106=some (.struct fs):=⟨_,Tryz.underlying106⟩
theorem ed (root:Int) (mt:ByteArray) (m:Option Nat):∀v∈supC root mt (.map m),v.oneCell'=true:=fun v hv=>by
 simp only [supC,List.mem_cons,List.not_mem_nil,or_false] at hv
 rcases hv with rfl|rfl|rfl<;>rfl
theorem aQ {w:World} {a b:Nat} {l l':List Value} {t t':TypeId} (h1:Row w a l t) (h2:Row w b l' t') (ht:t≠t'):a≠b:=by
 rintro rfl
 unfold Row at h1 h2
 rw [h1] at h2
 simp only [Option.some.injEq,Obj.cells.injEq] at h2
 exact ht h2.2.1
theorem cL {P:Program} {R:Act→World→Prop} {T:World→Prop} {a:Act} {w w0:World} {S:List Nat} {rows:List (Nat×List Value×TypeId)} {id:Nat} {l:List Oper} (hmix:P.follows .mixedOrders=true) (hm:Mem w0 S w rows)
  (h:∀w',Below w.heap.size w w'→Mem w0 S w' rows→wpAnyH P .any l.toArray (endsIn R) T l.toArray.size (Array.replicate l.toArray.size false) a w'):(Code.region id l.toArray true).wp P (endsIn R) a w :=
 wp_region_held hmix (h _ ⟨rfl,rfl,rfl,Nat.le_refl _,fun _ _=>rfl⟩ hm.drew)
theorem i7 (K1 K2 K3 KS body:List Int) (hks:K1++(K2++K3)=KS) (pages:Nat) (limit:Int) (v mv:Value) (p:Sts) (hl1:K1.length=32) (hl2:K2.length=32) (hl3:K3.length=32) (hkc:Bytes K3) (hp:pages≤400) (hbl:body.length=263) (hbb:Bytes body) (w:World) (ht:Tab w) (hv:SlOld w v body) (hs:StV w mv p) :
  Calls Tryz.prog 122 #[.agg (u8s KS).toArray,.int .i64 (pages:Int),.int .u64 limit,v,mv] w fun e w'=>e=.returned (.agg (u8s (nonN K3 pages limit body p)).toArray)∧Below w.heap.size w w':=by
 subst hks
 exact mK K1 K2 K3 body pages limit v mv p hl1 hl2 hl3 hkc hp hbl hbb w ht hv hs
theorem bodyOf_any (root:Int) (mt:ByteArray) (mv:Value) (p:Sts) (n:Nat) (hrt:0≤root∧root<4294967296) (hmt:mt.size=n) (hn:n≤200) (w:World) (hs:StV w mv p) :
  Calls Tryz.prog 121 #[.agg (supC root mt mv).toArray] w fun e w'=>∃g,e=.returned (.slice (some ⟨g,0,none⟩) 263 263)∧w.heap.size≤g∧Row w' g (u8s (bodyN root (strB mt) p)) 5∧Below w.heap.size w w':=by
 have HS:Hid (StV w mv p):=hs
 have HWR:IntKind.u64.wrap root=root:=iL root hrt.1 hrt.2
 have HML:Hid ((strB mt).length=n):=by show _=_;rw [a6,hmt]
 obtain ⟨MK,hMK⟩:∃MK,MK=marksOf p:=⟨_,rfl⟩
 have HMK:Hid (∀_:Unit,marksOf p=MK):=fun _=>hMK.symm
 have HMKL:Hid (MK.length=50):=by rw [hMK];exact cO p
 have HFL:Hid ((be4 root++MK).length=54):=by show _=_;rw [List.length_append,HMKL.out];rfl
 have HXL:Hid ((be4 root++MK++(be2 n++strB mt)).length=54+(2+n)):=by show _=_;rw [List.length_append,HFL.out,List.length_append,HML.out];rfl
 obtain ⟨BD,hBD⟩:∃BD,BD=bodyN root (strB mt) p:=⟨_,rfl⟩
 have HBE:Hid (∀_:Unit,fillTo (be4 root++MK++(be2 n++strB mt)) 263=BD):=fun _=>by rw [hBD,bodyN,HML.out,hMK]
 have hm:=Mem.start w
 rw [←hBD]
 clear hs hMK hBD
 go_enter Tryz.func121,Tryz.ntmps121
 go_wp2_with (first
  | ((with_reducible refine aa (some 1) (.box 106 (.tmp 0)) ?_);refine ak (supC root mt mv) rfl hm ?_;clear hm;intro w1 gs hm))
 refine au ?_
 refine ap (T:=fun W=>Mem w [] W [(gs,supC root mt mv,106)]) (by kernel_rfl) hm ?_
 clear hm
 intro w3 hm
 refine aT 0 (v:=.pointer (some ⟨gs,0,none⟩)) rfl (by kernel_rfl) rfl (fun W _=>by go_simp) hm ?_
 go_simp
 refine aT 1 (v:=.int .u32 root) rfl (by kernel_rfl) rfl (fun W hW=>aF (.int .u32 root) (((hW.get 0 rfl).cell 0).trans rfl) rfl ag_u32x) hm ?_
 go_simp
 refine aT 2 (v:=.int .u64 root) rfl (by kernel_rfl) rfl (fun W _=>by go_simp) hm ?_
 go_simp
 refine aT 4 (v:=.pointer (some ⟨gs,2,none⟩)) rfl (by kernel_rfl) rfl (fun W _=>by go_simp) hm ?_
 go_simp
 refine aT 5 (v:=mv) rfl (by kernel_rfl) rfl (fun W hW=>aF mv (((hW.get 0 rfl).cell 2).trans rfl) rfl cZ) hm ?_
 go_simp
 refine aO 3 (by kernel_rfl) rfl rfl ?_
 intro K hK
 go_wp2_with (go_at_call 89;refine (lT [] _ root (by simp) _ ⟨none,0,rfl,Nat.le_refl _,fun h=>absurd h (by simp)⟩).mono ?_;rintro e w4 ⟨gt,rfl,hge,hr,hb⟩;rw [show ([]:List Int).length+4=4 from rfl];have HO:Hid (OwnB 5 w4 w.heap.size (.slice (some ⟨gt,0,none⟩) 4 4) (be4 root)):=dG (zs:=be4 root) hr (Nat.le_trans hm.size hge) (by simp [bC]);replace hm:=hm.call hb;clear hb hr hge)
 refine hK _ _ hm ?_
 clear hK K
 refine aO 6 (by kernel_rfl) rfl rfl ?_
 intro K hK
 go_wp2_with (go_at_call 168;refine (marksOf_any mv p _ (StV.below HS.out hm.below)).mono ?_;rintro e w5 ⟨gx,rfl,hge,hr,hb⟩;rw [HMK.out ()] at hr;have HX:Hid (Row w5 gx (u8s MK) 5):=hr;replace HO:Hid (OwnB 5 w5 w.heap.size (.slice (some ⟨gt,0,none⟩) 4 4) (be4 root)):=OwnB.below HO.out hb;replace hm:=hm.call hb;clear hb hr hge)
 refine hK _ _ hm ?_
 clear hK K
 refine aO 7 (by kernel_rfl) rfl rfl ?_
 intro K hK
 refine bO rfl aq aU MK hm HO.out (by intro r hr;simp only [List.mem_cons,List.not_mem_nil,or_false] at hr;subst hr;simp) rfl rfl HMKL.out.symm (fun h0=>⟨gx,0,rfl,Seg.row HX.out⟩) (by rw [bC,HMKL.out];omega) ?_
 clear hm HO HX
 intro v6 w6 ho hm
 have HO:Hid (OwnB 5 w6 w.heap.size v6 (be4 root++MK)):=ho
 clear ho
 refine wpList_nil ?_
 refine hK _ _ hm ?_
 clear hK K
 refine aT 8 (v:=v6) rfl (by kernel_rfl) rfl (fun W _=>by go_simp) hm ?_
 go_simp
 refine wpAnyH_done (by kernel_rfl) ?_ _
 simp only [endsIn]
 go_wp2_with (first
  | ((with_reducible refine aa (some 14) (.load 9 (.tmp 13)) ?_);go_must (refine ai 0 1 (.string mt) hm rfl rfl ag_strP rfl ?_))
  | (go_at_call 54;refine (text_gen (be4 root++MK) _ mt 54 n HFL.out (by omega) hmt (by omega) _ (OwnB.old HO.out)).mono ?_;rintro e w7 ⟨gc,rfl,hge,hr,hb⟩;have HX:Hid (Row w7 gc (u8s (be4 root++MK++(be2 n++strB mt))) 5):=hr;clear HO;replace hm:=hm.call hb;clear hb hr hge)
  | (go_at_call 115;refine (aK (be4 root++MK++(be2 n++strB mt)) _ 263 (54+(2+n)) HXL.out (by omega) _ (aE HX.out HXL.out (Nat.le_refl _))).mono ?_;rintro e w9 ⟨gF,rfl,hge,hr,hb⟩;rw [HBE.out ()] at hr;have HR9:Hid (Row w9 gF (u8s BD) 5):=hr;have HG9:Hid (w.heap.size≤gF):=Nat.le_trans hm.size hge;replace hm:=hm.call hb;clear hb hr hge))
 go_ret
 exact ⟨gF,rfl,HG9.out,HR9.out,hm.below⟩
theorem mF (K1 K2 K3:List Int) (limit root:Int) (pages n:Nat) (mt:ByteArray) (mv:Value) (p:Sts) (hl1:K1.length=32) (hl2:K2.length=32) (hl3:K3.length=32) (hkb:Bytes K2) (hkc:Bytes K3) (hp:pages≤400) (hrt:0≤root∧root<4294967296) (hmt:mt.size=n) (hn:n≤200) (w:World) (ht:Tab w) (hq:QTab w) (hs:StV w mv p) :
  Calls Tryz.prog 79 #[.agg (u8s (K1++(K2++K3))).toArray,.int .i64 (pages:Int),.int .u64 limit,.agg (supC root mt mv).toArray] w fun e w'=>∃v,e=.returned v∧OwnB 5 w' w.heap.size v (blockN K2 K3 pages limit (bodyN root (strB mt) p) p)∧Below w.heap.size w w':=by
 have HT:Hid (Tab w):=ht
 have HQ:Hid (QTab w):=hq
 have HS:Hid (StV w mv p):=hs
 have HKB:Hid (Bytes K2):=hkb
 have HKC:Hid (Bytes K3):=hkc
 obtain ⟨KS,hKS⟩:∃KS,KS=K1++(K2++K3):=⟨_,rfl⟩
 have lK:∀K:List Int,K.length=32→(u8s K).length=32:=fun K h=>by rw [ab,h]
 have hKE:u8s KS=u8s K1++(u8s K2++u8s K3):=by rw [hKS];simp [u8s]
 have HKU:Hid ((u8s KS).length=96):=by show _=_;rw [hKE];simp [lK K1 hl1,lK K2 hl2,lK K3 hl3]
 have HK2:Hid (((u8s KS).drop 32).take 32=u8s K2):=by
  show _=_
  rw [hKE,List.drop_append,List.drop_of_length_le (by rw [lK K1 hl1];omega),List.nil_append,lK K1 hl1,Nat.sub_self,List.drop_zero,List.take_append_of_le_length (by rw [lK K2 hl2];omega),List.take_of_length_le (by rw [lK K2 hl2];omega)]
 have HK3:Hid (KS.drop 64=K3):=by
  show _=_
  rw [hKS,←List.append_assoc,List.drop_append,List.drop_of_length_le (by simp [hl1,hl2]),List.nil_append,show 64 - (K1++K2).length=0 by simp [hl1,hl2],List.drop_zero]
 have HKE:Hid (∀_:Unit,K1++(K2++K3)=KS):=fun _=>hKS.symm
 obtain ⟨BD,hBD⟩:∃BD,BD=bodyN root (strB mt) p:=⟨_,rfl⟩
 have HBE:Hid (∀_:Unit,bodyN root (strB mt) p=BD):=fun _=>hBD.symm
 have HBL:Hid (BD.length=263):=by rw [hBD];exact bV _ _ _
 have HBB:Hid (Bytes BD):=by rw [hBD];exact eY _ (cW mt) _
 obtain ⟨ns,hns⟩:∃ns,ns=nonN K3 pages limit BD p:=⟨_,rfl⟩
 have HNE:Hid (∀_:Unit,nonN K3 pages limit BD p=ns):=fun _=>hns.symm
 have HNL:Hid (ns.length=12):=by rw [hns];exact ch _ _ _ _ _
 have HNU:Hid ((u8s ns).length=12):=by show _=_;rw [ab,HNL.out]
 have HNB:Hid (Bytes ns):=by rw [hns];exact l9 _ _ _ _ _
 obtain ⟨Z,hZ⟩:∃Z,Z=sealOf K2 ns (aadN pages limit) BD:=⟨_,rfl⟩
 have HZE:Hid (∀_:Unit,sealOf K2 ns (aadN pages limit) BD=Z):=fun _=>hZ.symm
 have HZL:Hid (Z.length=263+16):=by show _=_;rw [hZ,bY,HBL.out]
 have HRE:Hid (∀_:Unit,be8 limit++ns++Z=blockN K2 K3 pages limit BD p):=fun _=>by rw [blockN,←hns,←hZ]
 have hm:=Mem.start w
 rw [←hKS,←hBD]
 clear ht hq hs hkb hkc hKS hKE lK hBD hns hZ
 go_enter Tryz.func79,Tryz.ntmps79
 go_wp2_with (first
  | ((with_reducible refine aa (some 4) (.box 108 (.tmp 0)) ?_);refine ak (u8s KS) rfl hm ?_;clear hm;intro w1 gk hm)
  | ((with_reducible refine aa (some 7) (.box 106 (.tmp 3)) ?_);refine ak (supC root mt mv) rfl hm ?_;clear hm;intro w2 gs hm)
  | ((with_reducible refine aa (some 12) (.load 106 (.tmp 7)) ?_);obtain ⟨fs,hfs⟩:=ep;go_must (refine am 0 hm rfl rfl _ hfs rfl 3 b8 rfl ?_);clear hfs fs)
  | (go_at_call 121;refine (bodyOf_any root mt mv p n hrt hmt hn _ (StV.below HS.out hm.below)).mono ?_;rintro e w3 ⟨gF,rfl,hge,hr,hb⟩;rw [HBE.out ()] at hr;have HGF:Hid (Row w3 gF (u8s BD) 5):=hr;replace hm:=hm.call hb;clear hb hr hge)
  | ((with_reducible refine aa (some 14) (.load 108 (.tmp 4)) ?_);obtain ⟨fs,hfs⟩:=jq;go_must (refine am 1 hm rfl rfl _ hfs rfl 96 iu HKU.out ?_);clear hfs fs)
  | ((with_reducible refine aa (some 19) (.load 104 (.tmp 18)) ?_);go_must (refine ai 0 2 mv hm rfl rfl cZ rfl ?_))
  | (go_at_call 122;refine (i7 K1 K2 K3 KS BD (HKE.out ()) pages limit _ mv p hl1 hl2 hl3 HKC.out hp HBL.out HBB.out _ (Tab.mem HT.out hm (by simp)) (aE HGF.out HBL.out (Nat.le_refl _)) (StV.below HS.out hm.below)).mono ?_;rintro e w4 ⟨he,hb⟩;rw [HNE.out ()] at he;subst he;replace HGF:Hid (Row w4 gF (u8s BD) 5):=Row.below' HGF.out hb;replace hm:=hm.call hb;clear hb)
  | ((with_reducible refine aa (some 10) (.alloc 210) ?_);refine az _ gP hm ?_;clear hm;intro w5 gn hb hm;replace HGF:Hid (Row w5 gF (u8s BD) 5):=Row.below' HGF.out hb;clear hb)
  | ((with_reducible refine aa none (.store 210 (.tmp 10) (.tmp 20)) ?_);refine ag 0 (u8s ns) (Mem.enter (hm.get 0 rfl)) rfl rfl rfl 12 bD (by simp [ab]) HNU.out (ar _) ?_;intro w6 hq;replace HGF:Hid (Row w6 gF (u8s BD) 5):=hq.toUpd.row HGF.out (aQ HGF.out (hm.get 0 rfl) (by decide));replace hm:Mem w [] w6 [(gn,u8s ns,210),(gs,supC root mt mv,106),(gk,u8s KS,108)]:=hm.upd 0 rfl hq.toUpd (hq.get 0 rfl);clear hq))
 have HGK:Hid (Row w6 gk (u8s KS) 108):=hm.get 2 rfl
 have HGN:Hid (Row w6 gn (u8s ns) 210):=hm.get 0 rfl
 have HB1:Hid (Below w.heap.size w w6):=hm.below
 have HT1:Hid (Tab w6):=Tab.mem HT.out hm (by simp)
 have HQ1:Hid (QTab w6):=QTab.mem HQ.out hm (by simp)
 clear hm HT HQ HS
 have hm:=Mem.start w6
 refine au ?_
 refine ap (T:=fun W=>Mem w6 [] W []) (by kernel_rfl) hm ?_
 clear hm
 intro w7 hm
 refine aT 0 (v:=.int .u64 limit) rfl (by kernel_rfl) rfl (fun W _=>by go_simp) hm ?_
 go_simp
 refine aT 2 (v:=.slice (some ⟨gn,0,none⟩) 12 12) rfl (by kernel_rfl) rfl (fun W _=>iU 12 bx av 0 12 (by omega) (by omega) rfl (Or.inr ⟨rfl,rfl⟩) (Or.inr ⟨rfl,rfl⟩)) hm ?_
 go_simp
 refine aO 1 (by kernel_rfl) rfl rfl ?_
 intro K hK
 go_wp2_with (go_at_call 89;refine (d3 [] _ limit (by simp) _ ⟨none,0,rfl,Nat.le_refl _,fun h=>absurd h (by simp)⟩).mono ?_;rintro e w8 ⟨g3,rfl,hge,hr,hb⟩;rw [show ([]:List Int).length+8=8 from rfl];have HO:Hid (OwnB 5 w8 w6.heap.size (.slice (some ⟨g3,0,none⟩) 8 8) (be8 limit)):=dG (zs:=be8 limit) hr (Nat.le_trans hm.size hge) (by simp [aw]);replace hm:=hm.call hb;clear hb hr hge)
 refine hK _ _ hm ?_
 clear hK K
 refine aO 3 (by kernel_rfl) rfl rfl ?_
 intro K hK
 refine bO rfl aq aU ns hm HO.out (by intro r hr;cases hr) rfl rfl HNL.out.symm (fun h0=>⟨gn,0,rfl,Seg.row (Row.below' HGN.out hm.below)⟩) (by rw [aw,HNL.out];omega) ?_
 clear hm HO
 intro v3 w9 ho hm
 have HO:Hid (OwnB 5 w9 w6.heap.size v3 (be8 limit++ns)):=ho
 clear ho
 refine wpList_nil ?_
 refine hK _ _ hm ?_
 clear hK K
 refine aT 4 (v:=v3) rfl (by kernel_rfl) rfl (fun W _=>by go_simp) hm ?_
 go_simp
 refine wpAnyH_done (by kernel_rfl) ?_ _
 simp only [endsIn]
 go_wp2_with fail
 refine au ?_
 refine cL (T:=fun W=>Mem w6 [] W []) (by kernel_rfl) hm ?_
 clear hm
 intro w10 hb hm
 replace HO:Hid (OwnB 5 w10 w6.heap.size v3 (be8 limit++ns)):=OwnB.below HO.out hb
 clear hb
 refine aT 0 (v:=v3) rfl (by kernel_rfl) rfl (fun W _=>by go_simp) hm ?_
 go_simp
 refine aT 1 (v:=.pointer (some ⟨gk,32,none⟩)) rfl (by kernel_rfl) rfl (fun W _=>by go_simp) hm ?_
 go_simp
 refine aT 2 (v:=.agg (u8s K2).toArray) rfl (by kernel_rfl) rfl (fun W hW=>ao 32 (u8s K2) (Row.below' HGK.out hW.below) rfl _ a0 rfl 32 a9 (by rw [HKU.out];omega) HK2.out) hm ?_
 go_simp
 refine aT 3 (v:=.agg (u8s ns).toArray) rfl (by kernel_rfl) rfl (fun W hW=>ao 0 (u8s ns) (Row.below' HGN.out hW.below) rfl _ bx rfl 12 bD (by rw [HNU.out];omega) (by rw [List.drop_zero,List.take_of_length_le (Nat.le_of_eq HNU.out)])) hm ?_
 go_simp
 refine aT 4 (v:=.int .i64 (pages:Int)) rfl (by kernel_rfl) rfl (fun W _=>by go_simp) hm ?_
 go_simp
 refine aT 5 (v:=.int .u64 limit) rfl (by kernel_rfl) rfl (fun W _=>by go_simp) hm ?_
 go_simp
 refine aT 7 (v:=.slice (some ⟨gF,0,none⟩) 263 263) rfl (by kernel_rfl) rfl (fun W _=>by go_simp) hm ?_
 go_simp
 refine aO 6 (by kernel_rfl) rfl rfl ?_
 intro K hK
 go_wp2_with (go_at_call 124;refine (ew pages limit hp _).mono ?_;rintro e w11 ⟨ga,rfl,hge,hr,hb⟩;have HGA:Hid (Row w11 ga (u8s (aadN pages limit)) 5):=hr;replace HO:Hid (OwnB 5 w11 w6.heap.size v3 (be8 limit++ns)):=OwnB.below HO.out hb;replace hm:=hm.call hb;clear hb hr hge)
 refine hK _ _ hm ?_
 clear hK K
 refine aO 8 (by kernel_rfl) rfl rfl ?_
 intro K hK
 go_wp2_with (go_at_call 123;refine (eO K2 ns (aadN pages limit) BD _ _ hl2 HNL.out HKB.out HNB.out (fZ _ _) HBB.out (by rw [bU];omega) (by rw [HBL.out];omega) _ (Tab.mem HT1.out hm (by simp)) (QTab.mem HQ1.out hm (by simp)) (aE HGA.out (bU _ _) (Nat.le_refl _)) (aE (Row.below' HGF.out hm.below) HBL.out (Nat.le_refl _))).mono ?_;rintro e w12 ⟨g5,cp,ls,he,hcp,hg5,hrs,hb⟩;rw [HBL.out] at he hcp;subst he;rw [HZE.out ()] at hrs;have HX:Hid (Row w12 g5 (u8s Z++ls) 5):=hrs;replace HO:Hid (OwnB 5 w12 w6.heap.size v3 (be8 limit++ns)):=OwnB.below HO.out hb;replace hm:=hm.call hb;clear hb hrs hg5)
 refine hK _ _ hm ?_
 clear hK K
 refine aO 9 (by kernel_rfl) rfl rfl ?_
 intro K hK
 refine bO rfl aq aU Z hm HO.out (by intro r hr;cases hr) rfl rfl HZL.out.symm (fun h0=>⟨g5,0,rfl,eP HX.out⟩) (by rw [List.length_append,aw,HNL.out,HZL.out];omega) ?_
 clear hm HO
 intro v9 w13 ho hm
 rw [HRE.out ()] at ho
 have HO:Hid (OwnB 5 w13 w6.heap.size v9 (blockN K2 K3 pages limit BD p)):=ho
 clear ho
 refine wpList_nil ?_
 refine hK _ _ hm ?_
 clear hK K
 refine aT 10 (v:=v9) rfl (by kernel_rfl) rfl (fun W _=>by go_simp) hm ?_
 go_simp
 refine wpAnyH_done (by kernel_rfl) ?_ _
 simp only [endsIn]
 go_wp2_with fail
 go_ret
 exact ⟨v9,rfl,OwnB.monoP HO.out HB1.out.size,HB1.out.trans (hm.below.mono HB1.out.size)⟩
end Go.Proofs.YtmlbjfklaehjnaaGreatDoor
