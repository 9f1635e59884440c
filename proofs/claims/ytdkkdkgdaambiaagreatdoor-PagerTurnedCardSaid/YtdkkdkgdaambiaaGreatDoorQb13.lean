import Derived.Test.YtdkkdkgdaambiaaGreatDoorQb12
import Derived.Lib.BufferWrite
set_option maxRecDepth 100000
set_option maxHeartbeats 4000000
namespace Go.Proofs.YtdkkdkgdaambiaaGreatDoor
open Go Go.RowKit
theorem bitL_drop (l:List Int) (n j:Nat):bitL (l.drop n) j=bitL l (8 * n+j):=by
 unfold bitL
 rw [show (8 * n+j) / 8=n+j / 8 by omega,show (8 * n+j) % 8=j % 8 by omega]
 simp only [List.getD_eq_getElem?_getD,List.getElem?_drop]
theorem bitL_app {a b:List Int} {j:Nat} (h:j / 8<a.length):bitL (a++b) j=bitL a j:=by
 unfold bitL
 simp only [List.getD_eq_getElem?_getD]
 rw [List.getElem?_append_left h]
def wg (A:List Int) (f:Gens):List Int:=A.take 299++tabL (A.drop 299) f 400
def Dom (f:Gens):Prop:=∀i g,f i=some g→i<400
theorem wg_tab {A:List Int} (hl:A.length=2048) (hb:Bytes A) {f:Gens} (hf:Dom f):GTab (A.drop 299) f (tabL (A.drop 299) f 400):=by
 have h:=tabL_tab (hb.drop 299) f 400 (by rw [List.length_drop,hl];omega)
 have e:(fun k=>if k<400 then f k else none)=f:=by
  funext k
  by_cases hk:k<400
  ·rw [if_pos hk]
  ·rw [if_neg hk]
   cases hfk:f k with
   | none=>rfl
   | some g=>exact absurd (hf k g hfk) hk
 rw [e] at h
 exact h
theorem eC {A:List Int} (hl:A.length=2048) (hb:Bytes A) {f:Gens} (hf:Dom f):(wg A f).length=2048:=by
 have h:=(wg_tab hl hb hf).len
 rw [List.length_drop,hl] at h
 rw [wg,List.length_append,h,List.length_take,hl]
 omega
theorem mE {A:List Int} (hl:A.length=2048) (hb:Bytes A) {f:Gens} (hf:Dom f):Bytes (wg A f):=(hb.take _).append (wg_tab hl hb hf).bytes
theorem wg_drop {A:List Int} (hl:A.length=2048) (f:Gens):(wg A f).drop 299=tabL (A.drop 299) f 400:=by
 unfold wg
 exact dh (by rw [List.length_take,hl];omega)
theorem wg_get {A:List Int} (hl:A.length=2048) (hb:Bytes A) {f:Gens} (hf:Dom f) (i g:Nat) (h:f i=some g):getT ((wg A f).drop 299) (29 * i) 29=((g % 536870912:Nat):Int):=by
 have hi:=hf i g h
 rw [wg_drop hl,(wg_tab hl hb hf).get i g (by rw [List.length_drop,hl];omega) h]
theorem wg_zero {A:List Int} (hl:A.length=2048) (f:Gens):place (wg A f) 0=place A 0:=by
 unfold place wg
 rw [Nat.mul_zero,List.drop_zero,List.drop_zero,List.take_append_of_le_length (by rw [List.length_take,hl];omega),List.take_take]
 rfl
theorem tab_tail {A:List Int} (hl:A.length=2048) (hb:Bytes A) {f:Gens} (hf:Dom f):(tabL (A.drop 299) f 400).drop 1450=(A.drop 299).drop 1450:=by
 have hg:=wg_tab hl hb hf
 have h1:=hg.len
 refine mY (hg.bytes.drop _) ((hb.drop 299).drop 1450) (by rw [List.length_drop,List.length_drop,h1]) fun j hj=>?_
 rw [List.length_drop,h1,List.length_drop,hl] at hj
 rw [bitL_drop,bitL_drop,hg.bit _ (by rw [List.length_drop,hl];omega)]
 unfold tabBit
 cases hfj:f ((8 * 1450+j) / 29) with
 | none=>rfl
 | some g=>exact absurd (hf _ g hfj) (by omega)
theorem wg_one {A:List Int} (hl:A.length=2048) (hb:Bytes A) {f:Gens} (hf:Dom f):place (wg A f) 1=place A 1:=by
 unfold place
 rw [Nat.mul_one,show (1749:Nat)=299+1450 by rfl,←List.drop_drop,←List.drop_drop,wg_drop hl,tab_tail hl hb hf]
theorem wg_place {A:List Int} (hl:A.length=2048) (hb:Bytes A) {f:Gens} (hf:Dom f) {at_:Nat} (ha:at_<2):place (wg A f) at_=place A at_:=by
 have h:at_=0∨at_=1:=by omega
 rcases h with rfl|rfl
 ·exact wg_zero hl f
 ·exact wg_one hl hb hf
theorem db {A:List Int} (hl:A.length=2048) {at_:Nat} (ha:at_<2):(place A at_).length=299:=by
 have h:at_=0∨at_=1:=by omega
 rcases h with rfl|rfl<;>simp [place,hl]
theorem iK {A:List Int} (hb:Bytes A) (at_:Nat):Bytes (place A at_):=(hb.drop _).take _
theorem k8 {A b:List Int} (hl:A.length=2048) (hb:b.length=299) {at_:Nat} (ha:at_<2):place (withB A at_ b) at_=b:=by
 have ht:(tableOf A).length=1450:=by simp [tableOf,hl]
 have h:at_=0∨at_=1:=by omega
 rcases h with rfl|rfl
 ·rw [jJ hl hb,my hb]
 ·rw [kJ hl hb,place_one (db hl (by omega)) ht hb]
theorem withB_other {A b:List Int} (hl:A.length=2048) (hb:b.length=299) {at_:Nat} (ha:at_<2):place (withB A at_ b) (1 - at_)=place A (1 - at_):=by
 have ht:(tableOf A).length=1450:=by simp [tableOf,hl]
 have h:at_=0∨at_=1:=by omega
 rcases h with rfl|rfl
 ·rw [jJ hl hb,place_one hb ht (db hl (by omega))]
 ·rw [kJ hl hb]
  exact my (db hl (by omega))
theorem la {A b:List Int} (hl:A.length=2048) (hb:b.length=299) {at_:Nat} (ha:at_<2) {i:Nat} (hi:i<400):getT ((withB A at_ b).drop 299) (29 * i) 29=getT (A.drop 299) (29 * i) 29:=by
 have h:at_=0∨at_=1:=by omega
 have ht:(tableOf A).length=1450:=by simp [tableOf,hl]
 have e0:A.drop 299=tableOf A++place A 1:=by
  have h9:=jD hl
  conv=>lhs;rw [←h9]
  unfold area
  exact dh (db hl (by omega))
 have e1:∃c,(withB A at_ b).drop 299=tableOf A++c:=by
  rcases h with rfl|rfl
  ·rw [jJ hl hb];exact ⟨_,dh hb⟩
  ·rw [kJ hl hb];exact ⟨_,dh (db hl (by omega))⟩
 obtain ⟨c,e1⟩:=e1
 rw [e0,e1]
 refine m5 29 fun j hj=>?_
 rw [bitL_app (by rw [ht];omega),bitL_app (by rw [ht];omega)]
structure SupIs (kS kN:List Int) (pg:Nat) (A:List Int) (at_ limit:Nat) (root:Int) (mt:List Int) (f:Gens):Prop where
 blk:place A at_=blockN kS kN pg limit (bodyN root mt f) f
 has:∀i g,f i=some g→getT (A.drop 299) (29 * i) 29=((g % 536870912:Nat):Int)
 kept:Kept f pg limit
 mt:Bytes mt∧mt.length≤200
 root:0≤root∧root<4294967296
def rootAt (kS b:List Int):Int:=numL ((bodyAt kS b).take 4)
def metaL (cs:List Int):List Int:=if numL (cs.take 2)≤200 then (cs.drop 2).take (numL (cs.take 2)).toNat else []
def metaAt (kS b:List Int):List Int:=metaL ((bodyAt kS b).drop 54)
def marksAt (kS b:List Int):List Int:=((bodyAt kS b).drop 4).take 50
theorem states_of {f:Gens} {pg limit:Nat} (hk:Kept f pg limit) (hp:pg≤400) {table:List Int} (ht:∀i g,f i=some g→getT table (29 * i) 29=((g % 536870912:Nat):Int)):statesN pg limit (marksOf f) table=f:=by
 funext i
 unfold statesN
 by_cases hi:i<pg
 ·rw [marksOf_bit f i (by omega)]
  cases hf:f i with
  | none=>simp
  | some g =>
   have h1:=hk.gen i g hf
   rw [ht i g hf,genB_back h1.1 h1.2 hk.lim]
   simp [hi]
 ·rw [if_neg (fun h=>hi h.1),hk.out i (by omega)]
section
variable {kS kN:List Int} {pg:Nat} {A:List Int} {at_ limit:Nat} {root:Int} {mt:List Int} {f:Gens}
theorem SupIs.lim (h:SupIs kS kN pg A at_ limit root mt f):limitAt (place A at_)=(limit:Int):=by
 have:=h.kept.lim
 rw [h.blk]
 exact dU kS kN pg (by omega) _ _
theorem SupIs.body (h:SupIs kS kN pg A at_ limit root mt f):bodyAt kS (place A at_)=bodyN root mt f:=by
 rw [h.blk]
 exact bodyAt_block kS kN pg limit (fH root h.mt.1 f) (cC root mt f) f
theorem SupIs.states (h:SupIs kS kN pg A at_ limit root mt f) (hp:pg≤400):statesN pg (limitAt (place A at_)) (marksAt kS (place A at_)) (A.drop 299)=f:=by
 unfold marksAt
 rw [h.lim,h.body,bodyN_marks root mt f h.mt.2]
 exact states_of h.kept hp h.has
theorem SupIs.valid (h:SupIs kS kN pg A at_ limit root mt f) (hp:pg≤400):validN kS kN pg (place A at_) (A.drop 299)=true:=by
 have h0:=h.kept.lim
 have hs:=h.states hp
 unfold marksAt at hs
 unfold validN
 rw [hs,h.lim,h.body,h.blk,opens_block kS kN pg (by omega),dW,decide_eq_true rfl]
 rfl
theorem SupIs.rootIs (h:SupIs kS kN pg A at_ limit root mt f):rootAt kS (place A at_)=root:=by
 unfold rootAt
 rw [h.body,bodyN_root root mt f h.mt.2,numL_be4 h.root]
theorem SupIs.metaIs (h:SupIs kS kN pg A at_ limit root mt f):metaAt kS (place A at_)=mt:=by
 unfold metaAt metaL
 have h1:=h.mt.2
 rw [h.body,bodyN_meta root mt f h.mt.2]
 have e:(be2 (mt.length:Int)++mt++List.replicate (207 - mt.length) 0).take 2=be2 (mt.length:Int):=by
  rw [List.append_assoc,List.take_append_of_le_length (by simp [bw]),List.take_of_length_le (by simp [bw])]
 rw [e,numL_be2 (by omega),if_pos (by omega),List.append_assoc,dh (bw _),Int.toNat_natCast,List.take_left]
end
def keepA (kS kN:List Int) (pg:Nat) (A:List Int) (at_ limit:Nat) (root:Int) (mt:List Int) (f:Gens):List Int:=withB (wg A f) at_ (blockN kS kN pg limit (bodyN root mt f) f)
section
variable {kS kN:List Int} {pg:Nat} {A:List Int} {at_ limit limit':Nat} {root root':Int} {mt mt':List Int} {f f':Gens}
theorem eU (hl:A.length=2048) (hb:Bytes A) (hf:Dom f) (ha:at_<2):(keepA kS kN pg A at_ limit root mt f).length=2048 :=
 withB_length (eC hl hb hf) (by omega) (dj kS kN pg limit (cC root mt f) f)
theorem fC (hl:A.length=2048) (hb:Bytes A) (hf:Dom f) (hm:Bytes mt):Bytes (keepA kS kN pg A at_ limit root mt f) :=
 withB_bytes (mE hl hb hf) (jL kS kN pg limit (fH root hm f) f) _
theorem iX (hl:A.length=2048) (hb:Bytes A) (hf:Dom f) (ha:at_<2) (hk:Kept f pg limit) (hm:Bytes mt∧mt.length≤200) (hr:0≤root∧root<4294967296):SupIs kS kN pg (keepA kS kN pg A at_ limit root mt f) at_ limit root mt f:=by
 have h1:=eC hl hb hf
 have h2:=dj kS kN pg limit (cC root mt f) f
 refine ⟨k8 h1 h2 ha,fun i g hg=>?_,hk,hm,hr⟩
 unfold keepA
 rw [la h1 h2 ha (hf i g hg),wg_get hl hb hf i g hg]
theorem gU (hl:A.length=2048) (hb:Bytes A) (hf:Dom f) (ha:at_<2):place (keepA kS kN pg A at_ limit root mt f) (1 - at_)=place A (1 - at_):=by
 unfold keepA
 rw [withB_other (eC hl hb hf) (dj kS kN pg limit (cC root mt f) f) ha,wg_place hl hb hf (by omega)]
theorem k9 (hl:A.length=2048) (hb:Bytes A) (hf:Dom f) (ha:at_<2) (hs:SupIs kS kN pg A (1 - at_) limit' root' mt' f') (hc:∀i g,f' i=some g→f i=some g):SupIs kS kN pg (keepA kS kN pg A at_ limit root mt f) (1 - at_) limit' root' mt' f':=by
 have h1:=eC hl hb hf
 have h2:=dj kS kN pg limit (cC root mt f) f
 refine ⟨?_,fun i g hg=>?_,hs.kept,hs.mt,hs.root⟩
 ·rw [gU hl hb hf ha];exact hs.blk
 ·unfold keepA
  rw [la h1 h2 ha (hf i g (hc i g hg)),wg_get hl hb hf i g (hc i g hg)]
theorem keepA_lim (hl:A.length=2048) (hb:Bytes A) (hf:Dom f) (ha:at_<2) (hlt:limit<18446744073709551616) {m:Int} (h0:limitAt (place A 0)≤m) (h1:limitAt (place A 1)≤m) (hm:m≤limit) (j:Nat) (hj:j<2):limitAt (place (keepA kS kN pg A at_ limit root mt f) j)≤limit:=by
 by_cases h:j=at_
 ·subst h
  unfold keepA
  rw [k8 (eC hl hb hf) (dj kS kN pg limit (cC root mt f) f) ha,dU kS kN pg (by omega)]
  exact Int.le_refl _
 ·rw [show j=1 - at_ by omega,gU hl hb hf ha]
  have h9:1 - at_=0∨1 - at_=1:=by omega
  rcases h9 with h9|h9<;>rw [h9]<;>omega
end
def keepD (d:Dk) (A A1 A2:List Int):Dk:=rewArea (rewArea d A A1) A1 A2
theorem secs_sec {f:Nat→List Int} {i:Nat} (h:∀i,i<32→(f i).length=64) (hi:i<32):secOf (secs f 0 32) i=f i:=by
 unfold secOf secs
 have h9:=flatK_at (fun i=>f (0+i)) 32 i (fun j hj=>by rw [Nat.zero_add];exact h j hj) hi
 rw [Nat.mul_comm,h9,Nat.zero_add]
theorem sec_secs {f:Nat→List Int} {A:List Int} (hl:A.length=2048) (h:∀i,i<32→f i=secOf A i):secs f 0 32=A:=by
 have h9:secs f 0 32=flatK (fun i=>(A.drop (64 * i)).take 64) 32:=eO _ _ _ (fun i hi=>by rw [Nat.zero_add];exact h i hi)
 rw [h9,me A 32 (by omega),List.take_of_length_le (by omega)]
theorem kE {d:Dk} (hk:d.Ok) (h1:d.off=false) (h2:d.left=0) {A A1 A2:List Int} (hA:secs d.now 0 32=A) (hl1:A1.length=2048) (hb1:Bytes A1) (hl2:A2.length=2048) (hb2:Bytes A2) (hn:32≤d.n) :
  secs (keepD d A A1 A2).now 0 32=A2∧∀j,32≤j→(keepD d A A1 A2).now j=d.now j:=by
 obtain ⟨a,b,c,_⟩:=eE h1 h2 A A1
 have hold:∀i,i<32→d.now i=secOf A i:=fun i hi=>by rw [←hA,secs_sec (fun i hi=>hk.now (by omega)) hi]
 have hn1:=lv hk h1 h2 hb1 hl1 hn hold
 have hk1:=jm hk A hb1
 have hn2:=lv hk1 a b hb2 hl2 (by rw [c];exact hn) (fun i hi=>by rw [hn1,if_pos hi])
 refine ⟨sec_secs hl2 fun i hi=>?_,fun j hj=>?_⟩
 ·show (rewArea (rewArea d A A1) A1 A2).now i=_
  rw [hn2,if_pos hi]
 ·show (rewArea (rewArea d A A1) A1 A2).now j=_
  rw [hn2,if_neg (by omega),hn1,if_neg (by omega)]
theorem m7 {d:Dk} {k:Nat} (h1:d.off=false) (h2:d.left=0) (hs0:0≤d.steps) (hs1:d.steps≤k) (A A1 A2:List Int):(keepD d A A1 A2).off=false∧(keepD d A A1 A2).left=0∧0≤(keepD d A A1 A2).steps∧(keepD d A A1 A2).steps≤((k+66:Nat):Int)∧(keepD d A A1 A2).n=d.n∧∀i,(keepD d A A1 A2).pend i=none:=by
 obtain ⟨a,b,c,_,e,g⟩:=eE h1 h2 A A1
 obtain ⟨a',b',c',p',e',g'⟩:=eE a b A1 A2
 unfold keepD
 exact ⟨a',b',by omega,by omega,by rw [c',c],p'⟩
open Go Go.RowKit
def edOf (b:List Int):Int:=big4 (b.getD 0 0) (b.getD 1 0) (b.getD 2 0) (b.getD 3 0)
theorem gg (cs:List Int) (v:Value) (n:Nat) (hn:cs.length=n) (hk:8≤n) (hl:n≤30000) (hcb:Bytes cs) (w:World) (hv:SlOld w v cs) :
  Calls Tryz.prog 83 #[v,.int .i64 8] w fun e w'=>∃g,e=.returned (.tuple #[.int .u64 (numL (cs.take 8)),.slice (some ⟨g,0,none⟩) (n - 8) (n - 8),.int .i64 0])∧w.heap.size≤g∧Row w' g (u8s (cs.drop 8)) 5∧Below w.heap.size w w':=by
 obtain ⟨p,cap,rfl,hcap⟩:=hv.len
 have HV:Hid (SlOld w (.slice p cs.length cap) cs):=hv
 clear hv
 rw [hn] at hcap HV ⊢
 have HB:Hid _:=hcb
 clear hcb
 have HDL:Hid ((cs.drop 8).length=n - 8):=by show _=_;rw [List.length_drop,hn]
 have hm:=Mem.start w
 obtain ⟨X,hX⟩:∃X,X=numL (cs.take 8):=⟨_,rfl⟩
 have HX:Hid (∀_:Unit,numL (cs.take 8)=X):=fun _=>hX.symm
 rw [←hX]
 clear hX
 go_enter Tryz.func83,Tryz.ntmps83
 go_wp2_with (first
  | (go_at_call 96;refine (jB _).mono ?_;rintro e w1 ⟨rfl,rfl⟩))
 refine ar ?_
 refine am (T:=fun W=>Mem w1 [] W []) (by kernel_rfl) hm ?_
 clear hm
 intro w2 hm
 refine aT 0 (v:=.slice p n cap) rfl (by kernel_rfl) rfl (fun W _=>by go_simp) hm ?_
 go_simp
 refine aT 1 (v:=.int .i64 8) rfl (by kernel_rfl) rfl (fun W _=>by go_simp) hm ?_
 go_simp
 refine aT 4 (v:=.slice p n cap) rfl (by kernel_rfl) rfl (fun W _=>by go_simp) hm ?_
 go_simp
 refine aT 5 (v:=.int .i64 8) rfl (by kernel_rfl) rfl (fun W _=>by go_simp) hm ?_
 go_simp
 refine aT 2 (v:=.slice (cutHi p cap) 8 cap) rfl (by kernel_rfl) rfl (fun W _=>bC ai av 8 (by omega) rfl rfl rfl) hm ?_
 go_simp
 refine aT 6 (v:=.slice (cutLo p cap 8) (n - 8) (cap - 8)) rfl (by kernel_rfl) rfl (fun W _=>dx ai av 8 (by omega) rfl rfl rfl) hm ?_
 go_simp
 refine aO 3 (by kernel_rfl) rfl rfl ?_
 intro K hK
 go_wp2_with (go_at_call 110;refine (fy (cs.take 8) _ 8 (by rw [List.length_take,hn];omega) (by omega) (Bytes.take HB.out 8) _ (dw (SlOld.mem HV.out hm) 8 (by omega))).mono ?_;rintro e w3 ⟨he,rfl⟩;rw [HX.out ()] at he;subst he)
 refine hK _ _ hm ?_
 clear hK K
 refine aO 7 (by kernel_rfl) rfl rfl ?_
 intro K hK
 go_wp2_with (go_at_call 97;refine (dr (cs.drop 8) _ 0 (by rw [HDL.out];omega) (by omega) _ (old_lo (SlOld.mem HV.out hm) 8 (by omega))).mono ?_;rintro e w4 ⟨g,he,hge,hr,hb⟩;rw [HDL.out,Nat.add_zero] at he;subst he;rw [List.replicate_zero,List.append_nil] at hr;replace hm:=hm.callNew hb hr hge;clear hb hr hge)
 refine hK _ _ hm.tail ?_
 clear hK K
 refine aT 8 (v:=.int .u64 X) rfl (by kernel_rfl) rfl (fun W _=>by go_simp) hm.tail ?_
 go_simp
 refine aT 9 (v:=.slice (some ⟨g,0,none⟩) (n - 8) (n - 8)) rfl (by kernel_rfl) rfl (fun W _=>by go_simp) hm.tail ?_
 go_simp
 refine aT 10 (v:=.int .i64 0) rfl (by kernel_rfl) rfl (fun W _=>by go_simp) hm.tail ?_
 go_simp
 refine wpAnyH_done (by kernel_rfl) ?_ _
 simp only [endsIn]
 go_wp2_with fail
 go_ret3
 have hf:=hm.fresh _ (List.mem_cons_self ..)
 exact ⟨g,rfl,by simpa using hf,hm.get 0 rfl,hm.below⟩
theorem i8 (cs:List Int) (v:Value) (n:Nat) (hn:cs.length=n) (hk:2≤n) (hl:n≤30000) (hcb:Bytes cs) (w:World) (hv:SlOld w v cs) :
  Calls Tryz.prog 83 #[v,.int .i64 2] w fun e w'=>∃g,e=.returned (.tuple #[.int .u64 (numL (cs.take 2)),.slice (some ⟨g,0,none⟩) (n - 2) (n - 2),.int .i64 0])∧w.heap.size≤g∧Row w' g (u8s (cs.drop 2)) 5∧Below w.heap.size w w':=by
 obtain ⟨p,cap,rfl,hcap⟩:=hv.len
 have HV:Hid (SlOld w (.slice p cs.length cap) cs):=hv
 clear hv
 rw [hn] at hcap HV ⊢
 have HB:Hid _:=hcb
 clear hcb
 have HDL:Hid ((cs.drop 2).length=n - 2):=by show _=_;rw [List.length_drop,hn]
 have hm:=Mem.start w
 obtain ⟨X,hX⟩:∃X,X=numL (cs.take 2):=⟨_,rfl⟩
 have HX:Hid (∀_:Unit,numL (cs.take 2)=X):=fun _=>hX.symm
 rw [←hX]
 clear hX
 go_enter Tryz.func83,Tryz.ntmps83
 go_wp2_with (first
  | (go_at_call 96;refine (held_two _).mono ?_;rintro e w1 ⟨rfl,rfl⟩))
 refine ar ?_
 refine am (T:=fun W=>Mem w1 [] W []) (by kernel_rfl) hm ?_
 clear hm
 intro w2 hm
 refine aT 0 (v:=.slice p n cap) rfl (by kernel_rfl) rfl (fun W _=>by go_simp) hm ?_
 go_simp
 refine aT 1 (v:=.int .i64 2) rfl (by kernel_rfl) rfl (fun W _=>by go_simp) hm ?_
 go_simp
 refine aT 4 (v:=.slice p n cap) rfl (by kernel_rfl) rfl (fun W _=>by go_simp) hm ?_
 go_simp
 refine aT 5 (v:=.int .i64 2) rfl (by kernel_rfl) rfl (fun W _=>by go_simp) hm ?_
 go_simp
 refine aT 2 (v:=.slice (cutHi p cap) 2 cap) rfl (by kernel_rfl) rfl (fun W _=>bC ai av 2 (by omega) rfl rfl rfl) hm ?_
 go_simp
 refine aT 6 (v:=.slice (cutLo p cap 2) (n - 2) (cap - 2)) rfl (by kernel_rfl) rfl (fun W _=>dx ai av 2 (by omega) rfl rfl rfl) hm ?_
 go_simp
 refine aO 3 (by kernel_rfl) rfl rfl ?_
 intro K hK
 go_wp2_with (go_at_call 110;refine (fy (cs.take 2) _ 2 (by rw [List.length_take,hn];omega) (by omega) (Bytes.take HB.out 2) _ (dw (SlOld.mem HV.out hm) 2 (by omega))).mono ?_;rintro e w3 ⟨he,rfl⟩;rw [HX.out ()] at he;subst he)
 refine hK _ _ hm ?_
 clear hK K
 refine aO 7 (by kernel_rfl) rfl rfl ?_
 intro K hK
 go_wp2_with (go_at_call 97;refine (dr (cs.drop 2) _ 0 (by rw [HDL.out];omega) (by omega) _ (old_lo (SlOld.mem HV.out hm) 2 (by omega))).mono ?_;rintro e w4 ⟨g,he,hge,hr,hb⟩;rw [HDL.out,Nat.add_zero] at he;subst he;rw [List.replicate_zero,List.append_nil] at hr;replace hm:=hm.callNew hb hr hge;clear hb hr hge)
 refine hK _ _ hm.tail ?_
 clear hK K
 refine aT 8 (v:=.int .u64 X) rfl (by kernel_rfl) rfl (fun W _=>by go_simp) hm.tail ?_
 go_simp
 refine aT 9 (v:=.slice (some ⟨g,0,none⟩) (n - 2) (n - 2)) rfl (by kernel_rfl) rfl (fun W _=>by go_simp) hm.tail ?_
 go_simp
 refine aT 10 (v:=.int .i64 0) rfl (by kernel_rfl) rfl (fun W _=>by go_simp) hm.tail ?_
 go_simp
 refine wpAnyH_done (by kernel_rfl) ?_ _
 simp only [endsIn]
 go_wp2_with fail
 go_ret3
 have hf:=hm.fresh _ (List.mem_cons_self ..)
 exact ⟨g,rfl,by simpa using hf,hm.get 0 rfl,hm.below⟩
theorem get_four (cs:List Int) (v:Value) (n:Nat) (hn:cs.length=n) (hk:4≤n) (hl:n≤30000) (hcb:Bytes cs) (w:World) (hv:SlOld w v cs) :
  Calls Tryz.prog 83 #[v,.int .i64 4] w fun e w'=>∃g,e=.returned (.tuple #[.int .u64 (numL (cs.take 4)),.slice (some ⟨g,0,none⟩) (n - 4) (n - 4),.int .i64 0])∧w.heap.size≤g∧Row w' g (u8s (cs.drop 4)) 5∧Below w.heap.size w w':=by
 obtain ⟨p,cap,rfl,hcap⟩:=hv.len
 have HV:Hid (SlOld w (.slice p cs.length cap) cs):=hv
 clear hv
 rw [hn] at hcap HV ⊢
 have HB:Hid _:=hcb
 clear hcb
 have HDL:Hid ((cs.drop 4).length=n - 4):=by show _=_;rw [List.length_drop,hn]
 have hm:=Mem.start w
 obtain ⟨X,hX⟩:∃X,X=numL (cs.take 4):=⟨_,rfl⟩
 have HX:Hid (∀_:Unit,numL (cs.take 4)=X):=fun _=>hX.symm
 rw [←hX]
 clear hX
 go_enter Tryz.func83,Tryz.ntmps83
 go_wp2_with (first
  | (go_at_call 96;refine (held_four _).mono ?_;rintro e w1 ⟨rfl,rfl⟩))
 refine ar ?_
 refine am (T:=fun W=>Mem w1 [] W []) (by kernel_rfl) hm ?_
 clear hm
 intro w2 hm
 refine aT 0 (v:=.slice p n cap) rfl (by kernel_rfl) rfl (fun W _=>by go_simp) hm ?_
 go_simp
 refine aT 1 (v:=.int .i64 4) rfl (by kernel_rfl) rfl (fun W _=>by go_simp) hm ?_
 go_simp
 refine aT 4 (v:=.slice p n cap) rfl (by kernel_rfl) rfl (fun W _=>by go_simp) hm ?_
 go_simp
 refine aT 5 (v:=.int .i64 4) rfl (by kernel_rfl) rfl (fun W _=>by go_simp) hm ?_
 go_simp
 refine aT 2 (v:=.slice (cutHi p cap) 4 cap) rfl (by kernel_rfl) rfl (fun W _=>bC ai av 4 (by omega) rfl rfl rfl) hm ?_
 go_simp
 refine aT 6 (v:=.slice (cutLo p cap 4) (n - 4) (cap - 4)) rfl (by kernel_rfl) rfl (fun W _=>dx ai av 4 (by omega) rfl rfl rfl) hm ?_
 go_simp
 refine aO 3 (by kernel_rfl) rfl rfl ?_
 intro K hK
 go_wp2_with (go_at_call 110;refine (fy (cs.take 4) _ 4 (by rw [List.length_take,hn];omega) (by omega) (Bytes.take HB.out 4) _ (dw (SlOld.mem HV.out hm) 4 (by omega))).mono ?_;rintro e w3 ⟨he,rfl⟩;rw [HX.out ()] at he;subst he)
 refine hK _ _ hm ?_
 clear hK K
 refine aO 7 (by kernel_rfl) rfl rfl ?_
 intro K hK
 go_wp2_with (go_at_call 97;refine (dr (cs.drop 4) _ 0 (by rw [HDL.out];omega) (by omega) _ (old_lo (SlOld.mem HV.out hm) 4 (by omega))).mono ?_;rintro e w4 ⟨g,he,hge,hr,hb⟩;rw [HDL.out,Nat.add_zero] at he;subst he;rw [List.replicate_zero,List.append_nil] at hr;replace hm:=hm.callNew hb hr hge;clear hb hr hge)
 refine hK _ _ hm.tail ?_
 clear hK K
 refine aT 8 (v:=.int .u64 X) rfl (by kernel_rfl) rfl (fun W _=>by go_simp) hm.tail ?_
 go_simp
 refine aT 9 (v:=.slice (some ⟨g,0,none⟩) (n - 4) (n - 4)) rfl (by kernel_rfl) rfl (fun W _=>by go_simp) hm.tail ?_
 go_simp
 refine aT 10 (v:=.int .i64 0) rfl (by kernel_rfl) rfl (fun W _=>by go_simp) hm.tail ?_
 go_simp
 refine wpAnyH_done (by kernel_rfl) ?_ _
 simp only [endsIn]
 go_wp2_with fail
 go_ret3
 have hf:=hm.fresh _ (List.mem_cons_self ..)
 exact ⟨g,rfl,by simpa using hf,hm.get 0 rfl,hm.below⟩
theorem bigN_any (cs:List Int) (v:Value) (hl:4≤cs.length) (hcb:Bytes cs) (w:World) (hv:SlOld w v cs) :
  Calls Tryz.prog 52 #[v] w fun e w'=>e=.returned (.int .u32 (edOf cs))∧Below w.heap.size w w':=by
 obtain ⟨p,cap,rfl,hcap,hs⟩:=hv
 obtain ⟨b,off,rfl,hseg⟩:=hs (by omega)
 obtain ⟨h00,h01⟩:=Bytes.get hcb 0
 obtain ⟨h10,h11⟩:=Bytes.get hcb 1
 obtain ⟨h20,h21⟩:=Bytes.get hcb 2
 obtain ⟨h30,h31⟩:=Bytes.get hcb 3
 have HC:Hid (Seg w b off [cs.getD 0 0,cs.getD 1 0,cs.getD 2 0,cs.getD 3 0]):=kf hseg 0 (by omega)
 have hm:=Mem.start w
 unfold edOf
 obtain ⟨n,hn⟩:∃n,n=cs.length:=⟨_,rfl⟩
 rw [←hn] at hl hcap ⊢
 generalize cs.getD 0 0=c0 at *
 generalize cs.getD 1 0=c1 at *
 generalize cs.getD 2 0=c2 at *
 generalize cs.getD 3 0=c3 at *
 clear hseg hs hcb hn
 go_enter Tryz.func52,Tryz.ntmps52
 go_wp2_with (first
  | (go_at_call 86;refine (iE b off n cap [c0,c1,c2,c3] rfl hl _ (HC.out.mem hm (by simp))).mono ?_;rintro e w1 ⟨rfl,hb⟩;replace hm:=hm.call hb;clear hb)
  | ((with_reducible refine aa (some 3) (.alloc 78) ?_);refine ae _ eV hm ?_;clear hm;intro w2 g2 hm)
  | ((with_reducible refine aa none (.store 78 (.tmp 3) (.tmp 5)) ?_);refine af 0 (u8s [c0,c1,c2,c3]) hm rfl rfl rfl 4 iB (by simp [ab]) (rfl) (aj _) ?_;clear hm;intro w3 hm)
  | ((with_reducible refine aa (some 7) (.load 5 (.tmp 6)) ?_);refine au 0 0 (.int .u8 c0) hm rfl rfl dy (rfl) ?_)
  | ((with_reducible refine aa (some 11) (.load 5 (.tmp 10)) ?_);refine au 0 1 (.int .u8 c1) hm rfl rfl dy (rfl) ?_)
  | ((with_reducible refine aa (some 16) (.load 5 (.tmp 15)) ?_);refine au 0 2 (.int .u8 c2) hm rfl rfl dy (rfl) ?_)
  | ((with_reducible refine aa (some 21) (.load 5 (.tmp 20)) ?_);refine au 0 3 (.int .u8 c3) hm rfl rfl dy (rfl) ?_))
 go_ret
 exact ⟨rfl,hm.below⟩
open Go Go.RowKit Go.Maps
theorem UpdS.past {L M:List Nat} {w w1 w2:World} (h:UpdS L w w1) (k:UpdS M w1 w2) (hM:∀q∈M,w.heap.size≤q):UpdS L w w2 :=
 ⟨k.os.trans h.os,k.tape.trans h.tape,k.output.trans h.output,Nat.le_trans h.size k.size,fun q hq hn=>(k.block q (Nat.lt_of_lt_of_le hq h.size) (fun hh=>by have:=hM q hh;omega)).trans (h.block q hq hn)⟩
theorem b7 {L:List Nat} {w w1 w2:World} (h:Below w.heap.size w w1) (k:UpdS L w1 w2) (hL:∀q∈L,w.heap.size≤q):Below w.heap.size w w2:=by
 have h9:UpdS [] w w2:=UpdS.past (UpdS.of_below h) k hL
 exact ⟨h9.os,h9.tape,h9.output,h9.size,fun q hq=>h9.block q hq (by simp)⟩
theorem Mem.updOut {w0 w w':World} {S:List Nat} {rows:List (Nat×List Value×TypeId)} {g:Nat} {l:List Value} {t:TypeId} (hm:Mem w0 S w rows) (hr:Row w g l t) (hty:∀r∈rows,r.2.2≠t) (hg:g∈S) (hu:Upd g w w'):Mem w0 S w' rows:=by
 refine ⟨hu.os.trans hm.os,hu.tape.trans hm.tape,hu.output.trans hm.output,Nat.le_trans hm.size hu.size,fun k hk hn=>(hu.block k (Nat.lt_of_lt_of_le hk hm.size) (fun e=>hn (e▸hg))).trans (hm.block k hk hn),fun r hr'=>?_,hm.nodup,hm.fresh⟩
 have h1:=hm.row r hr'
 refine hu.row h1 (fun e=>?_)
 have h2:=hty r hr'
 rw [e] at h1
 unfold Row at h1 hr
 rw [hr] at h1
 simp only [Option.some.injEq,Obj.cells.injEq] at h1
 exact h2 h1.2.1.symm
theorem big4_num (a b c d:Int) (ha:0≤a∧a<256) (hb:0≤b∧b<256) (hc:0≤c∧c<256) (hd:0≤d∧d<256):big4 a b c d=numL [a,b,c,d]:=by
 have h1:Go.bits .or .u32 (a * 16777216) (b * 65536)=a * 16777216+b * 65536:=by
  rw [u32_or (a * 16777216) (b * 65536) (by omega) (by omega) (by omega) (by omega),nat_join 24 _ _ (by omega) (by omega)]
  omega
 have h2:Go.bits .or .u32 (a * 16777216+b * 65536) (c * 256)=a * 16777216+b * 65536+c * 256:=by
  rw [u32_or (a * 16777216+b * 65536) (c * 256) (by omega) (by omega) (by omega) (by omega),nat_join 16 _ _ (by omega) (by omega)]
  omega
 have h3:Go.bits .or .u32 (a * 16777216+b * 65536+c * 256) d=a * 16777216+b * 65536+c * 256+d:=by
  rw [u32_or (a * 16777216+b * 65536+c * 256) d (by omega) (by omega) (by omega) (by omega),nat_join 8 _ _ (by omega) (by omega)]
  omega
 unfold big4
 rw [h1,h2,h3]
 simp only [numL,List.foldl_cons,List.foldl_nil]
 omega
theorem edOf_four (i:Nat) (h:i<4294967296):edOf (four (i:Int))=(i:Int):=by
 have h9:=numL_be4 (n:=(i:Int)) (by omega)
 have e:edOf (four (i:Int))=numL (be4 (i:Int)):=by
  unfold edOf four be4
  simp only [List.getD_eq_getElem?_getD,List.getElem?_cons_zero,List.getElem?_cons_succ,Option.getD_some]
  rw [big4_num ((i:Int) / 16777216 % 256) ((i:Int) / 65536 % 256) ((i:Int) / 256 % 256) ((i:Int) % 256) (by omega) (by omega) (by omega) (by omega)]
  simp only [numL,List.foldl_cons,List.foldl_nil]
  omega
 rw [e,h9]
theorem Marks.one {q:Gens} {M:List Int} (h:Marks q 400 M) (i g:Nat) (hi:i<400):Marks (upf q i (some g)) 400 (putT M i 1 1):=by
 have e:putT M i 1 1=setBitL M i 1:=rfl
 rw [e]
 refine ⟨by rw [fe,h.len],fO h.bytes _ (by decide),fun j hj=>?_⟩
 rw [mi (by rw [h.len];omega) (by decide),h.bit j hj]
 by_cases hji:j=i
 ·subst hji
  rw [if_pos rfl,cX,if_pos ⟨hj,rfl⟩]
 ·rw [if_neg hji,bx q _ hji]
theorem Marks.none:Marks (fun _=>none) 400 (List.replicate 50 0):=⟨by simp,Bytes.zeros 50,fun j _=>by rw [l7,if_neg (by simp)]⟩
theorem gone_done {kl:Nat→Lit} {left:Lit→Bool} {p:Sts} (h:∀k,left k=false):gone kl left p=p:=by
 funext i
 unfold gone
 rw [h]
 rfl
theorem tabL_none (l:List Int):∀n,tabL l (fun _=>none) n=l
 | 0=>rfl
 | n+1=>by rw [tabL];exact tabL_none l n
theorem wg_none (A:List Int):wg A (fun _=>none)=A:=by rw [wg,tabL_none,List.take_append_drop]
theorem row_keepB {w w':World} {g:Nat} {l:List Value} {t:TypeId} (h:Row w g l t) (hk:w'.heap[g]?=w.heap[g]?):Row w' g l t:=by
 unfold Row;rw [hk];exact h
theorem marks_map (m2:Nat) (p:Sts) (w:World) (h2:StM w m2 p) :
  Calls Tryz.prog 130 #[.map (some m2)] w fun e w'=>∃g,e=.returned (.slice (some ⟨g,0,none⟩) 50 50)∧w.heap.size≤g∧Row w' g (u8s (marksOf p)) 5∧Below w.heap.size w w':=by
 obtain ⟨kl,hkl⟩:=kl_ex
 have HKL:Hid (∀i,i<4294967296→IsK i (kl i)):=hkl
 obtain ⟨qn,D,ho,pm⟩:=h2
 have HO0:Hid (w.ownsMap Tryz.prog 79 rdV m2 qn D):=ho
 have HPM:Hid (SM D p):=pm
 have HGS:Hid (∀_:Unit,gone kl (Maps.has D) p=fun _=>none):=fun _=>jv hkl pm (fun i h=>h)
 have hm:=Mem.start w
 clear ho pm hkl
 have HZ0:Hid (List.replicate 50 (Value.int .u8 0)=u8s (List.replicate 50 0)):=by show _=_;simp [u8s]
 go_enter Tryz.func130,Tryz.ntmps130
 go_wp2_with (first
  | ((with_reducible refine aa (some 5) (.makeSlice 22 (.const (.int .i64 50)) (.const (.int .i64 50))) ?_);go_must (refine el _ ai _ aD rfl 50 rfl (by first|rfl|omega) rfl (by first|rfl|omega) (by omega) hm ?_);clear hm;intro w1 gm hm;rw [HZ0.out] at hm;have HOW:Hid (w1.ownsMap Tryz.prog 79 rdV m2 qn D):=HO0.out.kept (be hm.below) (by simp);have HGM:Hid (Row w1 gm (u8s (List.replicate 50 0)) 5):=hm.get 0 rfl;have HGE:Hid (w.heap.size≤gm):=(by have h9:=hm.fresh _ (List.mem_cons_self ..);show _≤_;simpa using h9);have HGLT:Hid (gm<w1.heap.size):=(hm.get 0 rfl).lt;have HB1:Hid (Below w.heap.size w w1):=hm.below;have HGN2:Hid (gm≠m2):=(fun e=>by obtain ⟨es,c,hmp,_⟩:=HO0.out;have h1:=(Array.getElem?_eq_some_iff.1 hmp).1;have h2:=HGE.out;omega))
  | ((with_reducible refine aa (some 7) (.range 73 (.tmp 6)) ?_);go_must (refine wpList_range_own _ rfl _ _ rfl 79 83 cz dc rdV m2 qn D rfl HOW.out ?_);intro w2 hrg0 hg0 hs0))
 have hb2:Below w1.heap.size w1 w2:=⟨hg0.os,hg0.tape,hg0.output,hg0.size,fun k hk=>hg0.block k hk (by simp)⟩
 have HST:Hid (Row w2 gm (u8s (List.replicate 50 0)) 5∧UpdS [gm] w1 w2):=⟨Row.below' HGM.out hb2,UpdS.of_below hb2⟩
 have HRG:Hid (w2.ranges Tryz.prog 79 rdV m2 w1.heap.size qn D (Maps.has D) (Maps.size D)):=hrg0
 clear hrg0 hg0 hs0 hb2 HOW hm
 go_frame
 go_loopw [8] (fun _ wr=>∃(left:Lit→Bool) (cnt:Nat) (M:List Int),wr.ranges Tryz.prog 79 rdV m2 w1.heap.size qn D left cnt∧Row wr gm (u8s M) 5∧Marks (gone kl left p) 400 M∧UpdS [gm] w1 wr)
  (fun _ wr=>wr.rangeLeft m2 w1.heap.size)
 case atStart=>exact ⟨_,_,List.replicate 50 0,HRG.out,HST.out.1,by rw [HGS.out ()];exact Marks.none,HST.out.2⟩
 case round =>
  obtain ⟨left,cnt,M,hrg,hdr,hmk,hur⟩:=hrel
  have HR:Hid (Row wr gm (u8s M) 5):=hdr
  have HMK:Hid (Marks (gone kl left p) 400 M):=hmk
  have HUR:Hid (UpdS [gm] w1 wr):=hur
  have HRR:Hid (wr.ranges Tryz.prog 79 rdV m2 w1.heap.size qn D left cnt):=hrg
  clear hdr hur HRG HST hrg hmk
  go_wp2_with (first
   | (at_next;refine wpList_next_ranges _ rfl _ rfl 79 cz rdV idxV id (fun key kl hk=>by obtain ⟨i,_,hi⟩:=IsK.of hk;exact ⟨i,hi⟩) (fun v _ _=>⟨v,rfl⟩) m2 w1.heap.size qn D _ _ rfl HRR.out ?_ ?_)
   | go_in)
  ·intro _ hl0
   have HL0:Hid (∀kl,left kl=false):=hl0
   clear hl0
   go_wp2_with fail
   go_ret
   have hk:=HMK.out
   rw [gone_done HL0.out] at hk
   have e:M=marksOf p:=hk.same (dL p 400 (by decide))
   exact ⟨gm,rfl,HGE.out,by rw [←e];exact HR.out,b7 HB1.out HUR.out (fun q hq=>by simp only [List.mem_cons,List.not_mem_nil,or_false] at hq;rw [hq];exact HGE.out)⟩
  ·intro x c k yd yp w3 cnt3 hkey hlk hv hat hrg3 hlt hg3 hs3 hen
   obtain ⟨i,hik,hxi⟩:=IsK.of hkey
   rw [hxi] at hen ⊢
   clear hxi hkey
   have hhas:Maps.has D k=true:=has_true_of_atKey hat
   rw [HPM.out.has i k hik] at hhas
   obtain ⟨s,hps⟩:=Option.isSome_iff_exists.1 hhas
   have hc:c=stV s:=by
    have h1:=HPM.out.val i k s hik hps (.held c)
    rw [hat] at h1
    have h2:=eH hv
    rw [h2] at h1
    simpa using h1
   subst hc
   have hi4:=HPM.out.dom i s hps
   have HRG3:Hid (w3.ranges Tryz.prog 79 rdV m2 w1.heap.size qn D (fun z=>left z && !z.sameKey k) cnt3):=hrg3
   have HLT:Hid (cnt3<cnt):=hlt
   have HRL:Hid (wr.rangeLeft m2 w1.heap.size=cnt):=HRR.out.left_eq
   have HM3:Hid (Row w3 gm (u8s M) 5):=row_keepB HR.out (hg3.block gm HR.out.lt (fun e=>by have:=HGLT.out;simp only [Option.some.injEq] at e;omega))
   have HU3:Hid (UpdS [gm] w1 w3):=by
    refine ⟨hg3.os.trans HUR.out.os,hg3.tape.trans HUR.out.tape,hg3.output.trans HUR.out.output,Nat.le_trans HUR.out.size hg3.size,fun z hz hn=>?_⟩
    refine (hg3.block z (Nat.lt_of_lt_of_le hz HUR.out.size) (fun e=>?_)).trans (HUR.out.block z hz hn)
    simp only [Option.some.injEq] at e
    omega
   have HGO:Hid (∀_:Unit,upf (gone kl left p) i (some s)=gone kl (fun z=>left z && !z.sameKey k) p):=fun _=>kI HKL.out HPM.out hik hps
   have HED:Hid (∀_:Unit,edOf (four (i:Int))=(i:Int)):=fun _=>edOf_four i (by omega)
   have HFB:Hid (Bytes (four (i:Int))):=hP _
   have hm:=Mem.start w3
   clear hlk hv hat hg3 hs3 hhas hps HR HUR hrg3 HRR hlt
   go_wp2_with (first
    | ((with_reducible refine aa (some 4) (.alloc 79) ?_);refine ae _ dV hm ?_;clear hm;intro w4 ga hm)
    | ((with_reducible refine aa none (.store 79 (.tmp 4) (.tmp 11)) ?_);refine af 0 (u8s (four (i:Int))) hm rfl rfl rfl 4 bY (by simp [ab]) (rfl) (aj _) ?_;clear hm;intro w6 hm)
    | ((with_reducible refine aa (some 13) (.slice 79 (.tmp 4) none none none) ?_);refine fG 4 cT av 0 4 (by omega) (by omega) rfl (Or.inr ⟨rfl,rfl⟩) (Or.inr ⟨rfl,rfl⟩) ?_)
    | (go_at_call 52;refine (bigN_any (four (i:Int)) _ (Nat.le_refl 4) HFB.out _ (aB (hm.get 0 rfl) rfl (Nat.le_refl _))).mono ?_;rintro e w7 ⟨he,hb⟩;rw [HED.out ()] at he;subst he;replace hm:=hm.call hb;clear hb)
    | (go_at_call 101;refine (lq gm 0 50 50 [] M i 1 1 rfl HMK.out.len HMK.out.bytes (by omega) (by omega) (by omega) _ (Row.below' HM3.out hm.below)).mono ?_;rintro e w8 ⟨rfl,hs8,hu8⟩;have HS8:Hid (Row w8 gm (u8s (putT M i 1 1)) 5):=hs8;have HU8:Hid (Upd gm w7 w8):=hu8;clear hs8 hu8))
   have hrg8:=World.ranges.kept (World.ranges.kept HRG3.out (be hm.below) (by simp) (by simp)) (ef HU8.out) (by intro e;exact HGN2.out (Option.some.inj e).symm) (by intro e;have h9:=Option.some.inj e;have:=HGLT.out;omega)
   have HRG8:Hid (w8.ranges Tryz.prog 79 rdV m2 w1.heap.size qn D (fun z=>left z && !z.sameKey k) cnt3):=hrg8
   have HRL8:Hid (w8.rangeLeft m2 w1.heap.size=cnt3):=hrg8.left_eq
   have HUF:Hid (UpdS [gm] w1 w8):=(HU3.out.trans (UpdS.of_below hm.below)).trans (UpdS.of_upd HU8.out (by simp))
   clear hrg8
   try go_frame
   go_roundw
   case rel=>exact ⟨_,_,_,HRG8.out,HS8.out,by rw [←HGO.out ()];exact HMK.out.one i s hi4,HUF.out⟩
   case measure=>rw [HRL8.out,HRL.out];exact HLT.out
theorem marks_nil (w:World) :
  Calls Tryz.prog 130 #[.map none] w fun e w'=>∃g,e=.returned (.slice (some ⟨g,0,none⟩) 50 50)∧w.heap.size≤g∧Row w' g (u8s (marksOf (fun _=>none))) 5∧Below w.heap.size w w':=by
 have hr:=fun W=>run_range_nilMap (P:=Tryz.prog) W 73 79 83 dc
 have hm:=Mem.start w
 have HZ0:Hid (List.replicate 50 (Value.int .u8 0)=u8s (List.replicate 50 0)):=by show _=_;simp [u8s]
 go_enter Tryz.func130,Tryz.ntmps130
 go_wp2_with (first
  | ((with_reducible refine aa (some 5) (.makeSlice 22 (.const (.int .i64 50)) (.const (.int .i64 50))) ?_);go_must (refine el _ ai _ aD rfl 50 rfl (by first|rfl|omega) rfl (by first|rfl|omega) (by omega) hm ?_);clear hm;intro w1 gm hm;rw [HZ0.out] at hm))
 have hnx:=fun ty=>run_next_nilMap (P:=Tryz.prog) w1 ty 0 0 #[]
 refine wp_loop_rounds 1 ?_
 rw [rounds_succ]
 go_wp2_with fail
 go_ret
 have hf:=hm.fresh _ (List.mem_cons_self ..)
 have hb:=hm.below
 have h0:=hm.get 0 rfl
 have e:List.replicate 50 (0:Int)=marksOf (fun _=>none):=Marks.none.same (dL _ 400 (by decide))
 rw [e] at h0
 exact ⟨gm,rfl,by simpa using hf,Row.alloc h0 _,hb.trans (Below.mono ((Below.refl _ _).alloc (Nat.le_refl _) _) hb.size)⟩
theorem iY {P:Program} {a:Act} {w:World} {dst:Option Tmp} {typ:TypeId} {pos:String} {aft:Array Edge} {gd:Option (Nat×Bool)} {ty:TypeId} {x:Operand} {lo hi:Option Operand} (n:Nat) {elem:TypeId} (hu:P.underlying ty=some (.array n elem)) (hs:(P.info? elem).map (·.size)=some 1) {g o:Nat} (l m:Nat) (hlm:l+m≤n) (hln:l<n) (hx:a.eval x=.pointer (some ⟨g,o,none⟩))
  (hlo:lo.map a.eval=some (.int .i64 l)∨(lo.map a.eval=none∧l=0)) (hhi:hi.map a.eval=some (.int .i64 (l+m:Nat))∨(hi.map a.eval=none∧l+m=n)) :
  (execOp a.eval {dst:=dst,op:=.slice ty x lo hi none,type:=typ,pos:=pos,after:=aft,guard:=gd}).run P w=.ok (.value (.slice (some ⟨g,o+l,none⟩) m (n - l))) w:=by
 have hr:=run_sla (P:=P) w hu hs g o l m hlm hln (lo.map a.eval) (hi.map a.eval) hlo hhi
 unfold execOp
 simp only [hx,Option.map_none,hr,Sem.run_bind,Sem.run_pure,Result.andThen_ok]
theorem withGens_map (A:List Int) (u:Value) (m2:Nat) (p:Sts) (hal:A.length=2048) (hab:Bytes A) (w:World) (hu:SlOld w u A) (h2:StM w m2 p) :
  Calls Tryz.prog 74 #[u,.map (some m2)] w fun e w'=>∃g,e=.returned (.slice (some ⟨g,0,none⟩) 2048 2048)∧w.heap.size≤g∧Row w' g (u8s (wg A p)) 5∧Below w.heap.size w w':=by
 obtain ⟨kl,hkl⟩:=kl_ex
 have HKL:Hid (∀i,i<4294967296→IsK i (kl i)):=hkl
 obtain ⟨qn,D,ho,pm⟩:=h2
 have HO0:Hid (w.ownsMap Tryz.prog 79 rdV m2 qn D):=ho
 have HPM:Hid (SM D p):=pm
 have HGS:Hid (∀_:Unit,gone kl (Maps.has D) p=fun _=>none):=fun _=>jv hkl pm (fun i h=>h)
 have hm:=Mem.start w
 clear ho pm hkl
 have HU:Hid (SlOld w u A):=hu
 have HAL:Hid (A.length=2048):=hal
 have HAB:Hid (Bytes A):=hab
 have HFL:Hid (∀_:Unit,fillTo A 2048=A):=fun _=>by rw [fillTo,List.take_of_length_le (by omega),hal];simp
 clear hu hal hab
 go_enter Tryz.func74,Tryz.ntmps74
 go_wp2_with (first
  | (go_at_call 71;refine (aV A _ 2048 2048 HAL.out (by omega) _ HU.out).mono ?_;rintro e w1 ⟨gm,rfl,hge,hr0,hb⟩;rw [HFL.out ()] at hr0;replace hm:=hm.callNew hb hr0 hge;clear hge hr0 hb;have HOW:Hid (w1.ownsMap Tryz.prog 79 rdV m2 qn D):=HO0.out.kept (be hm.below) (by simp);have HGM:Hid (Row w1 gm (u8s A) 5):=hm.get 0 rfl;have HGE:Hid (w.heap.size≤gm):=(by have h9:=hm.fresh _ (List.mem_cons_self ..);show _≤_;simpa using h9);have HGLT:Hid (gm<w1.heap.size):=(hm.get 0 rfl).lt;have HB1:Hid (Below w.heap.size w w1):=hm.below;have HGN2:Hid (gm≠m2):=(fun e=>by obtain ⟨es,c,hmp,_⟩:=HO0.out;have h1:=(Array.getElem?_eq_some_iff.1 hmp).1;have h2:=HGE.out;omega))
  | ((with_reducible refine aa (some 11) (.range 73 (.tmp 10)) ?_);go_must (refine wpList_range_own _ rfl _ _ rfl 79 83 cz dc rdV m2 qn D rfl HOW.out ?_);intro w2 hrg0 hg0 hs0))
 have hb2:Below w1.heap.size w1 w2:=⟨hg0.os,hg0.tape,hg0.output,hg0.size,fun k hk=>hg0.block k hk (by simp)⟩
 have HST:Hid (Row w2 gm (u8s A) 5∧UpdS [gm] w1 w2):=⟨Row.below' HGM.out hb2,UpdS.of_below hb2⟩
 have HRG:Hid (w2.ranges Tryz.prog 79 rdV m2 w1.heap.size qn D (Maps.has D) (Maps.size D)):=hrg0
 clear hrg0 hg0 hs0 hb2 HOW hm
 go_frame
 go_loopw [12] (fun _ wr=>∃(left:Lit→Bool) (cnt:Nat) (M:List Int),wr.ranges Tryz.prog 79 rdV m2 w1.heap.size qn D left cnt∧Row wr gm (u8s (A.take 299++M)) 5∧GTab (A.drop 299) (gone kl left p) M∧UpdS [gm] w1 wr)
  (fun _ wr=>wr.rangeLeft m2 w1.heap.size)
 case atStart=>exact ⟨_,_,A.drop 299,HRG.out,by rw [List.take_append_drop];exact HST.out.1,by rw [HGS.out ()];exact GTab.start (Bytes.drop HAB.out 299),HST.out.2⟩
 case round =>
  obtain ⟨left,cnt,M,hrg,hdr,hmk,hur⟩:=hrel
  have HR:Hid (Row wr gm (u8s (A.take 299++M)) 5):=hdr
  have HMK:Hid (GTab (A.drop 299) (gone kl left p) M):=hmk
  have HUR:Hid (UpdS [gm] w1 wr):=hur
  have HRR:Hid (wr.ranges Tryz.prog 79 rdV m2 w1.heap.size qn D left cnt):=hrg
  clear hdr hur HRG HST hrg hmk
  go_wp2_with (first
   | (at_next;refine wpList_next_ranges _ rfl _ rfl 79 cz rdV idxV id (fun key kl hk=>by obtain ⟨i,_,hi⟩:=IsK.of hk;exact ⟨i,hi⟩) (fun v _ _=>⟨v,rfl⟩) m2 w1.heap.size qn D _ _ rfl HRR.out ?_ ?_)
   | go_in)
  ·intro _ hl0
   have HL0:Hid (∀kl,left kl=false):=hl0
   clear hl0
   go_wp2_with fail
   go_ret
   have hk:=HMK.out
   rw [gone_done HL0.out] at hk
   have e:M=tabL (A.drop 299) p 400:=hk.same (wg_tab HAL.out HAB.out (fun i g h=>HPM.out.dom i g h))
   exact ⟨gm,rfl,HGE.out,by unfold wg;rw [←e];exact HR.out,b7 HB1.out HUR.out (fun q hq=>by simp only [List.mem_cons,List.not_mem_nil,or_false] at hq;rw [hq];exact HGE.out)⟩
  ·intro x c k yd yp w3 cnt3 hkey hlk hv hat hrg3 hlt hg3 hs3 hen
   obtain ⟨i,hik,hxi⟩:=IsK.of hkey
   rw [hxi] at hen ⊢
   clear hxi hkey
   have hhas:Maps.has D k=true:=has_true_of_atKey hat
   rw [HPM.out.has i k hik] at hhas
   obtain ⟨s,hps⟩:=Option.isSome_iff_exists.1 hhas
   have hc:c=stV s:=by
    have h1:=HPM.out.val i k s hik hps (.held c)
    rw [hat] at h1
    have h2:=eH hv
    rw [h2] at h1
    simpa using h1
   subst hc
   have hi4:=HPM.out.dom i s hps
   have HRG3:Hid (w3.ranges Tryz.prog 79 rdV m2 w1.heap.size qn D (fun z=>left z && !z.sameKey k) cnt3):=hrg3
   have HLT:Hid (cnt3<cnt):=hlt
   have HRL:Hid (wr.rangeLeft m2 w1.heap.size=cnt):=HRR.out.left_eq
   have HM3:Hid (Row w3 gm (u8s (A.take 299++M)) 5):=row_keepB HR.out (hg3.block gm HR.out.lt (fun e=>by have:=HGLT.out;simp only [Option.some.injEq] at e;omega))
   have HU3:Hid (UpdS [gm] w1 w3):=by
    refine ⟨hg3.os.trans HUR.out.os,hg3.tape.trans HUR.out.tape,hg3.output.trans HUR.out.output,Nat.le_trans HUR.out.size hg3.size,fun z hz hn=>?_⟩
    refine (hg3.block z (Nat.lt_of_lt_of_le hz HUR.out.size) (fun e=>?_)).trans (HUR.out.block z hz hn)
    simp only [Option.some.injEq] at e
    omega
   have HGO:Hid (∀_:Unit,upf (gone kl left p) i (some s)=gone kl (fun z=>left z && !z.sameKey k) p):=fun _=>kI HKL.out HPM.out hik hps
   have HED:Hid (∀_:Unit,edOf (four (i:Int))=(i:Int)):=fun _=>edOf_four i (by omega)
   have HFB:Hid (Bytes (four (i:Int))):=hP _
   have hm:=Mem.start w3
   clear hlk hv hat hg3 hs3 hhas hps HR HUR hrg3 HRR hlt
   go_wp2_with (first
    | ((with_reducible refine aa (some 6) (.alloc 79) ?_);refine ae _ dV hm ?_;clear hm;intro w4 ga hm)
    | ((with_reducible refine aa (some 7) (.alloc 83) ?_);refine ae _ cU hm ?_;clear hm;intro w5 gb hm)
    | ((with_reducible refine aa none (.store 79 (.tmp 6) (.tmp 15)) ?_);refine af 1 (u8s (four (i:Int))) hm rfl rfl rfl 4 bY (by simp [ab]) (rfl) (aj _) ?_;clear hm;intro w6a hm)
    | ((with_reducible refine aa none (.store 83 (.tmp 7) (.tmp 16)) ?_);refine af 0 (stC s) hm rfl rfl rfl 1 dG rfl rfl (ei _) ?_;clear hm;intro w7a hm))
   obtain ⟨at_,hat_⟩:∃z:Nat,z=29 * i:=⟨_,rfl⟩
   have HAT:Hid (∀_:Unit,at_=29 * i):=fun _=>hat_
   have hatb:at_+29≤11600:=by omega
   have HWA:IntKind.i64.wrap ((i:Int) * 29)=(at_:Int):=by rw [show (i:Int) * 29=(at_:Int) by omega];exact cQ at_ (by omega)
   have HWB:wrap64 ((i:Int) * 29)=(at_:Int):=by rw [show (i:Int) * 29=(at_:Int) by omega];exact fb _ (by omega)
   have HMI:(i:Int) * 29=(at_:Int):=by omega
   have HWI:IntKind.i64.wrap (i:Int)=(i:Int):=cQ i (by omega)
   have HWT:IntKind.i64.wrap (at_:Int)=(at_:Int):=cQ at_ (by omega)
   have HML:Hid (M.length=1749):=by show _=_;rw [HMK.out.len,List.length_drop,HAL.out]
   have HA0:Hid ((A.take 299).length=299):=by show _=_;rw [List.length_take,HAL.out];rfl
   clear hat_
   refine ar ?_
   refine am (T:=fun W=>Mem w3 [gm] W [(gb,stC s,83),(ga,u8s (four (i:Int)),79)]) (by kernel_rfl) hm ?_
   clear hm
   intro w7b hm
   refine aT 0 (v:=.slice (some ⟨gm,0,none⟩) 2048 2048) rfl (by kernel_rfl) rfl (fun W _=>by go_simp) hm.but ?_
   go_simp
   refine aT 1 (v:=.slice (some ⟨gm,299,none⟩) 1749 1749) rfl (by kernel_rfl) rfl (fun W _=>cV (g:=gm) (o:=0) (len:=2048) (cap:=2048) ai av 299 1749 (by omega) (by omega) rfl rfl rfl rfl) hm.but ?_
   go_simp
   refine aT 2 (v:=.slice (some ⟨ga,0,none⟩) 4 4) rfl (by kernel_rfl) rfl (fun W _=>iY 4 cT av 0 4 (by omega) (by omega) rfl (Or.inr ⟨rfl,rfl⟩) (Or.inr ⟨rfl,rfl⟩)) hm.but ?_
   go_simp
   refine aT 6 (v:=.pointer (some ⟨gb,0,none⟩)) rfl (by kernel_rfl) rfl (fun W _=>by go_simp) hm.but ?_
   go_simp
   refine aT 7 (v:=.int .u64 (s:Int)) rfl (by kernel_rfl) rfl (fun W hW=>aE (.int .u64 (s:Int)) (((Mem.get hW 0 rfl).cell 0).trans rfl) rfl aN) hm.but ?_
   go_simp
   refine aO 3 (by kernel_rfl) rfl rfl ?_
   intro K hK
   go_wp2_with (go_at_call 52;refine (bigN_any (four (i:Int)) _ (Nat.le_refl 4) HFB.out _ (aB (hm.get 1 rfl) rfl (Nat.le_refl _))).mono ?_;rintro e w7c ⟨he,hb⟩;rw [HED.out ()] at he;subst he;replace hm:=hm.call hb;clear hb)
   refine hK _ _ hm.but ?_
   clear hK K
   refine aT 4 (v:=.int .i64 (i:Int)) rfl (by kernel_rfl) rfl (fun W _=>by go_simp) hm.but ?_
   go_simp
   refine aT 5 (v:=.int .i64 (at_:Int)) rfl (by kernel_rfl) rfl (fun W _=>by go_simp) hm.but ?_
   go_simp
   refine aO 8 (by kernel_rfl) rfl rfl ?_
   intro K hK
   go_wp2_with (go_at_call 101;refine (lq gm 299 1749 1749 (A.take 299) M at_ 29 s HA0.out HML.out HMK.out.bytes (by omega) (by omega) (by omega) _ (Row.below' HM3.out hm.below)).mono ?_;rintro e w8 ⟨rfl,hs8,hu8⟩;have HS8:Hid (Row w8 gm (u8s (A.take 299++putT M at_ s 29)) 5):=hs8;have HU8:Hid (Upd gm w7c w8):=hu8;have HM8:Hid (Mem w3 [gm] w8 [(gb,stC s,83),(ga,u8s (four (i:Int)),79)]):=Mem.updOut (hm.but (S:=[gm])) (Row.below' HM3.out hm.below) (by intro r hr;simp only [List.mem_cons,List.not_mem_nil,or_false] at hr;rcases hr with rfl|rfl<;>simp) (by simp) hu8;clear hs8 hu8)
   refine hK _ _ HM8.out ?_
   clear hK K
   refine wpAnyH_done (by kernel_rfl) ?_ _
   simp only [endsIn]
   go_wp2_with fail
   have hrg8:=World.ranges.kept (World.ranges.kept HRG3.out (be hm.below) (by simp) (by simp)) (ef HU8.out) (by intro e;exact HGN2.out (Option.some.inj e).symm) (by intro e;have h9:=Option.some.inj e;have:=HGLT.out;omega)
   have HRG8:Hid (w8.ranges Tryz.prog 79 rdV m2 w1.heap.size qn D (fun z=>left z && !z.sameKey k) cnt3):=hrg8
   have HRL8:Hid (w8.rangeLeft m2 w1.heap.size=cnt3):=hrg8.left_eq
   have HUF:Hid (UpdS [gm] w1 w8):=(HU3.out.trans (UpdS.of_below hm.below)).trans (UpdS.of_upd HU8.out (by simp))
   clear hrg8
   try go_frame
   go_roundw
   case rel=>exact ⟨_,_,putT M at_ s 29,HRG8.out,HS8.out,by rw [←HGO.out ()];have h9:=HMK.out.one i s (by rw [List.length_drop,HAL.out];omega);rw [HAT.out ()];exact h9,HUF.out⟩
   case measure=>rw [HRL8.out,HRL.out];exact HLT.out
theorem withGens_nil (A:List Int) (u:Value) (hal:A.length=2048) (w:World) (hu:SlOld w u A) :
  Calls Tryz.prog 74 #[u,.map none] w fun e w'=>∃g,e=.returned (.slice (some ⟨g,0,none⟩) 2048 2048)∧w.heap.size≤g∧Row w' g (u8s (wg A (fun _=>none))) 5∧Below w.heap.size w w':=by
 have hr:=fun W=>run_range_nilMap (P:=Tryz.prog) W 73 79 83 dc
 have hm:=Mem.start w
 have HU:Hid (SlOld w u A):=hu
 have HAL:Hid (A.length=2048):=hal
 have HFL:Hid (∀_:Unit,fillTo A 2048=A):=fun _=>by rw [fillTo,List.take_of_length_le (by omega),hal];simp
 clear hu hal
 go_enter Tryz.func74,Tryz.ntmps74
 go_wp2_with (first
  | (go_at_call 71;refine (aV A _ 2048 2048 HAL.out (by omega) _ HU.out).mono ?_;rintro e w1 ⟨gm,rfl,hge,hr0,hb⟩;rw [HFL.out ()] at hr0;replace hm:=hm.callNew hb hr0 hge;clear hge hr0 hb))
 have hnx:=fun ty=>run_next_nilMap (P:=Tryz.prog) w1 ty 0 0 #[]
 refine wp_loop_rounds 1 ?_
 rw [rounds_succ]
 go_wp2_with fail
 go_ret
 have hf:=hm.fresh _ (List.mem_cons_self ..)
 have hb:=hm.below
 have h0:=hm.get 0 rfl
 rw [wg_none]
 exact ⟨gm,rfl,by simpa using hf,Row.alloc h0 _,hb.trans (Below.mono ((Below.refl _ _).alloc (Nat.le_refl _) _) hb.size)⟩
def StV (w:World) (mv:Value) (p:Sts):Prop:=(mv=.map none∧p=fun _=>none)∨∃m,mv=.map (some m)∧StM w m p
theorem StV.below {w w':World} {mv:Value} {p:Sts} (h:StV w mv p) (hb:Below w.heap.size w w'):StV w' mv p:=by
 rcases h with h|⟨m,rfl,h⟩
 ·exact Or.inl h
 ·exact Or.inr ⟨m,rfl,h.below hb⟩
theorem ld {a:Act} {w:World} {dst:Option Tmp} {typ:TypeId} {pos:String} {aft:Array Edge} {gd:Option (Nat×Bool)} {x k:Operand} {mv:Value} {p:Sts} (h:StV w mv p) (i:Nat) (hi:i<4294967296) (hx:a.eval x=mv) (hk:a.eval k=idxV i) :
  (execOp a.eval {dst:=dst,op:=.lookup 73 x k true,type:=typ,pos:=pos,after:=aft,guard:=gd}).run Tryz.prog w=.ok (.value (.tuple #[stV ((p i).getD 0),.bool (p i).isSome])) w:=by
 rcases h with ⟨rfl,rfl⟩|⟨m,rfl,h⟩
 ·exact exec_nillook i hi hx hk
 ·exact eK h i hi hx hk
theorem marksOf_any (mv:Value) (p:Sts) (w:World) (h:StV w mv p) :
  Calls Tryz.prog 130 #[mv] w fun e w'=>∃g,e=.returned (.slice (some ⟨g,0,none⟩) 50 50)∧w.heap.size≤g∧Row w' g (u8s (marksOf p)) 5∧Below w.heap.size w w':=by
 rcases h with ⟨rfl,rfl⟩|⟨m,rfl,h⟩
 ·exact marks_nil w
 ·exact marks_map m p w h
theorem withGens_any (A:List Int) (u mv:Value) (p:Sts) (hal:A.length=2048) (hab:Bytes A) (w:World) (hu:SlOld w u A) (h:StV w mv p) :
  Calls Tryz.prog 74 #[u,mv] w fun e w'=>∃g,e=.returned (.slice (some ⟨g,0,none⟩) 2048 2048)∧w.heap.size≤g∧Row w' g (u8s (wg A p)) 5∧Below w.heap.size w w':=by
 rcases h with ⟨rfl,rfl⟩|⟨m,rfl,h⟩
 ·exact withGens_nil A u hal w hu
 ·exact withGens_map A u m p hal hab w hu h
open Go Go.RowKit
theorem mX (s:ByteArray):Lib.byteCells s.data.toList=u8s (strB s):=by
 simp [Lib.byteCells,u8s,strB]
theorem li {a:Act} {w:World} {dst:Option Tmp} {typ:TypeId} {pos:String} {aft:Array Edge} {gd:Option (Nat×Bool)} {x hi:Operand} (s:ByteArray) (n:Nat) (hn:s.size=n) (hx:a.eval x=.string s) (hh:a.eval hi=.int .i64 (n:Int)) :
  (execOp a.eval {dst:=dst,op:=.slice 9 x none (some hi) none,type:=typ,pos:=pos,after:=aft,guard:=gd}).run Tryz.prog w=.ok (.value (.string s)) w:=by
 have h1:(Instr.slice 9 (.string s) none (some (.int .i64 (n:Int))) none).run Tryz.prog w=.ok (.string s) w:=by
  have h2:=run_slice_string_h (P:=Tryz.prog) w 9 s aR .i64 (n:Int) (by omega) (by omega)
  rw [h2,Int.toNat_natCast,←hn,ByteArray.extract_zero_size]
 unfold execOp
 simp only [hx,hh,Instr.sliceAt,run_underlying aR,Option.map_some,Option.map_none,h1,Sem.run_bind,Sem.run_pure,Result.andThen_ok]
section
variable {P:Program} {ops:Array Oper} {rest:List Oper} {a:Act} {w w0:World} {Q:Exit→Act→World→Prop} {dst:Option Tmp} {typ:TypeId} {pos:String} {aft:Array Edge} {S:List Nat} {rows:List (Nat×List Value×TypeId)}
theorem wpl_cpStr {d x:Operand} {dT sT:TypeId} (i:Nat) {g:Nat} {l:List Value} {t:TypeId} (off dLen dCap:Nat) (s:ByteArray) (new:List Value) (hm:Mem w0 S w rows) (hi:rows[i]?=some (g,l,t))
  (hd:a.eval d=.slice (some ⟨g,off,none⟩) dLen dCap) (hs:a.eval x=.string s) (elem:TypeId) (hu:P.underlying dT=some (.slice elem)) (hsz:(P.info? elem).map (·.size)=some 1)
  (hle:s.size≤dLen) (hfit:off+s.size≤l.length) (hnew:splice l off (u8s (strB s))=new)
  (h:∀w',Mem w0 S w' (rows.set i (g,new,t))→wpList P ops Q rest (a.put dst (.int .i64 s.size)) w') :
  wpList P ops Q ({dst:=dst,op:=.call {callee:=.builtin .copy,args:=#[d,x],argTypes:=#[dT,sT]},type:=typ,pos:=pos,after:=aft,guard:=none}::rest) a w:=by
 have hr:=hm.get i hi
 have hrun:=Lib.run_copy_row_string (P:=P) w dT sT typ elem g off dLen dCap s l.toArray t hu hsz hr hle (by simpa using hfit)
 have e:(l.take off++Lib.byteCells s.data.toList++l.drop (off+s.size))=new:=by
  rw [←hnew,mX]
  unfold splice
  rw [ab,bo,List.append_assoc]
 rw [e] at hrun
 refine wpList_plain rfl fun K hK=>?_
 have hh:=hK _ _ (h _ (hm.upd i hi (Upd.setRow g w new.toArray) (hr.setRow new)))
 unfold Oper.wp execOp
 simp only [resolve,invoke,builtin,Sem.run_bind,Sem.run_pure,Result.andThen_ok,List.map_toArray,List.map_cons,List.map_nil,hd,hs,hrun]
 exact hh
end
end Go.Proofs.YtdkkdkgdaambiaaGreatDoor
