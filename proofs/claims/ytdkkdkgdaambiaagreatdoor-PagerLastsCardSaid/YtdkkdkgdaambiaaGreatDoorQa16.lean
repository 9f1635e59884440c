import Derived.Test.YtdkkdkgdaambiaaGreatDoorQa12
import Derived.Test.YtdkkdkgdaambiaaGreatDoorQa15
set_option maxRecDepth 100000
namespace Go.Proofs.YtdkkdkgdaambiaaGreatDoor
open Go Go.RowKit
def secOf (l:List Int) (i:Nat):List Int:=(l.drop (64 * i)).take 64
theorem secOf_length {l:List Int} {i:Nat} (h:64 * i+64≤l.length):(secOf l i).length=64:=by simp [secOf];omega
theorem secOf_bytes {l:List Int} (h:Bytes l) (i:Nat):Bytes (secOf l i):=(h.drop _).take _
def rewL (d:Dk) (old new:List Int):Nat→Dk
 | 0=>d
 | i+1=>if secOf new i=secOf old i then rewL d old new i else (rewL d old new i).write (i:Int) (secOf new i)
theorem write_still {d:Dk} (h1:d.off=false) (h2:d.left=0) (i:Int) (bs:List Int):(d.write i bs).off=false∧(d.write i bs).left=0∧(d.write i bs).n=d.n∧(d.write i bs).kept=d.kept:=by
 unfold Dk.write
 split
 ·simp [Dk.put,Dk.step,h1,h2]
 ·simp [Dk.step,h1,h2]
theorem write_steps (d:Dk) (i:Int) (bs:List Int):(d.write i bs).steps=d.steps+1:=by
 unfold Dk.write
 split<;>rfl
theorem rewL_still {d:Dk} (h1:d.off=false) (h2:d.left=0) (old new:List Int):∀k,(rewL d old new k).off=false∧(rewL d old new k).left=0∧(rewL d old new k).n=d.n∧(rewL d old new k).kept=d.kept
 | 0=>⟨h1,h2,rfl,rfl⟩
 | k+1=>by
  obtain ⟨a,b,c,e⟩:=rewL_still h1 h2 old new k
  rw [rewL]
  split
  ·exact ⟨a,b,c,e⟩
  ·obtain ⟨a',b',c',e'⟩:=write_still a b (k:Int) (secOf new k)
   exact ⟨a',b',by rw [c',c],by rw [e',e]⟩
theorem rewL_steps (d:Dk) (old new:List Int):∀k,d.steps≤(rewL d old new k).steps∧(rewL d old new k).steps≤d.steps+k
 | 0=>by simp [rewL]
 | k+1=>by
  have ih:=rewL_steps d old new k
  rw [rewL]
  split
  ·omega
  ·rw [write_steps];omega
theorem rewL_ok {d:Dk} (h:d.Ok) (old:List Int) {new:List Int} (hb:Bytes new):∀k,(rewL d old new k).Ok
 | 0=>h
 | k+1=>by
  rw [rewL]
  split
  ·exact rewL_ok h old hb k
  ·exact Dk.write_ok (rewL_ok h old hb k) (secOf_bytes hb k)
/-- A whole sector written stands there. -/
theorem write_now {d:Dk} (hk:d.Ok) (h1:d.off=false) (h2:d.left=0) {i:Nat} (hi:i<d.n) {bs:List Int} (hb:bs.length=64) (j:Nat):(d.write (i:Int) bs).now j=if j=i then bs else d.now j:=by
 have hs:d.step.off=false:=by simp [Dk.step,h1,h2]
 have hf:d.fits (i:Int) bs=true:=by
  unfold Dk.fits
  rw [decide_eq_true (by omega),decide_eq_true (by omega)]
  rfl
 have ho:over (d.now i) bs=bs:=by
  unfold over
  rw [hb,List.drop_of_length_le (by rw [hk.now hi];exact Nat.le_refl _),List.append_nil]
 unfold Dk.write
 rw [if_pos ⟨hs,hf⟩,show ((i:Int)).toNat=i by omega,ho]
 unfold Dk.now Dk.put
 by_cases hj:j=i
 ·subst hj
  simp [upf_same]
 ·rw [if_neg hj]
  simp only [upf_other d.step.pend _ hj]
  rfl
theorem rewL_now {d:Dk} (hk:d.Ok) (h1:d.off=false) (h2:d.left=0) {old new:List Int} (hb:Bytes new) (hl:new.length=2048) (hn:32≤d.n) (hold:∀i,i<32→d.now i=secOf old i) (j:Nat):∀k,k≤32→(rewL d old new k).now j=if j<k then secOf new j else d.now j
 | 0,_=>by rw [rewL,if_neg (by omega)]
 | k+1,hkk=>by
  have ih:=rewL_now hk h1 h2 hb hl hn hold j k (by omega)
  obtain ⟨a,b,c,_⟩:=rewL_still h1 h2 old new k
  rw [rewL]
  split
  ·rename_i he
   rw [ih]
   by_cases hj:j=k
   ·subst hj
    rw [if_neg (by omega),if_pos (by omega),hold j (by omega),he]
   ·by_cases hj2:j<k
    ·rw [if_pos hj2,if_pos (by omega)]
    ·rw [if_neg hj2,if_neg (by omega)]
  ·rw [write_now (rewL_ok hk old hb k) a b (by rw [c];omega) (secOf_length (by omega)),ih]
   by_cases hj:j=k
   ·subst hj
    rw [if_pos rfl,if_pos (by omega)]
   ·rw [if_neg hj]
    by_cases hj2:j<k
    ·rw [if_pos hj2,if_pos (by omega)]
    ·rw [if_neg hj2,if_neg (by omega)]
def rewArea (d:Dk) (old new:List Int):Dk:=(rewL d old new 32).flush
theorem rewArea_now {d:Dk} (hk:d.Ok) (h1:d.off=false) (h2:d.left=0) {old new:List Int} (hb:Bytes new) (hl:new.length=2048) (hn:32≤d.n) (hold:∀i,i<32→d.now i=secOf old i) (j:Nat) :
  (rewArea d old new).now j=if j<32 then secOf new j else d.now j:=by
 obtain ⟨a,b,_,_⟩:=rewL_still h1 h2 old new 32
 have hs:(rewL d old new 32).step.off=false:=by simp [Dk.step,a,b]
 unfold rewArea Dk.flush
 rw [if_neg (by rw [hs];simp)]
 show ((fun _=>none:Nat→Option (List Int)) j).getD ((rewL d old new 32).step.now j)=_
 rw [Dk.step_now]
 exact rewL_now hk h1 h2 hb hl hn hold j 32 (by omega)
theorem rewArea_still {d:Dk} (h1:d.off=false) (h2:d.left=0) (old new:List Int):(rewArea d old new).off=false∧(rewArea d old new).left=0∧(rewArea d old new).n=d.n∧(∀i,(rewArea d old new).pend i=none)∧d.steps≤(rewArea d old new).steps∧(rewArea d old new).steps≤d.steps+33:=by
 obtain ⟨a,b,c,_⟩:=rewL_still h1 h2 old new 32
 have hs:(rewL d old new 32).step.off=false:=by simp [Dk.step,a,b]
 have hst:=rewL_steps d old new 32
 unfold rewArea Dk.flush
 rw [if_neg (by rw [hs];simp)]
 refine ⟨hs,by show (if 0<(rewL d old new 32).left then _ else _)=0;rw [if_neg (by omega)];exact b,c,fun _=>rfl,?_,?_⟩
 ·show d.steps≤(rewL d old new 32).steps+1;omega
 ·show (rewL d old new 32).steps+1≤d.steps+33;omega
theorem rewArea_ok {d:Dk} (h:d.Ok) (old:List Int) {new:List Int} (hb:Bytes new):(rewArea d old new).Ok:=by
 unfold rewArea Dk.flush
 split
 ·exact Dk.step_ok (rewL_ok h old hb 32)
 ·exact Dk.flushed_ok (Dk.step_ok (rewL_ok h old hb 32))
def area (b0 table b1:List Int):List Int:=b0++(table++b1)
def place (l:List Int) (at_:Nat):List Int:=(l.drop (1749 * at_)).take 299
def tableOf (l:List Int):List Int:=(l.drop 299).take 1450
theorem place_zero {b0 table b1:List Int} (h:b0.length=299):place (area b0 table b1) 0=b0:=by
 unfold place area
 rw [Nat.mul_zero,List.drop_zero,←h,List.take_left]
theorem place_one {b0 table b1:List Int} (h0:b0.length=299) (ht:table.length=1450) (h1:b1.length=299):place (area b0 table b1) 1=b1:=by
 unfold place area
 rw [Nat.mul_one,show 1749=299+1450 by rfl,←List.drop_drop,drop_pre h0,drop_pre ht,List.take_of_length_le (by omega)]
theorem area_parts {l:List Int} (h:l.length=2048):area (place l 0) (tableOf l) (place l 1)=l:=by
 unfold area place tableOf
 rw [Nat.mul_zero,List.drop_zero,Nat.mul_one]
 have e:(l.drop 1749).take 299=(l.drop 299).drop 1450:=by
  rw [List.drop_drop,List.take_of_length_le (by rw [List.length_drop];omega)]
 rw [e,List.take_append_drop,List.take_append_drop]
open Go Go.RowKit Go.Maps
set_option maxHeartbeats 1000000 in
theorem equal_any (xs ys:List Int) (u v:Value) (hx:Bytes xs) (hy:Bytes ys) (w:World) (hu:SlOld w u xs) (hv:SlOld w v ys) :
  Calls Tryz.prog 102 #[u,v] w fun e w'=>e=.returned (.bool (decide (xs=ys)))∧w'=w:=by
 obtain ⟨p,cap,rfl,hc1,hs1⟩:=hu
 obtain ⟨q,cap2,rfl,hc2,hs2⟩:=hv
 have HU:Hid (SlOld w (.slice p xs.length cap) xs):=⟨p,cap,rfl,hc1,hs1⟩
 have HV:Hid (SlOld w (.slice q ys.length cap2) ys):=⟨q,cap2,rfl,hc2,hs2⟩
 have HE:Hid ((strOf xs==strOf ys)=decide (xs=ys)):=strOf_eq hx hy
 clear hs1 hs2 hx hy
 go_enter Tryz.func102,Tryz.ntmps102
 go_wp2_with (first
  | ((with_reducible refine at_op (some 6) (.convert 22 9 (.tmp 5)) ?_);go_must (refine wpl_execG (.string (strOf xs)) rfl (exec_tostr un_bs un_u8 un_strT xs rfl HU.out) ?_))
  | ((with_reducible refine at_op (some 8) (.convert 22 9 (.tmp 7)) ?_);go_must (refine wpl_execG (.string (strOf ys)) rfl (exec_tostr un_bs un_u8 un_strT ys rfl HV.out) ?_))
  | ((with_reducible refine at_op (some 9) (.binOp .eql 9 (.tmp 6) (.tmp 8) 9) ?_);go_must (refine wpl_execG (.bool (decide (xs=ys))) rfl (exec_eqsB (strOf xs) (strOf ys) _ rfl rfl HE.out) ?_)))
 go_ret
 exact ⟨rfl,rfl⟩
set_option maxHeartbeats 1000000 in
theorem blockFrom_any (at_:Nat) (h:at_≤1) (w:World) :
  Calls Tryz.prog 106 #[.int .i64 (at_:Int)] w fun e w'=>e=.returned (.int .i64 ((1749 * at_:Nat):Int))∧w'=w:=by
 have HW:Hid (∀_:Unit,((1749 * at_:Nat):Int)=(at_:Int) * 1749):=fun _=>by omega
 go_enter Tryz.func106,Tryz.ntmps106
 go_wp2_with fail
 go_ret
 exact ⟨by rw [HW.out ()];rfl,rfl⟩
def withB (l:List Int) (at_:Nat) (b:List Int):List Int:=splice l (1749 * at_) b
theorem withB_length {l b:List Int} {at_:Nat} (hl:l.length=2048) (ha:at_≤1) (hb:b.length=299):(withB l at_ b).length=2048:=by
 simp [withB,splice];omega
theorem withB_bytes {l b:List Int} (hl:Bytes l) (hb:Bytes b) (at_:Nat):Bytes (withB l at_ b):=hl.splice hb _
theorem withB_zero {l b:List Int} (hl:l.length=2048) (hb:b.length=299):withB l 0 b=area b (tableOf l) (place l 1):=by
 have h:=area_parts hl
 unfold withB
 conv=>lhs;rw [←h]
 have h0:(place l 0).length=299:=by simp [place];omega
 unfold splice area
 rw [Nat.mul_zero,List.take_zero,List.nil_append,Nat.zero_add,hb,drop_pre h0]
theorem withB_one {l b:List Int} (hl:l.length=2048) (hb:b.length=299):withB l 1 b=area (place l 0) (tableOf l) b:=by
 have h:=area_parts hl
 have e:area (place l 0) (tableOf l) (place l 1)=(place l 0++tableOf l)++place l 1:=by unfold area;rw [List.append_assoc]
 rw [e] at h
 have h0:(place l 0++tableOf l).length=1749:=by simp [place,tableOf];omega
 have h1:(place l 1).length=299:=by simp [place];omega
 unfold withB
 conv=>lhs;rw [←h]
 unfold splice area
 rw [Nat.mul_one,←h0,List.take_left,List.drop_of_length_le (by rw [List.length_append,h1,hb];exact Nat.le_refl _),List.append_nil,List.append_assoc]
set_option maxHeartbeats 1000000 in
theorem withBlock_any (l bs:List Int) (u v:Value) (at_:Nat) (ha:at_≤1) (hl:l.length=2048) (hbl:bs.length=299) (w:World) (hu:SlOld w u l) (hv:SlOld w v bs) :
  Calls Tryz.prog 77 #[u,.int .i64 (at_:Int),v] w fun e w'=>∃g,e=.returned (.slice (some ⟨g,0,none⟩) 2048 2048)∧w.heap.size≤g∧Row w' g (u8s (withB l at_ bs)) 5∧Below w.heap.size w w':=by
 obtain ⟨q,cap,rfl,hc,hs⟩:=hv
 have HV:Hid (SlOld w (.slice q 299 cap) bs):=by have h9:SlOld w (.slice q bs.length cap) bs:=⟨q,cap,rfl,hc,hs⟩;rw [hbl] at h9;exact h9
 have HU:Hid (SlOld w u l):=hu
 have HL:Hid (l.length=2048):=hl
 have hm:=Mem.start w
 have hfl:fillTo l 2048=l:=by rw [fillTo,List.take_of_length_le (by omega),hl];simp
 have HFL:Hid (∀_:Unit,fillTo l 2048=l):=fun _=>hfl
 obtain ⟨o,ho⟩:∃o:Nat,o=1749 * at_:=⟨_,rfl⟩
 have hob:o≤1749:=by omega
 have HO:Hid (∀_:Unit,1749 * at_=o):=fun _=>ho.symm
 have HNE:Hid (splice (u8s l) o (u8s (bs.take 299))=u8s (withB l at_ bs)):=by
  show _=_
  rw [List.take_of_length_le (by omega),withB,←ho]
  simp [splice,u8s]
 have HLU:Hid ((u8s l).length=2048):=by show _=_;rw [u8s_length,hl]
 rw [hbl]
 clear hu hs hl hbl hc hfl ho
 go_enter Tryz.func77,Tryz.ntmps77
 go_wp2_with (first
  | (go_at_call 71;refine (filledUp_any l _ 2048 2048 HL.out (by omega) _ HU.out).mono ?_;rintro e w1 ⟨g,rfl,hge,hr,hb⟩;rw [HFL.out ()] at hr;replace hm:=hm.callNew hb hr hge;clear hge hr hb)
  | (go_at_call 106;refine (blockFrom_any at_ ha _).mono ?_;rintro e w2 ⟨he,hw⟩;rw [HO.out ()] at he;subst he;replace hw:=hw.symm;subst hw)
  | ((with_reducible refine at_op (some 13) (.slice 22 (.tmp 10) (some (.tmp 12)) none none) ?_);go_must (refine wpl_execG (.slice (cutLo (some ⟨g,0,none⟩) 2048 o) (2048 - o) (2048 - o)) rfl (exec_sLo un_bs sz_u8 o (by omega) rfl rfl rfl) ?_);rw [show cutLo (some ⟨g,0,none⟩) 2048 o=some ⟨g,o,none⟩ by unfold cutLo;rw [if_neg (by omega)];simp [add_at]])
  | ((with_reducible refine at_op (some 15) (.call {callee:=.builtin .copy,args:=#[.tmp 13,.tmp 14],argTypes:=#[22,22]}) ?_);go_must (refine wpl_cp 0 bs 299 (u8s (withB l at_ bs)) hm rfl rfl rfl _ un_bs sz_u8 (SlOld.mem HV.out hm) (by show 299=min 299 (2048 - o);omega) (by have:=HLU.out;omega) HNE.out ?_);clear hm;intro w3 hm))
 go_ret
 have hf:=hm.fresh _ (List.mem_cons_self ..)
 exact ⟨g,rfl,by simpa using hf,hm.get 0 rfl,hm.below⟩
open Go Go.RowKit
theorem bitL_drop (l:List Int) (n j:Nat):bitL (l.drop n) j=bitL l (8 * n+j):=by
 unfold bitL
 rw [show (8 * n+j) / 8=n+j / 8 by omega,show (8 * n+j) % 8=j % 8 by omega]
 simp only [List.getD_eq_getElem?_getD,List.getElem?_drop]
theorem bitL_app {a b:List Int} {j:Nat} (h:j / 8<a.length):bitL (a++b) j=bitL a j:=by
 unfold bitL
 simp only [List.getD_eq_getElem?_getD]
 rw [List.getElem?_append_left h]
def wg (A:List Int) (f:Gens):List Int:=A.take 299++tabL (A.drop 299) f 400
def Dom (f:Gens):Prop:=∀i g,f i=some g→i<400
theorem wg_tab {A:List Int} (hl:A.length=2048) (hb:Bytes A) {f:Gens} (hf:Dom f):GTab (A.drop 299) f (tabL (A.drop 299) f 400):=by
 have h:=tabL_tab (hb.drop 299) f 400 (by rw [List.length_drop,hl];omega)
 have e:(fun k=>if k<400 then f k else none)=f:=by
  funext k
  by_cases hk:k<400
  ·rw [if_pos hk]
  ·rw [if_neg hk]
   cases hfk:f k with
   | none=>rfl
   | some g=>exact absurd (hf k g hfk) hk
 rw [e] at h
 exact h
theorem wg_length {A:List Int} (hl:A.length=2048) (hb:Bytes A) {f:Gens} (hf:Dom f):(wg A f).length=2048:=by
 have h:=(wg_tab hl hb hf).len
 rw [List.length_drop,hl] at h
 rw [wg,List.length_append,h,List.length_take,hl]
 omega
theorem wg_bytes {A:List Int} (hl:A.length=2048) (hb:Bytes A) {f:Gens} (hf:Dom f):Bytes (wg A f):=(hb.take _).append (wg_tab hl hb hf).bytes
theorem wg_drop {A:List Int} (hl:A.length=2048) (f:Gens):(wg A f).drop 299=tabL (A.drop 299) f 400:=by
 unfold wg
 exact drop_pre (by rw [List.length_take,hl];omega)
theorem wg_get {A:List Int} (hl:A.length=2048) (hb:Bytes A) {f:Gens} (hf:Dom f) (i g:Nat) (h:f i=some g):getT ((wg A f).drop 299) (29 * i) 29=((g % 536870912:Nat):Int):=by
 have hi:=hf i g h
 rw [wg_drop hl,(wg_tab hl hb hf).get i g (by rw [List.length_drop,hl];omega) h]
theorem wg_zero {A:List Int} (hl:A.length=2048) (f:Gens):place (wg A f) 0=place A 0:=by
 unfold place wg
 rw [Nat.mul_zero,List.drop_zero,List.drop_zero,List.take_append_of_le_length (by rw [List.length_take,hl];omega),List.take_take]
 rfl
theorem tab_tail {A:List Int} (hl:A.length=2048) (hb:Bytes A) {f:Gens} (hf:Dom f):(tabL (A.drop 299) f 400).drop 1450=(A.drop 299).drop 1450:=by
 have hg:=wg_tab hl hb hf
 have h1:=hg.len
 refine bits_ext (hg.bytes.drop _) ((hb.drop 299).drop 1450) (by rw [List.length_drop,List.length_drop,h1]) fun j hj=>?_
 rw [List.length_drop,h1,List.length_drop,hl] at hj
 rw [bitL_drop,bitL_drop,hg.bit _ (by rw [List.length_drop,hl];omega)]
 unfold tabBit
 cases hfj:f ((8 * 1450+j) / 29) with
 | none=>rfl
 | some g=>exact absurd (hf _ g hfj) (by omega)
theorem wg_one {A:List Int} (hl:A.length=2048) (hb:Bytes A) {f:Gens} (hf:Dom f):place (wg A f) 1=place A 1:=by
 unfold place
 rw [Nat.mul_one,show (1749:Nat)=299+1450 by rfl,←List.drop_drop,←List.drop_drop,wg_drop hl,tab_tail hl hb hf]
theorem wg_place {A:List Int} (hl:A.length=2048) (hb:Bytes A) {f:Gens} (hf:Dom f) {at_:Nat} (ha:at_<2):place (wg A f) at_=place A at_:=by
 have h:at_=0∨at_=1:=by omega
 rcases h with rfl | rfl
 ·exact wg_zero hl f
 ·exact wg_one hl hb hf
theorem place_length {A:List Int} (hl:A.length=2048) {at_:Nat} (ha:at_<2):(place A at_).length=299:=by
 have h:at_=0∨at_=1:=by omega
 rcases h with rfl | rfl<;>simp [place,hl]
theorem place_bytes {A:List Int} (hb:Bytes A) (at_:Nat):Bytes (place A at_):=(hb.drop _).take _
theorem withB_place {A b:List Int} (hl:A.length=2048) (hb:b.length=299) {at_:Nat} (ha:at_<2):place (withB A at_ b) at_=b:=by
 have ht:(tableOf A).length=1450:=by simp [tableOf,hl]
 have h:at_=0∨at_=1:=by omega
 rcases h with rfl | rfl
 ·rw [withB_zero hl hb,place_zero hb]
 ·rw [withB_one hl hb,place_one (place_length hl (by omega)) ht hb]
theorem withB_other {A b:List Int} (hl:A.length=2048) (hb:b.length=299) {at_:Nat} (ha:at_<2):place (withB A at_ b) (1 - at_)=place A (1 - at_):=by
 have ht:(tableOf A).length=1450:=by simp [tableOf,hl]
 have h:at_=0∨at_=1:=by omega
 rcases h with rfl | rfl
 ·rw [withB_zero hl hb,place_one hb ht (place_length hl (by omega))]
 ·rw [withB_one hl hb]
  exact place_zero (place_length hl (by omega))
theorem withB_table {A b:List Int} (hl:A.length=2048) (hb:b.length=299) {at_:Nat} (ha:at_<2) {i:Nat} (hi:i<400):getT ((withB A at_ b).drop 299) (29 * i) 29=getT (A.drop 299) (29 * i) 29:=by
 have h:at_=0∨at_=1:=by omega
 have ht:(tableOf A).length=1450:=by simp [tableOf,hl]
 have e0:A.drop 299=tableOf A++place A 1:=by
  have h9:=area_parts hl
  conv=>lhs;rw [←h9]
  unfold area
  exact drop_pre (place_length hl (by omega))
 have e1:∃c,(withB A at_ b).drop 299=tableOf A++c:=by
  rcases h with rfl | rfl
  ·rw [withB_zero hl hb];exact ⟨_,drop_pre hb⟩
  ·rw [withB_one hl hb];exact ⟨_,drop_pre (place_length hl (by omega))⟩
 obtain ⟨c,e1⟩:=e1
 rw [e0,e1]
 refine getT_congr 29 fun j hj=>?_
 rw [bitL_app (by rw [ht];omega),bitL_app (by rw [ht];omega)]
structure SupIs (kS kN:List Int) (pg:Nat) (A:List Int) (at_ limit:Nat) (root:Int) (mt:List Int) (f:Gens):Prop where
 blk:place A at_=blockN kS kN pg limit (bodyN root mt f) f
 has:∀i g,f i=some g→getT (A.drop 299) (29 * i) 29=((g % 536870912:Nat):Int)
 kept:Kept f pg limit
 mt:Bytes mt∧mt.length≤200
 root:0≤root∧root<4294967296
def rootAt (kS b:List Int):Int:=numL ((bodyAt kS b).take 4)
def metaL (cs:List Int):List Int:=if numL (cs.take 2)≤200 then (cs.drop 2).take (numL (cs.take 2)).toNat else []
def metaAt (kS b:List Int):List Int:=metaL ((bodyAt kS b).drop 54)
def marksAt (kS b:List Int):List Int:=((bodyAt kS b).drop 4).take 50
theorem states_of {f:Gens} {pg limit:Nat} (hk:Kept f pg limit) (hp:pg≤400) {table:List Int} (ht:∀i g,f i=some g→getT table (29 * i) 29=((g % 536870912:Nat):Int)):statesN pg limit (marksOf f) table=f:=by
 funext i
 unfold statesN
 by_cases hi:i<pg
 ·rw [marksOf_bit f i (by omega)]
  cases hf:f i with
  | none=>simp
  | some g =>
   have h1:=hk.gen i g hf
   rw [ht i g hf,genB_back h1.1 h1.2 hk.lim]
   simp [hi]
 ·rw [if_neg (fun h=>hi h.1),hk.out i (by omega)]
section
variable {kS kN:List Int} {pg:Nat} {A:List Int} {at_ limit:Nat} {root:Int} {mt:List Int} {f:Gens}
theorem SupIs.lim (h:SupIs kS kN pg A at_ limit root mt f):limitAt (place A at_)=(limit:Int):=by
 have:=h.kept.lim
 rw [h.blk]
 exact limitAt_block kS kN pg (by omega) _ _
theorem SupIs.body (h:SupIs kS kN pg A at_ limit root mt f):bodyAt kS (place A at_)=bodyN root mt f:=by
 rw [h.blk]
 exact bodyAt_block kS kN pg limit (bodyN_bytes root h.mt.1 f) (bodyN_length root mt f) f
theorem SupIs.states (h:SupIs kS kN pg A at_ limit root mt f) (hp:pg≤400):statesN pg (limitAt (place A at_)) (marksAt kS (place A at_)) (A.drop 299)=f:=by
 unfold marksAt
 rw [h.lim,h.body,bodyN_marks root mt f h.mt.2]
 exact states_of h.kept hp h.has
theorem SupIs.valid (h:SupIs kS kN pg A at_ limit root mt f) (hp:pg≤400):validN kS kN pg (place A at_) (A.drop 299)=true:=by
 have h0:=h.kept.lim
 have hs:=h.states hp
 unfold marksAt at hs
 unfold validN
 rw [hs,h.lim,h.body,h.blk,opens_block kS kN pg (by omega),nonceAt_block,decide_eq_true rfl]
 rfl
theorem SupIs.rootIs (h:SupIs kS kN pg A at_ limit root mt f):rootAt kS (place A at_)=root:=by
 unfold rootAt
 rw [h.body,bodyN_root root mt f h.mt.2,numL_be4 h.root]
theorem SupIs.metaIs (h:SupIs kS kN pg A at_ limit root mt f):metaAt kS (place A at_)=mt:=by
 unfold metaAt metaL
 have h1:=h.mt.2
 rw [h.body,bodyN_meta root mt f h.mt.2]
 have e:(be2 (mt.length:Int)++mt++List.replicate (207 - mt.length) 0).take 2=be2 (mt.length:Int):=by
  rw [List.append_assoc,List.take_append_of_le_length (by simp [be2_length]),List.take_of_length_le (by simp [be2_length])]
 rw [e,numL_be2 (by omega),if_pos (by omega),List.append_assoc,drop_pre (be2_length _),Int.toNat_natCast,List.take_left]
end
def keepA (kS kN:List Int) (pg:Nat) (A:List Int) (at_ limit:Nat) (root:Int) (mt:List Int) (f:Gens):List Int:=withB (wg A f) at_ (blockN kS kN pg limit (bodyN root mt f) f)
section
variable {kS kN:List Int} {pg:Nat} {A:List Int} {at_ limit limit':Nat} {root root':Int} {mt mt':List Int} {f f':Gens}
theorem keepA_length (hl:A.length=2048) (hb:Bytes A) (hf:Dom f) (ha:at_<2):(keepA kS kN pg A at_ limit root mt f).length=2048 :=
 withB_length (wg_length hl hb hf) (by omega) (blockN_length kS kN pg limit (bodyN_length root mt f) f)
theorem keepA_bytes (hl:A.length=2048) (hb:Bytes A) (hf:Dom f) (hm:Bytes mt):Bytes (keepA kS kN pg A at_ limit root mt f) :=
 withB_bytes (wg_bytes hl hb hf) (blockN_bytes kS kN pg limit (bodyN_bytes root hm f) f) _
theorem keepA_sup (hl:A.length=2048) (hb:Bytes A) (hf:Dom f) (ha:at_<2) (hk:Kept f pg limit) (hm:Bytes mt∧mt.length≤200) (hr:0≤root∧root<4294967296):SupIs kS kN pg (keepA kS kN pg A at_ limit root mt f) at_ limit root mt f:=by
 have h1:=wg_length hl hb hf
 have h2:=blockN_length kS kN pg limit (bodyN_length root mt f) f
 refine ⟨withB_place h1 h2 ha,fun i g hg=>?_,hk,hm,hr⟩
 unfold keepA
 rw [withB_table h1 h2 ha (hf i g hg),wg_get hl hb hf i g hg]
theorem keepA_else (hl:A.length=2048) (hb:Bytes A) (hf:Dom f) (ha:at_<2):place (keepA kS kN pg A at_ limit root mt f) (1 - at_)=place A (1 - at_):=by
 unfold keepA
 rw [withB_other (wg_length hl hb hf) (blockN_length kS kN pg limit (bodyN_length root mt f) f) ha,wg_place hl hb hf (by omega)]
theorem keepA_other (hl:A.length=2048) (hb:Bytes A) (hf:Dom f) (ha:at_<2) (hs:SupIs kS kN pg A (1 - at_) limit' root' mt' f') (hc:∀i g,f' i=some g→f i=some g):SupIs kS kN pg (keepA kS kN pg A at_ limit root mt f) (1 - at_) limit' root' mt' f':=by
 have h1:=wg_length hl hb hf
 have h2:=blockN_length kS kN pg limit (bodyN_length root mt f) f
 refine ⟨?_,fun i g hg=>?_,hs.kept,hs.mt,hs.root⟩
 ·rw [keepA_else hl hb hf ha];exact hs.blk
 ·unfold keepA
  rw [withB_table h1 h2 ha (hf i g (hc i g hg)),wg_get hl hb hf i g (hc i g hg)]
theorem keepA_lim (hl:A.length=2048) (hb:Bytes A) (hf:Dom f) (ha:at_<2) (hlt:limit<18446744073709551616) {m:Int} (h0:limitAt (place A 0)≤m) (h1:limitAt (place A 1)≤m) (hm:m≤limit) (j:Nat) (hj:j<2):limitAt (place (keepA kS kN pg A at_ limit root mt f) j)≤limit:=by
 by_cases h:j=at_
 ·subst h
  unfold keepA
  rw [withB_place (wg_length hl hb hf) (blockN_length kS kN pg limit (bodyN_length root mt f) f) ha,limitAt_block kS kN pg (by omega)]
  exact Int.le_refl _
 ·rw [show j=1 - at_ by omega,keepA_else hl hb hf ha]
  have h9:1 - at_=0∨1 - at_=1:=by omega
  rcases h9 with h9 | h9<;>rw [h9]<;>omega
end
def keepD (d:Dk) (A A1 A2:List Int):Dk:=rewArea (rewArea d A A1) A1 A2
theorem secs_sec {f:Nat→List Int} {i:Nat} (h:∀i,i<32→(f i).length=64) (hi:i<32):secOf (secs f 0 32) i=f i:=by
 unfold secOf secs
 have h9:=flatK_at (fun i=>f (0+i)) 32 i (fun j hj=>by rw [Nat.zero_add];exact h j hj) hi
 rw [Nat.mul_comm,h9,Nat.zero_add]
theorem sec_secs {f:Nat→List Int} {A:List Int} (hl:A.length=2048) (h:∀i,i<32→f i=secOf A i):secs f 0 32=A:=by
 have h9:secs f 0 32=flatK (fun i=>(A.drop (64 * i)).take 64) 32:=flatK_congr _ _ _ (fun i hi=>by rw [Nat.zero_add];exact h i hi)
 rw [h9,flat_cut A 32 (by omega),List.take_of_length_le (by omega)]
theorem keepD_now {d:Dk} (hk:d.Ok) (h1:d.off=false) (h2:d.left=0) {A A1 A2:List Int} (hA:secs d.now 0 32=A) (hl1:A1.length=2048) (hb1:Bytes A1) (hl2:A2.length=2048) (hb2:Bytes A2) (hn:32≤d.n) :
  secs (keepD d A A1 A2).now 0 32=A2∧∀j,32≤j→(keepD d A A1 A2).now j=d.now j:=by
 obtain ⟨a,b,c,_⟩:=rewArea_still h1 h2 A A1
 have hold:∀i,i<32→d.now i=secOf A i:=fun i hi=>by rw [←hA,secs_sec (fun i hi=>hk.now (by omega)) hi]
 have hn1:=rewArea_now hk h1 h2 hb1 hl1 hn hold
 have hk1:=rewArea_ok hk A hb1
 have hn2:=rewArea_now hk1 a b hb2 hl2 (by rw [c];exact hn) (fun i hi=>by rw [hn1,if_pos hi])
 refine ⟨sec_secs hl2 fun i hi=>?_,fun j hj=>?_⟩
 ·show (rewArea (rewArea d A A1) A1 A2).now i=_
  rw [hn2,if_pos hi]
 ·show (rewArea (rewArea d A A1) A1 A2).now j=_
  rw [hn2,if_neg (by omega),hn1,if_neg (by omega)]
theorem keepD_on {d:Dk} {k:Nat} (h1:d.off=false) (h2:d.left=0) (hs0:0≤d.steps) (hs1:d.steps≤k) (A A1 A2:List Int):(keepD d A A1 A2).off=false∧(keepD d A A1 A2).left=0∧0≤(keepD d A A1 A2).steps∧(keepD d A A1 A2).steps≤((k+66:Nat):Int)∧(keepD d A A1 A2).n=d.n∧∀i,(keepD d A A1 A2).pend i=none:=by
 obtain ⟨a,b,c,_,e,g⟩:=rewArea_still h1 h2 A A1
 obtain ⟨a',b',c',p',e',g'⟩:=rewArea_still a b A1 A2
 unfold keepD
 exact ⟨a',b',by omega,by omega,by rw [c',c],p'⟩
open Go Go.RowKit
def edOf (b:List Int):Int:=big4 (b.getD 0 0) (b.getD 1 0) (b.getD 2 0) (b.getD 3 0)
set_option maxHeartbeats 1000000 in
theorem get_eight (cs:List Int) (v:Value) (n:Nat) (hn:cs.length=n) (hk:8≤n) (hl:n≤30000) (hcb:Bytes cs) (w:World) (hv:SlOld w v cs) :
  Calls Tryz.prog 83 #[v,.int .i64 8] w fun e w'=>∃g,e=.returned (.tuple #[.int .u64 (numL (cs.take 8)),.slice (some ⟨g,0,none⟩) (n - 8) (n - 8),.int .i64 0])∧w.heap.size≤g∧Row w' g (u8s (cs.drop 8)) 5∧Below w.heap.size w w':=by
 obtain ⟨p,cap,rfl,hcap⟩:=hv.len
 have HV:Hid (SlOld w (.slice p cs.length cap) cs):=hv
 clear hv
 rw [hn] at hcap HV ⊢
 have HB:Hid _:=hcb
 clear hcb
 have HDL:Hid ((cs.drop 8).length=n - 8):=by show _=_;rw [List.length_drop,hn]
 have hm:=Mem.start w
 obtain ⟨X,hX⟩:∃X,X=numL (cs.take 8):=⟨_,rfl⟩
 have HX:Hid (∀_:Unit,numL (cs.take 8)=X):=fun _=>hX.symm
 rw [←hX]
 clear hX
 go_enter Tryz.func83,Tryz.ntmps83
 go_wp2_with (first
  | (go_at_call 96;refine (held_eight _).mono ?_;rintro e w1 ⟨rfl,rfl⟩))
 refine wp_ends0 ?_
 refine anyH_start (T:=fun W=>Mem w1 [] W []) (by kernel_rfl) hm ?_
 clear hm
 intro w2 hm
 refine aT 0 (v:=.slice p n cap) rfl (by kernel_rfl) rfl (fun W _=>by go_simp) hm ?_
 go_simp
 refine aT 1 (v:=.int .i64 8) rfl (by kernel_rfl) rfl (fun W _=>by go_simp) hm ?_
 go_simp
 refine aT 4 (v:=.slice p n cap) rfl (by kernel_rfl) rfl (fun W _=>by go_simp) hm ?_
 go_simp
 refine aT 5 (v:=.int .i64 8) rfl (by kernel_rfl) rfl (fun W _=>by go_simp) hm ?_
 go_simp
 refine aT 2 (v:=.slice (cutHi p cap) 8 cap) rfl (by kernel_rfl) rfl (fun W _=>exec_sHi un_bs sz_u8 8 (by omega) rfl rfl rfl) hm ?_
 go_simp
 refine aT 6 (v:=.slice (cutLo p cap 8) (n - 8) (cap - 8)) rfl (by kernel_rfl) rfl (fun W _=>exec_sLo un_bs sz_u8 8 (by omega) rfl rfl rfl) hm ?_
 go_simp
 refine aO 3 (by kernel_rfl) rfl rfl ?_
 intro K hK
 go_wp2_with (go_at_call 110;refine (number_any (cs.take 8) _ 8 (by rw [List.length_take,hn];omega) (by omega) (Bytes.take HB.out 8) _ (old_hi (SlOld.mem HV.out hm) 8 (by omega))).mono ?_;rintro e w3 ⟨he,rfl⟩;rw [HX.out ()] at he;subst he)
 refine hK _ _ hm ?_
 clear hK K
 refine aO 7 (by kernel_rfl) rfl rfl ?_
 intro K hK
 go_wp2_with (go_at_call 97;refine (longer_gen (cs.drop 8) _ 0 (by rw [HDL.out];omega) (by omega) _ (old_lo (SlOld.mem HV.out hm) 8 (by omega))).mono ?_;rintro e w4 ⟨g,he,hge,hr,hb⟩;rw [HDL.out,Nat.add_zero] at he;subst he;rw [List.replicate_zero,List.append_nil] at hr;replace hm:=hm.callNew hb hr hge;clear hb hr hge)
 refine hK _ _ hm.tail ?_
 clear hK K
 refine aT 8 (v:=.int .u64 X) rfl (by kernel_rfl) rfl (fun W _=>by go_simp) hm.tail ?_
 go_simp
 refine aT 9 (v:=.slice (some ⟨g,0,none⟩) (n - 8) (n - 8)) rfl (by kernel_rfl) rfl (fun W _=>by go_simp) hm.tail ?_
 go_simp
 refine aT 10 (v:=.int .i64 0) rfl (by kernel_rfl) rfl (fun W _=>by go_simp) hm.tail ?_
 go_simp
 refine wpAnyH_done (by kernel_rfl) ?_ _
 simp only [endsIn]
 go_wp2_with fail
 go_ret3
 have hf:=hm.fresh _ (List.mem_cons_self ..)
 exact ⟨g,rfl,by simpa using hf,hm.get 0 rfl,hm.below⟩
set_option maxHeartbeats 1000000 in
theorem get_two (cs:List Int) (v:Value) (n:Nat) (hn:cs.length=n) (hk:2≤n) (hl:n≤30000) (hcb:Bytes cs) (w:World) (hv:SlOld w v cs) :
  Calls Tryz.prog 83 #[v,.int .i64 2] w fun e w'=>∃g,e=.returned (.tuple #[.int .u64 (numL (cs.take 2)),.slice (some ⟨g,0,none⟩) (n - 2) (n - 2),.int .i64 0])∧w.heap.size≤g∧Row w' g (u8s (cs.drop 2)) 5∧Below w.heap.size w w':=by
 obtain ⟨p,cap,rfl,hcap⟩:=hv.len
 have HV:Hid (SlOld w (.slice p cs.length cap) cs):=hv
 clear hv
 rw [hn] at hcap HV ⊢
 have HB:Hid _:=hcb
 clear hcb
 have HDL:Hid ((cs.drop 2).length=n - 2):=by show _=_;rw [List.length_drop,hn]
 have hm:=Mem.start w
 obtain ⟨X,hX⟩:∃X,X=numL (cs.take 2):=⟨_,rfl⟩
 have HX:Hid (∀_:Unit,numL (cs.take 2)=X):=fun _=>hX.symm
 rw [←hX]
 clear hX
 go_enter Tryz.func83,Tryz.ntmps83
 go_wp2_with (first
  | (go_at_call 96;refine (held_two _).mono ?_;rintro e w1 ⟨rfl,rfl⟩))
 refine wp_ends0 ?_
 refine anyH_start (T:=fun W=>Mem w1 [] W []) (by kernel_rfl) hm ?_
 clear hm
 intro w2 hm
 refine aT 0 (v:=.slice p n cap) rfl (by kernel_rfl) rfl (fun W _=>by go_simp) hm ?_
 go_simp
 refine aT 1 (v:=.int .i64 2) rfl (by kernel_rfl) rfl (fun W _=>by go_simp) hm ?_
 go_simp
 refine aT 4 (v:=.slice p n cap) rfl (by kernel_rfl) rfl (fun W _=>by go_simp) hm ?_
 go_simp
 refine aT 5 (v:=.int .i64 2) rfl (by kernel_rfl) rfl (fun W _=>by go_simp) hm ?_
 go_simp
 refine aT 2 (v:=.slice (cutHi p cap) 2 cap) rfl (by kernel_rfl) rfl (fun W _=>exec_sHi un_bs sz_u8 2 (by omega) rfl rfl rfl) hm ?_
 go_simp
 refine aT 6 (v:=.slice (cutLo p cap 2) (n - 2) (cap - 2)) rfl (by kernel_rfl) rfl (fun W _=>exec_sLo un_bs sz_u8 2 (by omega) rfl rfl rfl) hm ?_
 go_simp
 refine aO 3 (by kernel_rfl) rfl rfl ?_
 intro K hK
 go_wp2_with (go_at_call 110;refine (number_any (cs.take 2) _ 2 (by rw [List.length_take,hn];omega) (by omega) (Bytes.take HB.out 2) _ (old_hi (SlOld.mem HV.out hm) 2 (by omega))).mono ?_;rintro e w3 ⟨he,rfl⟩;rw [HX.out ()] at he;subst he)
 refine hK _ _ hm ?_
 clear hK K
 refine aO 7 (by kernel_rfl) rfl rfl ?_
 intro K hK
 go_wp2_with (go_at_call 97;refine (longer_gen (cs.drop 2) _ 0 (by rw [HDL.out];omega) (by omega) _ (old_lo (SlOld.mem HV.out hm) 2 (by omega))).mono ?_;rintro e w4 ⟨g,he,hge,hr,hb⟩;rw [HDL.out,Nat.add_zero] at he;subst he;rw [List.replicate_zero,List.append_nil] at hr;replace hm:=hm.callNew hb hr hge;clear hb hr hge)
 refine hK _ _ hm.tail ?_
 clear hK K
 refine aT 8 (v:=.int .u64 X) rfl (by kernel_rfl) rfl (fun W _=>by go_simp) hm.tail ?_
 go_simp
 refine aT 9 (v:=.slice (some ⟨g,0,none⟩) (n - 2) (n - 2)) rfl (by kernel_rfl) rfl (fun W _=>by go_simp) hm.tail ?_
 go_simp
 refine aT 10 (v:=.int .i64 0) rfl (by kernel_rfl) rfl (fun W _=>by go_simp) hm.tail ?_
 go_simp
 refine wpAnyH_done (by kernel_rfl) ?_ _
 simp only [endsIn]
 go_wp2_with fail
 go_ret3
 have hf:=hm.fresh _ (List.mem_cons_self ..)
 exact ⟨g,rfl,by simpa using hf,hm.get 0 rfl,hm.below⟩
set_option maxHeartbeats 1000000 in
theorem get_four (cs:List Int) (v:Value) (n:Nat) (hn:cs.length=n) (hk:4≤n) (hl:n≤30000) (hcb:Bytes cs) (w:World) (hv:SlOld w v cs) :
  Calls Tryz.prog 83 #[v,.int .i64 4] w fun e w'=>∃g,e=.returned (.tuple #[.int .u64 (numL (cs.take 4)),.slice (some ⟨g,0,none⟩) (n - 4) (n - 4),.int .i64 0])∧w.heap.size≤g∧Row w' g (u8s (cs.drop 4)) 5∧Below w.heap.size w w':=by
 obtain ⟨p,cap,rfl,hcap⟩:=hv.len
 have HV:Hid (SlOld w (.slice p cs.length cap) cs):=hv
 clear hv
 rw [hn] at hcap HV ⊢
 have HB:Hid _:=hcb
 clear hcb
 have HDL:Hid ((cs.drop 4).length=n - 4):=by show _=_;rw [List.length_drop,hn]
 have hm:=Mem.start w
 obtain ⟨X,hX⟩:∃X,X=numL (cs.take 4):=⟨_,rfl⟩
 have HX:Hid (∀_:Unit,numL (cs.take 4)=X):=fun _=>hX.symm
 rw [←hX]
 clear hX
 go_enter Tryz.func83,Tryz.ntmps83
 go_wp2_with (first
  | (go_at_call 96;refine (held_four _).mono ?_;rintro e w1 ⟨rfl,rfl⟩))
 refine wp_ends0 ?_
 refine anyH_start (T:=fun W=>Mem w1 [] W []) (by kernel_rfl) hm ?_
 clear hm
 intro w2 hm
 refine aT 0 (v:=.slice p n cap) rfl (by kernel_rfl) rfl (fun W _=>by go_simp) hm ?_
 go_simp
 refine aT 1 (v:=.int .i64 4) rfl (by kernel_rfl) rfl (fun W _=>by go_simp) hm ?_
 go_simp
 refine aT 4 (v:=.slice p n cap) rfl (by kernel_rfl) rfl (fun W _=>by go_simp) hm ?_
 go_simp
 refine aT 5 (v:=.int .i64 4) rfl (by kernel_rfl) rfl (fun W _=>by go_simp) hm ?_
 go_simp
 refine aT 2 (v:=.slice (cutHi p cap) 4 cap) rfl (by kernel_rfl) rfl (fun W _=>exec_sHi un_bs sz_u8 4 (by omega) rfl rfl rfl) hm ?_
 go_simp
 refine aT 6 (v:=.slice (cutLo p cap 4) (n - 4) (cap - 4)) rfl (by kernel_rfl) rfl (fun W _=>exec_sLo un_bs sz_u8 4 (by omega) rfl rfl rfl) hm ?_
 go_simp
 refine aO 3 (by kernel_rfl) rfl rfl ?_
 intro K hK
 go_wp2_with (go_at_call 110;refine (number_any (cs.take 4) _ 4 (by rw [List.length_take,hn];omega) (by omega) (Bytes.take HB.out 4) _ (old_hi (SlOld.mem HV.out hm) 4 (by omega))).mono ?_;rintro e w3 ⟨he,rfl⟩;rw [HX.out ()] at he;subst he)
 refine hK _ _ hm ?_
 clear hK K
 refine aO 7 (by kernel_rfl) rfl rfl ?_
 intro K hK
 go_wp2_with (go_at_call 97;refine (longer_gen (cs.drop 4) _ 0 (by rw [HDL.out];omega) (by omega) _ (old_lo (SlOld.mem HV.out hm) 4 (by omega))).mono ?_;rintro e w4 ⟨g,he,hge,hr,hb⟩;rw [HDL.out,Nat.add_zero] at he;subst he;rw [List.replicate_zero,List.append_nil] at hr;replace hm:=hm.callNew hb hr hge;clear hb hr hge)
 refine hK _ _ hm.tail ?_
 clear hK K
 refine aT 8 (v:=.int .u64 X) rfl (by kernel_rfl) rfl (fun W _=>by go_simp) hm.tail ?_
 go_simp
 refine aT 9 (v:=.slice (some ⟨g,0,none⟩) (n - 4) (n - 4)) rfl (by kernel_rfl) rfl (fun W _=>by go_simp) hm.tail ?_
 go_simp
 refine aT 10 (v:=.int .i64 0) rfl (by kernel_rfl) rfl (fun W _=>by go_simp) hm.tail ?_
 go_simp
 refine wpAnyH_done (by kernel_rfl) ?_ _
 simp only [endsIn]
 go_wp2_with fail
 go_ret3
 have hf:=hm.fresh _ (List.mem_cons_self ..)
 exact ⟨g,rfl,by simpa using hf,hm.get 0 rfl,hm.below⟩
set_option maxHeartbeats 1000000 in
theorem bigN_any (cs:List Int) (v:Value) (hl:4≤cs.length) (hcb:Bytes cs) (w:World) (hv:SlOld w v cs) :
  Calls Tryz.prog 52 #[v] w fun e w'=>e=.returned (.int .u32 (edOf cs))∧Below w.heap.size w w':=by
 obtain ⟨p,cap,rfl,hcap,hs⟩:=hv
 obtain ⟨b,off,rfl,hseg⟩:=hs (by omega)
 obtain ⟨h00,h01⟩:=Bytes.get hcb 0
 obtain ⟨h10,h11⟩:=Bytes.get hcb 1
 obtain ⟨h20,h21⟩:=Bytes.get hcb 2
 obtain ⟨h30,h31⟩:=Bytes.get hcb 3
 have HC:Hid (Seg w b off [cs.getD 0 0,cs.getD 1 0,cs.getD 2 0,cs.getD 3 0]):=seg_four hseg 0 (by omega)
 have hm:=Mem.start w
 unfold edOf
 obtain ⟨n,hn⟩:∃n,n=cs.length:=⟨_,rfl⟩
 rw [←hn] at hl hcap ⊢
 generalize cs.getD 0 0=c0 at *
 generalize cs.getD 1 0=c1 at *
 generalize cs.getD 2 0=c2 at *
 generalize cs.getD 3 0=c3 at *
 clear hseg hs hcb hn
 go_enter Tryz.func52,Tryz.ntmps52
 go_wp2_with (first
  | (go_at_call 86;refine (firstFour_long b off n cap [c0,c1,c2,c3] rfl hl _ (HC.out.mem hm (by simp))).mono ?_;rintro e w1 ⟨rfl,hb⟩;replace hm:=hm.call hb;clear hb)
  | ((with_reducible refine at_op (some 3) (.alloc 78) ?_);refine wpl_alloc _ zero_b4 hm ?_;clear hm;intro w2 g2 hm)
  | ((with_reducible refine at_op none (.store 78 (.tmp 3) (.tmp 5)) ?_);refine wpl_stw 0 (u8s [c0,c1,c2,c3]) hm rfl rfl rfl 4 sz_b4 (by simp [u8s_length]) (rfl) (u8s_one _) ?_;clear hm;intro w3 hm)
  | ((with_reducible refine at_op (some 7) (.load 5 (.tmp 6)) ?_);refine wpl_ldc 0 0 (.int .u8 c0) hm rfl rfl ag_u8 (rfl) ?_)
  | ((with_reducible refine at_op (some 11) (.load 5 (.tmp 10)) ?_);refine wpl_ldc 0 1 (.int .u8 c1) hm rfl rfl ag_u8 (rfl) ?_)
  | ((with_reducible refine at_op (some 16) (.load 5 (.tmp 15)) ?_);refine wpl_ldc 0 2 (.int .u8 c2) hm rfl rfl ag_u8 (rfl) ?_)
  | ((with_reducible refine at_op (some 21) (.load 5 (.tmp 20)) ?_);refine wpl_ldc 0 3 (.int .u8 c3) hm rfl rfl ag_u8 (rfl) ?_))
 go_ret
 exact ⟨rfl,hm.below⟩
end Go.Proofs.YtdkkdkgdaambiaaGreatDoor
