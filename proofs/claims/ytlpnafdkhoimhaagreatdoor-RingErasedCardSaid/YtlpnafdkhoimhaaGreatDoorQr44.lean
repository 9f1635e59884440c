import Derived.Test.YtlpnafdkhoimhaaGreatDoorQr33
import Derived.Test.YtlpnafdkhoimhaaGreatDoorQr40
import Derived.Test.YtlpnafdkhoimhaaGreatDoorQr10
set_option maxRecDepth 100000
set_option maxHeartbeats 4000000
namespace Go.Proofs.YtlpnafdkhoimhaaGreatDoor
open Go Go.RowKit Go.Sort Go.Maps
def kC:ByteArray:=⟨#[99]⟩
def chn:List (List ByteArray):=[[kA],[kA,kB],[kA,kB,kC]]
def chk (j:Nat):List ByteArray:=[kA,kB,kC].take (j+1)
theorem cg {j:Nat} (h:j<3):(chk j).length=j+1:=by simp [chk];omega
theorem chk_ok (j:Nat):PlOk (chk j):=jX (eK ⟨#[97,47,98,47,99]⟩ [kA,kB,kC] rfl) (j+1)
theorem chk_take {i j:Nat} (h:j≤i):(chk i).take (j+1)=chk j:=by
 unfold chk
 rw [List.take_take,show min (j+1) (i+1)=j+1 by omega]
theorem chk_up {j:Nat} (h:j<3):(chk j).dropLast=[kA,kB,kC].take j:=by
 have e:j=0∨j=1∨j=2:=by omega
 rcases e with rfl|rfl|rfl<;>rfl
theorem chk_inj {i j:Nat} (hi:i<3) (hj:j<3) (h:chk i=chk j):i=j:=by
 have:=congrArg List.length h
 rw [cg hi,cg hj] at this
 omega
def ChP (p:Pls) (n:Nat):Prop:=(∀j,j<3→lkp p (chk j)=if j<n then some (5+(j:Int)) else none)∧(∀qs,(lkp p qs).isSome=true→∃j,j<3∧qs=chk j)
theorem ChP.nil:ChP [] 0:=⟨fun j _=>by simp [lkp],fun qs h=>by simp [lkp] at h⟩
theorem ChP.cons {p:Pls} {n:Nat} (h:ChP p n) (hn:n<3):ChP ((chk n,5+(n:Int))::p) (n+1):=by
 refine ⟨fun j hj=>?_,fun qs hq=>?_⟩
 ·rw [ew]
  by_cases e:n=j
  ·subst e;rw [if_pos rfl,if_pos (by omega)]
  ·rw [if_neg (fun e2=>e (chk_inj hn hj e2)),h.1 j hj]
   by_cases h2:j<n
   ·rw [if_pos h2,if_pos (by omega)]
   ·rw [if_neg h2,if_neg (by omega)]
 ·rw [ew] at hq
  by_cases e:chk n=qs
  ·exact ⟨n,hn,e.symm⟩
  ·rw [if_neg e] at hq;exact h.2 qs hq
theorem ChP.has {p:Pls} {n j:Nat} (h:ChP p n) (hj:j<3):hasB p (chk j)=decide (j<n):=by
 have hne:chk j≠[]:=fun e=>by have:=cg hj;rw [e] at this;cases this
 unfold hasB
 rw [h.1 j hj]
 by_cases h2:j<n
 ·rw [if_pos h2];simp [h2]
 ·rw [if_neg h2];simp [h2,hne]
theorem ChP.up {p:Pls} {n j:Nat} (h:ChP p n) (hj:j<3) (hn:j≤n):hasB p (chk j).dropLast=true:=by
 cases j with
 | zero=>simp [hasB,chk]
 | succ i =>
  have e:(chk (i+1)).dropLast=chk i:=chk_up hj
  rw [e,h.has (by omega)]
  exact decide_eq_true (by omega)
theorem ChP.vac {p:Pls} {n:Nat} (h:ChP p n) (hn:n<3):vacE p true (chk n)=0:=by
 have hne:chk n≠[]:=fun e=>by have:=cg hn;rw [e] at this;cases this
 unfold vacE
 rw [if_neg (by simp),if_neg (by simp [hne]),if_neg (by rw [h.has hn];simp),if_pos (h.up hn (Nat.le_refl _))]
theorem ChP.tak {p:Pls} {n j:Nat} (h:ChP p n) (hj:j<3) (hn:j<n):takE p true (chk j)=0:=by
 have hne:chk j≠[]:=fun e=>by have:=cg hj;rw [e] at this;cases this
 unfold takE
 rw [if_neg (by simp),if_neg (by simp [hne]),if_pos (by rw [h.has hj];simp [hn])]
theorem ChP.under {p:Pls} {n k:Nat} (h:ChP p n) (hn:n≤3) (hk:k<n) {L:List (List ByteArray)} (hL:IsU p (chk k) L):∀j,j<3→(chk j∈L↔k≤j∧j<n):=by
 intro j hj
 rw [hL.mem,h.1 j hj,cg (by omega)]
 constructor
 ·rintro ⟨_,h1,h2⟩
  by_cases hjn:j<n
  ·refine ⟨?_,hjn⟩
   have:=congrArg List.length h2
   rw [List.length_take,cg hj,cg (by omega)] at this
   omega
  ·rw [if_neg hjn] at h1;cases h1
 ·rintro ⟨h1,h2⟩
  exact ⟨chk_ok j,by rw [if_pos h2];rfl,chk_take h1⟩
theorem ChP.del {p:Pls} {n k:Nat} (h:ChP p n) (hn:n≤3) (hk:k<n) {L:List (List ByteArray)} (hL:IsU p (chk k) L):ChP (delAll p L) k:=by
 refine ⟨fun j hj=>?_,fun qs hq=>?_⟩
 ·rw [j4,h.1 j hj]
  have:=h.under hn hk hL j hj
  by_cases hin:inL L (chk j)=true
  ·have h2:=this.1 (iJ.1 hin)
   rw [if_pos hin,if_neg (by omega)]
  ·rw [if_neg hin]
   have h2:¬(k≤j∧j<n):=fun h3=>hin (iJ.2 (this.2 h3))
   by_cases hjk:j<k
   ·rw [if_pos hjk,if_pos (by omega)]
   ·rw [if_neg hjk,if_neg (by omega)]
 ·rw [j4] at hq
  by_cases hin:inL L qs=true
  ·rw [if_pos hin] at hq;cases hq
  ·rw [if_neg hin] at hq;exact h.2 qs hq
theorem ChP.all {p:Pls} {n:Nat} (h:ChP p n) (hn:n≤3) {L:List (List ByteArray)} (hL:IsU p [] L):L.length=n:=by
 have hp:L.Perm ((List.range n).map chk):=by
  refine (List.perm_ext_iff_of_nodup hL.nd ?_).2 (fun ks=>?_)
  ·rw [List.nodup_iff_pairwise_ne,List.pairwise_map]
   refine List.Pairwise.imp_of_mem ?_ (List.nodup_iff_pairwise_ne.1 List.nodup_range)
   intro a b ha hb hab e
   have h1:=List.mem_range.1 ha
   have h2:=List.mem_range.1 hb
   exact hab (chk_inj (by omega) (by omega) e)
  ·rw [hL.mem]
   constructor
   ·rintro ⟨_,h1,_⟩
    obtain ⟨j,hj,rfl⟩:=h.2 ks h1
    rw [h.1 j hj] at h1
    by_cases hjn:j<n
    ·exact List.mem_map.2 ⟨j,List.mem_range.2 hjn,rfl⟩
    ·rw [if_neg hjn] at h1;cases h1
   ·intro h1
    obtain ⟨j,hj,rfl⟩:=List.mem_map.1 h1
    have hj:=List.mem_range.1 hj
    exact ⟨chk_ok j,by rw [h.1 j (by omega),if_pos hj];rfl,by simp⟩
 rw [hp.length_eq];simp
theorem ChP.sln {p:Pls} {n i j:Nat} (h:ChP p n) (hi:i<n) (hn:n≤3) (hj:j≤i):slN p (chk i) j=5+(j:Int):=by
 unfold slN
 rw [chk_take hj,h.1 j (by omega),if_pos (by omega)];rfl
/-- The keys on the way down. -/
theorem kst_at {held:Nat→Option Ent} {sl:Nat→Int} {root:List Int} {ke:Nat→List Int} (h0:ke 0=root):∀(n:Nat),(∀j,j<n→getV held (sl j) (ke j)=(ke (j+1),0))→kst held sl root n=ke n
 | 0,_=>h0.symm
 | n+1,h=>by
  have h1:=kst_at h0 n (fun j hj=>h j (by omega))
  show (getV held (sl n) (kst held sl root n)).1=ke (n+1)
  rw [h1,h n (by omega)]
theorem kRun_good {held:Nat→Option Ent} {sl:Nat→Int} {root:List Int} {ke:Nat→List Int} (h0:ke 0=root) {n:Nat} (h:∀j,j<n→getV held (sl j) (ke j)=(ke (j+1),0)):∀f,f≤n→kRun held sl root n f=(ke n,0)
 | 0,_=>by
  show (kst held sl root n,0)=_
  rw [kst_at h0 n h]
 | f+1,hf=>by
  have h1:=kst_at h0 (n - (f+1)) (fun j hj=>h j (by omega))
  have h2:kerr held sl root (n - (f+1))=0:=by
   unfold kerr
   rw [h1,h (n - (f+1)) (by omega)]
  unfold kRun
  rw [if_pos h2]
  exact kRun_good h0 h f (by omega)
theorem kRun_bad {held:Nat→Option Ent} {sl:Nat→Int} {root:List Int} {ke:Nat→List Int} (h0:ke 0=root) {n k:Nat} {z:Int} (hk:k<n) (h:∀j,j<k→getV held (sl j) (ke j)=(ke (j+1),0)) (hb:(getV held (sl k) (ke k)).2=z) (hz:z≠0):∀f,f≤n→n - f≤k→kRun held sl root n f=(zero32,if z=50 then 120 else z)
 | 0,_,h2=>absurd h2 (by omega)
 | f+1,hf,h2=>by
  have h1:=kst_at h0 (n - (f+1)) (fun j hj=>h j (by omega))
  unfold kRun
  by_cases e:n - (f+1)=k
  ·have h3:kerr held sl root (n - (f+1))=z:=by
    unfold kerr
    rw [h1,e,hb]
   rw [if_neg (by rw [h3];exact hz),h3]
  ·have h3:kerr held sl root (n - (f+1))=0:=by
    unfold kerr
    rw [h1,h (n - (f+1)) (by omega)]
   rw [if_pos h3]
   exact kRun_bad h0 hk h hb hz f (by omega) (by omega)
def chK (root:List Int) (D:Nat→List Int):Nat→List Int
 | 0=>root
 | j+1=>D j
def tC (root:List Int) (D:Nat→List Int):Nat→Slt
 | 0=>newS
 | i+1=>putS (tC root D i) (5+i) (entN (tC root D i) (5+i) (chK root D i) (D i))
theorem tC_puts (root:List Int) (D:Nat→List Int):∀i,(tC root D i).puts=i
 | 0=>rfl
 | i+1=>by show (tC root D i).puts+1=i+1;rw [tC_puts root D i]
theorem gF {held held':Nat→Option Ent} {n:Int} (j:Nat) (hn:n=(j:Int)) (h:held j=held' j) (K:List Int):getV held n K=getV held' n K:=by
 subst hn
 unfold getV
 rw [Int.toNat_natCast,h]
theorem tC_get {root:List Int} {D:Nat→List Int} (hl:∀j,(D j).length=32) (hb:∀j,Bytes (D j)):∀i j,j<i→i≤3→getV (tC root D i).held (5+(j:Int)) (chK root D j)=(D j,0)
 | 0,_,h,_=>absurd h (by omega)
 | i+1,j,h,h3=>by
  by_cases e:j=i
  ·subst e
   have:=ig (t:=tC root D j) (i:=5+j) (by omega) (chK root D j) (D j) (hl j) (hb j)
   rw [show (5:Int)+(j:Int)=((5+j:Nat):Int) by omega]
   exact this
  ·have h1:(tC root D (i+1)).held (5+j)=(tC root D i).held (5+j):=aN (tC root D i).held _ (show 5+j≠5+i by omega)
   rw [gF (5+j) (by omega) h1]
   exact tC_get hl hb i j (by omega) (by omega)
/-- What the slots hold behind the erasure of the k-th. -/
theorem eraL_held {p:Pls} {ks:List ByteArray} {j:Nat}:∀(L:List (List ByteArray)) (t:Slt),(∀x∈L,x≠ks→(lkp p x).getD 0≠(j:Int))→(eraL p ks t L).held j=t.held j
 | [],_,_=>rfl
 | x::L,t,h=>by
  show (eraL p ks (if x=ks then t else eraIf t ((lkp p x).getD 0)) L).held j=t.held j
  rw [eraL_held L _ (fun y hy=>h y (List.mem_cons_of_mem _ hy))]
  split
  ·rfl
  ·rename_i hx
   exact jP (h x (List.mem_cons_self ..) hx)
theorem ChP.era {p:Pls} {n k:Nat} (h:ChP p n) (hn:n≤3) (hk:k<n) {L:List (List ByteArray)} (hL:IsU p (chk k) L) (t:Slt):(∀j,j<k→(eraL p (chk k) (eraIf t (5+(k:Int))) L).held (5+j)=t.held (5+j))∧(eraL p (chk k) (eraIf t (5+(k:Int))) L).held (5+k)=none:=by
 constructor
 ·intro j hj
  rw [eraL_held]
  ·exact jP (by omega)
  ·intro x hx hne he
   have h1:=(hL.mem x).1 hx
   obtain ⟨i,hi,rfl⟩:=h.2 x h1.2.1
   have h2:=(h.under hn hk hL i hi).1 hx
   rw [h.1 i hi,if_pos h2.2] at he
   simp at he
   omega
 ·exact i6 L (kw (by omega) (by omega))
/-- Keys down the chain: those above the k-th, and none from there on. -/
theorem ChP.key {p:Pls} {n i:Nat} (h:ChP p n) (hn:n≤3) (hi:i<n) {held:Nat→Option Ent} {root:List Int} {D:Nat→List Int} (hg:∀j,j≤i→getV held (5+(j:Int)) (chK root D j)=(D j,0)):keyR held p root (chk i)=(D i,0):=by
 unfold keyR
 rw [cg (by omega)]
 exact kRun_good (ke:=chK root D) rfl (n:=i+1) (fun j hj=>by rw [h.sln hi hn (by omega)];exact hg j (by omega)) (i+1) (Nat.le_refl _)
theorem ChP.gone {p:Pls} {n i k:Nat} (h:ChP p n) (hn:n≤3) (hi:i<n) (hki:k≤i) {held:Nat→Option Ent} {root:List Int} {D:Nat→List Int} (hg:∀j,j<k→getV held (5+(j:Int)) (chK root D j)=(D j,0)) (hk:held (5+k)=none):keyR held p root (chk i)=(zero32,120):=by
 unfold keyR
 rw [cg (by omega)]
 have h1:=kRun_bad (held:=held) (sl:=slN p (chk i)) (ke:=chK root D) (root:=root) rfl (n:=i+1) (k:=k) (z:=120) (by omega) (fun j hj=>by rw [h.sln hi hn (by omega)];exact hg j (by omega)) (by rw [h.sln hi hn hki,show (5:Int)+(k:Int)=((5+k:Nat):Int) by omega,getV_none (by omega) hk]) (by decide) (i+1) (Nat.le_refl _) (by omega)
 rw [h1];rfl
open Go Go.RowKit Go.Sort Go.Maps
def chS:Nat→ByteArray
 | 0=>⟨#[97]⟩
 | 1=>⟨#[97,47,98]⟩
 | _=>⟨#[97,47,98,47,99]⟩
def chR:List Value:=[.string (chS 0),.string (chS 1),.string (chS 2)]
theorem lt3 {i:Nat} (h:i<3):i=0∨i=1∨i=2:=by omega
theorem fD {i:Nat} (h:i<3):segsB (chS i)=chk i:=by rcases lt3 h with rfl|rfl|rfl<;>rfl
theorem chS_is {i:Nat} (h:i<3):isP (bs (chS i))=true:=by rcases lt3 h with rfl|rfl|rfl<;>rfl
theorem hU {i:Nat} (h:i<3):(chS i).size≤1000:=by rcases lt3 h with rfl|rfl|rfl<;>decide
theorem gr {i:Nat} (h:i<3):chR[i]?=some (.string (chS i)):=by rcases lt3 h with rfl|rfl|rfl<;>rfl
theorem ch_kek {p:Pls} {i:Nat} (h:ChP p i) (hi:i<3) {root:List Int} {D:Nat→List Int} (hl:∀j,(D j).length=32) (hb:∀j,Bytes (D j)):keyR (tC root D i).held p root (chk i).dropLast=(chK root D i,0):=by
 cases i with
 | zero=>exact f9 _ _ _
 | succ j =>
  rw [show (chk (j+1)).dropLast=chk j from chk_up hi]
  exact h.key (by omega) (by omega) (fun l hl2=>tC_get hl hb (j+1) l (by omega) (by omega))
def Ce (w0 w:World) (g mb:Nat) (kv:Value) (sb hb rb m:Nat) (t:Slt) (n cb:Nat) (rows:List (Nat×List Value×TypeId)):Prop :=
 ∃d k c p,Rv w0 w g mb kv sb hb d t k rb m c (keyB13 0) p rows∧ChP p n∧k≤1000+1000 * cb∧c≤cb∧p.length≤cb
section
variable {w0 w w':World} {g mb:Nat} {kv:Value} {sb hb rb m:Nat} {t:Slt} {n cb:Nat} {rows:List (Nat×List Value×TypeId)}
theorem Ce.below (h:Ce w0 w g mb kv sb hb rb m t n cb rows) (hbb:Below w.heap.size w w'):Ce w0 w' g mb kv sb hb rb m t n cb rows:=by
 obtain ⟨d,k,c,p,h1,h2⟩:=h
 exact ⟨d,k,c,p,h1.below hbb,h2⟩
theorem Ce.tail {r:Nat×List Value×TypeId} (h:Ce w0 w g mb kv sb hb rb m t n cb (r::rows)):Ce w0 w g mb kv sb hb rb m t n cb rows:=by
 obtain ⟨d,k,c,p,h1,h2⟩:=h
 exact ⟨d,k,c,p,h1.tail,h2⟩
theorem Ce.add (h:Ce w0 w g mb kv sb hb rb m t n cb rows) {q:Nat} {l:List Value} {ty:TypeId} (hbb:Below w.heap.size w w') (hr:Row w' q l ty) (hq:w.heap.size≤q):Ce w0 w' g mb kv sb hb rb m t n cb ((q,l,ty)::rows):=by
 obtain ⟨d,k,c,p,h1,h2⟩:=h
 exact ⟨d,k,c,p,h1.add hbb hr hq,h2⟩
theorem Ce.updR (h:Ce w0 w g mb kv sb hb rb m t n cb rows) (i:Nat) {q:Nat} {l l':List Value} {ty:TypeId} (hi:rows[i]?=some (q,l,ty)) (hu:Upd q w w') (hr:Row w' q l' ty):Ce w0 w' g mb kv sb hb rb m t n cb (rows.set i (q,l',ty)):=by
 obtain ⟨d,k,c,p,h1,h2⟩:=h
 exact ⟨d,k,c,p,h1.updR i hi hu hr,h2⟩
theorem Ce.mem (h:Ce w0 w g mb kv sb hb rb m t n cb rows):Mem w0 [] w rows:=by
 obtain ⟨d,k,c,p,h1,h2⟩:=h
 exact h1.sv.mem
theorem Ce.more {cb':Nat} (h:Ce w0 w g mb kv sb hb rb m t n cb rows) (hc:cb≤cb'):Ce w0 w g mb kv sb hb rb m t n cb' rows:=by
 obtain ⟨d,k,c,p,h1,h2,h3,h4,h5⟩:=h
 exact ⟨d,k,c,p,h1,h2,by omega,by omega,by omega⟩
theorem ce_create {D:Nat→List Int} (h:Ce w0 w g mb kv sb hb rb m (tC (keyB13 0) D n) n cb rows) (ht:Tab w0) (hq:QTab w0) (hM:MaxL w0) (hn:n<3) (hcb:cb≤50) (hl:∀j,(D j).length=32) (hb9:∀j,Bytes (D j)) (s:ByteArray) (hs:s=chS n) (X:List Int) (hX:X=D n) (z:Int) (hz:z=5+(n:Int)) :
  Calls Tryz.prog 14 #[.pointer (some ⟨rb,0,none⟩),.string s,.int .i64 z,.agg (u8s X).toArray] w fun e w'=>e=.returned (.int .i64 0)∧Ce w0 w' g mb kv sb hb rb m (tC (keyB13 0) D (n+1)) (n+1) (cb+1) rows:=by
 obtain ⟨d,k,c,p,h1,h2,h3,h4,h5⟩:=h
 subst hs hX hz
 have hv:vacE p (isP (bs (chS n))) (segsB (chS n))=0:=by rw [chS_is hn,fD hn];exact h2.vac hn
 have:=gm h1 ht hq hM (by omega) (by rw [tC_puts];omega) (by omega) (chS n) (hU hn) hv (5+n) (by omega) (chK (keyB13 0) D n) (by rw [fD hn];exact ch_kek h2 hn hl hb9) (D n) (hl n) (hb9 n) _ rfl
 rw [show (((5+n:Nat)):Int)=5+(n:Int) by omega,fD hn] at this
 refine this.mono (fun e w' hh=>?_)
 obtain ⟨he,d',hr⟩:=hh
 exact ⟨he,d',_,_,_,hr,h2.cons hn,by omega,by omega,by simp only [List.length_cons];omega⟩
theorem ce_erase (h:Ce w0 w g mb kv sb hb rb m t n cb rows) (hM:MaxL w0) (hn:n≤3) (k0:Nat) (hk0:k0<n) (hcb:cb≤50) (s:ByteArray) (hs:s=chS k0) :
  Calls Tryz.prog 15 #[.pointer (some ⟨rb,0,none⟩),.string s] w fun e w'=>e=.returned (.int .i64 0)∧∃t',Ce w0 w' g mb kv sb hb rb m t' k0 (2 * cb+1) rows∧(∀j,j<k0→t'.held (5+j)=t.held (5+j))∧t'.held (5+k0)=none:=by
 obtain ⟨d,k,c,p,h1,h2,h3,h4,h5⟩:=h
 subst hs
 have h3k:k0<3:=by omega
 have hv:takE p (isP (bs (chS k0))) (chk k0)=0:=by rw [chS_is h3k];exact h2.tak h3k hk0
 have:=erase_v2 h1 hM (by omega) (by omega) (fi 100 (by omega)) (chS k0) (hU h3k) (chk k0) (fD h3k).symm hv (5+(k0:Int)) (by rw [h2.1 k0 h3k,if_pos hk0];rfl) (decide_eq_true (by omega))
 refine this.mono (fun e w' hh=>?_)
 obtain ⟨he,L,d',k',hL,hr,hk'⟩:=hh
 have hlen:=hL.len
 have hdl:(delAll p L).length≤p.length:=List.length_filter_le _ _
 have h9:=h2.era hn hk0 hL t
 exact ⟨he,_,⟨d',k',c,_,hr,h2.del hn hk0 hL,by omega,by omega,by omega⟩,h9.1,h9.2⟩
theorem ce_attach (h:Ce w0 w g mb kv sb hb rb m t n cb rows) (hM:MaxL w0) (hn:n<3) (hcb:cb≤5000) (s:ByteArray) (hs:s=chS n) (z:Int) (hz:z=5+(n:Int)) :
  Calls Tryz.prog 16 #[.pointer (some ⟨rb,0,none⟩),.string s,.int .i64 z] w fun e w'=>e=.returned (.int .i64 0)∧Ce w0 w' g mb kv sb hb rb m t (n+1) (cb+1) rows:=by
 obtain ⟨d,k,c,p,h1,h2,h3,h4,h5⟩:=h
 subst hs hz
 have hv:vacE p (isP (bs (chS n))) (segsB (chS n))=0:=by rw [chS_is hn,fD hn];exact h2.vac hn
 have:=jc h1 hM (by omega) (chS n) (hU hn) (5+(n:Int)) hv
 rw [fD hn] at this
 refine this.mono (fun e w' hh=>?_)
 exact ⟨hh.1,d,k,_,_,hh.2,h2.cons hn,by omega,by omega,by simp only [List.length_cons];omega⟩
theorem ce_key (h:Ce w0 w g mb kv sb hb rb m t n cb rows) (ht:Tab w0) (hq:QTab w0) (hM:MaxL w0) (i:Nat) (hi:i<3) (s:ByteArray) (hs:s=chS i) (Z:List Int) (z:Int) (hz:∀p,ChP p n→keyV t.held p (keyB13 0) true (chk i)=(Z,z)) :
  Calls Tryz.prog 12 #[.pointer (some ⟨rb,0,none⟩),.string s] w fun e w'=>e=.returned (.tuple #[.agg (u8s Z).toArray,.int .i64 z])∧Ce w0 w' g mb kv sb hb rb m t n cb rows:=by
 obtain ⟨d,k,c,p,h1,h2,h3⟩:=h
 subst hs
 have:=key_v h1 ht hq hM (chS i) (hU hi) Z z (by rw [chS_is hi,fD hi];exact hz p h2)
 refine this.mono (fun e w' hh=>?_)
 exact ⟨hh.1,d,k,c,p,hh.2,h2,h3⟩
theorem ce_paths (h:Ce w0 w g mb kv sb hb rb m t n cb rows) (hn:n≤3) (hcb:cb≤50) :
  Calls Tryz.prog 11 #[.pointer (some ⟨rb,0,none⟩)] w fun e w'=>∃pp cap,e=.returned (.slice pp n cap)∧Ce w0 w' g mb kv sb hb rb m t n cb rows:=by
 obtain ⟨d,k,c,p,h1,h2,h3,h4,h5⟩:=h
 refine (paths_v h1 (by omega) (by omega)).mono (fun e w' hh=>?_)
 obtain ⟨v,L,he,h6,h7,h8,_⟩:=hh
 have hl:L.length=n:=h2.all hn h7
 obtain ⟨pp,cap,hv⟩:=iX h6
 rw [hl] at hv
 exact ⟨pp,cap,by rw [he,hv],d,k,c,p,h8,h2,h3,h4,h5⟩
end
/-- Keys behind the erasure of the k-th: those above have theirs, the others aren't there. -/
theorem ch_above {p:Pls} {k n i:Nat} (h:ChP p k) (hi:i<k) (hn:n≤3) (hk:k<n) {root:List Int} {D:Nat→List Int} (hl:∀j,(D j).length=32) (hb:∀j,Bytes (D j)) {t:Slt} (ht:∀j,j<k→t.held (5+j)=(tC root D n).held (5+j)):keyV t.held p root true (chk i)=(D i,0):=by
 unfold keyV
 rw [if_neg (by simp),if_neg (by rw [h.has (by omega)];simp [hi])]
 exact h.key (by omega) hi (fun j hj=>by rw [gF (5+j) (by omega) (ht j (by omega))];exact tC_get hl hb n j (by omega) hn)
theorem ch_below {p:Pls} {k i:Nat} (h:ChP p k) (hi:k≤i) (h3:i<3) (held:Nat→Option Ent) (root:List Int):keyV held p root true (chk i)=(zero32,100):=by
 unfold keyV
 rw [if_neg (by simp),if_pos (by rw [h.has h3];simp;omega)]
theorem ch_gone {p:Pls} {k n i:Nat} (h:ChP p (i+1)) (hi:k≤i) (hin:i<n) (hn:n≤3) {root:List Int} {D:Nat→List Int} (hl:∀j,(D j).length=32) (hb:∀j,Bytes (D j)) {t:Slt} (ht:∀j,j<k→t.held (5+j)=(tC root D n).held (5+j)) (hg:t.held (5+k)=none):keyV t.held p root true (chk i)=(zero32,120):=by
 unfold keyV
 rw [if_neg (by simp),if_neg (by rw [h.has (by omega)];simp)]
 exact h.gone (by omega) (by omega) hi (fun j hj=>by rw [gF (5+j) (by omega) (ht j hj)];exact tC_get hl hb n j (by omega) hn) hg
def keyI (dd:List Int) (i:Nat):List Int:=if i<3 then (dd.drop (i * 32)).take 32 else zero32
theorem jC {dd:List Int} (h:dd.length=96) (i:Nat):(keyI dd i).length=32:=by
 unfold keyI
 split
 ·simp [h];omega
 ·rfl
theorem ln {dd:List Int} (h:Bytes dd) (i:Nat):Bytes (keyI dd i):=by
 unfold keyI
 split
 ·exact fun x hx=>h x (List.mem_of_mem_drop (List.mem_of_mem_take hx))
 ·unfold Bytes zero32;decide
theorem fx {dd:List Int} {i:Nat} (hi:i<3):((u8s dd).drop (i * 32)).take 32=u8s (keyI dd i):=by
 unfold keyI
 rw [if_pos hi]
 simp [u8s,List.map_drop,List.map_take]
theorem un_k3:Tryz.prog.underlying 50=some (.array 3 43):=Tryz.underlying50
theorem info_s3:(Tryz.prog.info? 51).map (fun i=>(i.zero,i.size))=some (some (.agg (plv []).toArray),3):=by kernel_rfl
theorem zero_s3:∀w,(zeroValue 51).run Tryz.prog w=.ok (.agg (plv []).toArray) w:=(zero_of_info info_s3).1
theorem sz_s3:(Tryz.prog.info? 51).map (·.size)=some 3:=(zero_of_info info_s3).2
theorem built_ch:Tryz.prog.built 51 [(0,.string (chS 0)),(1,.string (chS 1)),(2,.string (chS 2))]=some chR.toArray:=by kernel_rfl
theorem chR_one:∀v∈chR,v.oneCell'=true:=by intro v hv;simp [chR] at hv;rcases hv with rfl|rfl|rfl<;>rfl
open Go Go.ChangeShapes Go.WideShapes Go.ChangeAt Go.RowKit
theorem iO:Tryz.prog.cellsOf 50=96:=by kernel_rfl
theorem open_k3 {H:Type} {enc:TypeId×Value→H} {W:World} {base:Nat} {v:Value} {d:DataW H} {ps:List MemPlace} (hok:Value.okWide Tryz.prog W .any base 50 v) (h:DataW.Trod enc Tryz.prog W 0 (fun _=>true) true 50 v d ps) :
  ∃zs:List Int,v=.agg (u8s zs).toArray∧zs.length=96∧Bytes zs:=by
 simp only [Value.okWide,un_k3] at hok
 obtain ⟨cs,rfl,hsz,_⟩:=hok
 obtain ⟨fuel,hf⟩:=h
 obtain ⟨xs,m,rfl,_,hl,hxn,hget⟩:=DataW.trod_array un_k3 hf
 have hcell:∀i,i<96→∃z,cs[i]?=some (.int .u8 z)∧0≤z∧z<256:=by
  intro i hi
  have hi3:i / 32<3:=by omega
  have hx:xs[i / 32]?=some (xs[i / 32]'(by omega)):=by simp [show i / 32<xs.length by omega]
  have h1:=hget (i / 32) hi3
  rw [hx,fc] at h1
  obtain ⟨ys,m2,hy2,_,hl2,hyn,hget2⟩:=DataW.trod_array aw h1
  have hj:i % 32<32:=by omega
  have hy:ys[i % 32]?=some (ys[i % 32]'(by omega)):=by simp [show i % 32<ys.length by omega]
  have h2:=hget2 (i % 32) hj
  rw [hy,kn] at h2
  obtain ⟨z,hc,_,hwf⟩:=DataW.trod_int b7 h2
  have h3:=congrArg (·[0]?) hc
  have h4:cs[i]?=some (.int .u8 z):=by
   have e:i / 32 * 32+i % 32=i:=by omega
   simp only [List.getElem?_take,List.getElem?_drop,Value.cells,Nat.add_zero,Nat.mul_one,e,List.getElem?_cons_zero] at h3
   rw [if_pos (by omega),if_pos (by omega)] at h3
   rw [←Array.getElem?_toList]
   exact h3
  refine ⟨z,h4,?_⟩
  have:=bounds_u8 hwf
  omega
 refine ⟨cs.toList.map (fun v=>match v with | .int _ z=>z|_=>0),?_,by simp [hsz,iO],?_⟩
 ·congr 1
  apply Array.ext_getElem?
  intro i
  by_cases hi:i<96
  ·obtain ⟨z,hz,_⟩:=hcell i hi
   simp [u8s,hz]
  ·rw [Array.getElem?_eq_none (by rw [hsz,iO];omega),Array.getElem?_eq_none (by simp [u8s,hsz,iO];omega)]
 ·intro y hy
  obtain ⟨v,hv,rfl⟩:=List.mem_map.1 hy
  obtain ⟨i,hi,he⟩:=List.getElem_of_mem hv
  obtain ⟨z,hz,hb⟩:=hcell i (by simpa [hsz,iO] using hi)
  have hvz:v=.int .u8 z:=by
   have:cs.toList[i]?=some v:=by rw [←he];simp [show i<cs.size by simpa using hi]
   rw [Array.getElem?_toList,hz] at this
   exact (Option.some.inj this).symm
  subst hvz
  exact hb
open Go Go.RowKit Go.Sort Go.Maps
theorem dx:∀w,(isAgg 9).run Tryz.prog w=.ok false w:=by intro w;simp [go_sem]
section
variable {a:Act} {w:World} {dst:Option Tmp} {typ:TypeId} {pos:String} {aft:Array Edge} {gd:Option (Nat×Bool)}
theorem cN {x ix:Operand} {b:Nat} (i:Nat) {ii:Int} (hx:a.eval x=.pointer (some ⟨b,0,none⟩)) (hix:a.eval ix=.int .i64 ii) (hii:ii=(i:Int)) (hi:i<3) :
  (execOp a.eval {dst:=dst,op:=.indexAddr 51 x ix,type:=typ,pos:=pos,after:=aft,guard:=gd}).run Tryz.prog w=.ok (.value (.pointer (some ⟨b,i,none⟩))) w:=by
 subst hii
 unfold execOp
 have h2:(i:Int)<3:=by omega
 simp only [hx,hix]
 simp [go_sem,h2]
theorem iE {x ix:Operand} {b:Nat} (i:Nat) {ii:Int} (hx:a.eval x=.pointer (some ⟨b,0,none⟩)) (hix:a.eval ix=.int .i64 ii) (hii:ii=(i:Int)) (hi:i<3) :
  (execOp a.eval {dst:=dst,op:=.indexAddr 50 x ix,type:=typ,pos:=pos,after:=aft,guard:=gd}).run Tryz.prog w=.ok (.value (.pointer (some ⟨b,i * 32,none⟩))) w:=by
 subst hii
 unfold execOp
 have h2:(i:Int)<3:=by omega
 simp only [hx,hix]
 simp [go_sem,h2]
end
theorem erased_walk (dp at_:Int) (dd:List Int) (hdp:0≤dp∧dp<256) (hat:0≤at_∧at_<256) (hdl:dd.length=96) (hdb:Bytes dd) (w:World) (ht:Tab w) (hq:QTab w) (hM:MaxL w) :
  Calls Tryz.prog 4 #[.int .u8 dp,.int .u8 at_,.agg (u8s dd).toArray] w fun e w'=>e=.returned (.bool true)∧Below w.heap.size w w':=by
 have HT:Hid (Tab w):=ht
 have HQ:Hid (QTab w):=hq
 have HX:Hid (MaxL w):=hM
 have hm:=Mem.start w
 have HDB:Hid (Bytes dd):=hdb
 have HDL:Hid (∀_:Unit,dd.length=96):=fun _=>hdl
 have HKL:Hid (∀(_:Unit) j,(keyI dd j).length=32):=fun _ j=>jC hdl j
 have HKB:Hid (∀j,Bytes (keyI dd j)):=ln hdb
 obtain ⟨n0,hn0⟩:∃n0:Nat,(n0:Int)=dp % 3:=⟨(dp % 3).toNat,by omega⟩
 obtain ⟨n,hn⟩:∃n:Nat,n=n0+1:=⟨_,rfl⟩
 obtain ⟨k,hk⟩:∃k:Nat,(k:Int)=at_ % (n:Int):=⟨(at_ % (n:Int)).toNat,by rw [Int.toNat_of_nonneg (Int.emod_nonneg _ (by omega))]⟩
 have hn3:n≤3:=by omega
 have hkn:k<n:=by have:=Int.emod_lt_of_pos at_ (show (0:Int)<(n:Int) by omega);omega
 have HN0:dp % 3=(n0:Int):=hn0.symm
 have HN1:(n0:Int)+1=(n:Int):=by omega
 have HN2:IntKind.i64.wrap (n0:Int)=(n0:Int):=by rw [IntKind.wrap_i64];omega
 have HN3:IntKind.i64.wrap (n:Int)=(n:Int):=by rw [IntKind.wrap_i64];omega
 have HAW:IntKind.i64.wrap at_=at_:=by rw [IntKind.wrap_i64];omega
 have HKK:at_.tmod (n:Int)=(k:Int):=by rw [Int.tmod_eq_emod_of_nonneg (by omega)];exact hk.symm
 have hnz:¬(n:Int)=0:=by omega
 clear ht hq hM hdl hdb hn0 hn hk
 go_enter Tryz.func4,Tryz.ntmps4
 go_wp2_with (first
  | ((with_reducible refine ae (some 5) (.box 50 (.tmp 2)) ?_);go_must (refine az (u8s dd) rfl hm ?_);clear hm;intro wx5 q5 hm)
  | (go_at_call 8;refine (cQ _ (Tab.mem HT.out hm (by simp)) (QTab.mem HQ.out hm (by simp)) (HX.out.below hm.below)).mono ?_;rintro e w1 ⟨rfl,hb1⟩;replace hm:=hm.call hb1;clear hb1;have HT1:Hid (Tab w1):=Tab.mem HT.out hm (by simp);have HQ1:Hid (QTab w1):=QTab.mem HQ.out hm (by simp);have HX1:Hid (MaxL w1):=HX.out.below hm.below;have HBW:Hid (Below w.heap.size w w1):=hm.below;have HR5:Hid (Row w1 q5 (u8s dd) 50):=hm.get 0 rfl;clear HT HQ HX)
  | (go_at_call 9;clear hm;go_must (refine (iu _ HT1.out HQ1.out).mono ?_);rintro e w2 ⟨g,mb,kv,sb,hb,d0,rb,m,rfl,st0⟩;have st:Ce w1 w2 g mb kv sb hb rb m newS 0 0 []:=⟨d0,1000,0,[],st0,ChP.nil,by omega,by omega,by simp⟩;clear st0)
  | ((with_reducible refine ae (some 27) (.build 51 #[(0,.const (.string {data:=#[97]})),(1,.const (.string {data:=#[97,47,98]})),(2,.const (.string {data:=#[97,47,98,47,99]}))]) ?_);go_must (refine ay chR [(0,.string (chS 0)),(1,.string (chS 1)),(2,.string (chS 2))] rfl built_ch ?_))
  | ((with_reducible refine ae (some 10) (.alloc 51) ?_);go_must (refine aY _ zero_s3 ?_);intro wa q10 hba hqa hra;replace st:=st.add hba hra hqa;clear hba hqa hra)
  | ((with_reducible refine ae none (.store 51 (.tmp 10) (.tmp 27)) ?_);go_must (refine bH chR (st.mem.get 0 rfl) rfl rfl 3 sz_s3 rfl rfl chR_one ?_);intro wb hub hrb;replace st:=st.updR 0 rfl hub hrb;clear hub hrb))
 clear HN0 HN1 HN2 HN3 HAW HKK hnz hdp hat
 have hdum:IntKind.i64.wrap (5:Int)=5:=by decide
 go_loopw [9,13] (fun vok vi wr=>∃i:Nat,i≤n∧vi=.int .i64 (i:Int)∧vok=.bool true∧Hid (Ce w1 wr g mb kv sb hb rb m (tC (keyB13 0) (keyI dd) i) i i [(q10,chR,51)])) (fun _ vi _=>match vi with | .int _ q=>n - q.toNat|_=>0)
 case atStart=>exact ⟨0,by omega,rfl,rfl,st⟩
 case round =>
  clear st
  obtain ⟨i,hi,rfl,rfl,HST⟩:=hrel
  have st:=HST.out
  clear HST
  by_cases hlt:i<n
  ·have hli:(i:Int)<(n:Int):=by omega
   have hi3:i<3:=by omega
   have hw:IntKind.i64.wrap ((i:Int)+1)=(i:Int)+1:=dt _ (by omega) (by omega)
   have hw5:IntKind.i64.wrap (5+(i:Int))=5+(i:Int):=dt _ (by omega) (by omega)
   obtain ⟨X,hX⟩:∃X,X=keyI dd i:=⟨_,rfl⟩
   have HXX:Hid (∀_:Unit,X=keyI dd i):=fun _=>hX
   have HXL:Hid (∀_:Unit,X.length=32):=fun _=>by rw [hX];exact HKL.out () i
   have HDC:Hid (∀_:Unit,((u8s dd).drop (i * 32)).take 32=u8s X):=fun _=>by rw [hX];exact fx hi3
   clear hX
   go_wp2_with fail
   refine aA ?_
   refine aC (T:=fun W=>(Row W q10 chR 51∧Row W q5 (u8s dd) 50)) (by kernel_rfl) st.mem ?_
   intro wz hbz hmz
   replace st:=st.below hbz
   have HTW:Hid (Row wz q10 chR 51∧Row wz q5 (u8s dd) 50):=⟨st.mem.get 0 rfl,Row.bel HR5.out st.mem.below⟩
   clear hbz hmz
   refine aT 0 (v:=.pointer (some ⟨rb,0,none⟩)) rfl (by kernel_rfl) rfl (fun W _=>by go_simp) HTW.out ?_
   go_simp
   refine aT 1 (v:=.int .i64 (i:Int)) rfl (by kernel_rfl) rfl (fun W _=>by go_simp) HTW.out ?_
   go_simp
   refine aT 2 (v:=.pointer (some ⟨q10,i,none⟩)) rfl (by kernel_rfl) rfl (fun W _=>cN i rfl rfl rfl hi3) HTW.out ?_
   go_simp
   refine aT 3 (v:=.string (chS i)) rfl (by kernel_rfl) rfl (fun W hW=>aK i (.string (chS i)) hW.1 rfl dx (gr hi3)) HTW.out ?_
   go_simp
   refine aT 4 (v:=.int .i64 (i:Int)) rfl (by kernel_rfl) rfl (fun W _=>by go_simp) HTW.out ?_
   go_simp
   refine aT 5 (v:=.int .i64 (5+(i:Int))) rfl (by kernel_rfl) rfl (fun W _=>by go_simp) HTW.out ?_
   go_simp
   refine aT 6 (v:=.int .i64 (i:Int)) rfl (by kernel_rfl) rfl (fun W _=>by go_simp) HTW.out ?_
   go_simp
   refine aT 7 (v:=.pointer (some ⟨q5,i * 32,none⟩)) rfl (by kernel_rfl) rfl (fun W _=>iE i rfl rfl rfl hi3) HTW.out ?_
   go_simp
   refine aT 8 (v:=.agg (u8s X).toArray) rfl (by kernel_rfl) rfl (fun W hW=>au (i * 32) (u8s X) hW.2 rfl _ aw rfl 32 aq (by rw [aa,HDL.out ()];omega) (HDC.out ())) HTW.out ?_
   go_simp
   refine aO 9 (by kernel_rfl) rfl rfl ?_
   intro K hK
   go_wp2_with ((go_at_call 14;go_must (refine (ce_create st HT1.out HQ1.out HX1.out hi3 (by omega) (fun j=>HKL.out () j) HKB.out (chS i) rfl X (HXX.out ()) _ rfl).mono ?_);rintro e wc ⟨rfl,st9⟩;have HTW':Hid (Row wc q10 chR 51∧Row wc q5 (u8s dd) 50):=⟨st9.mem.get 0 rfl,Row.bel HR5.out st9.mem.below⟩;clear HTW;have HTW:=HTW';clear HTW';replace st:=st9;clear st9))
   refine hK _ _ HTW.out ?_
   clear hK K
   go_simp
   refine aT 10 (v:=.bool true) rfl (by kernel_rfl) rfl (fun W _=>by go_simp) HTW.out ?_
   go_simp
   refine aT 11 (v:=.bool true) rfl (by kernel_rfl) rfl (fun W _=>by go_simp) HTW.out ?_
   go_simp
   refine wpAnyH_done (by kernel_rfl) ?_ _
   simp only [endsIn]
   clear HTW
   go_wp2_with fail
   go_roundw
   case rel=>exact ⟨i+1,by omega,by go_num,rfl,st⟩
   case measure=>show n - ((i:Int)+1).toNat<n - (i:Int).toNat;omega
  ·have hin:n=i:=by omega
   have hli:¬(i:Int)<(n:Int):=by omega
   subst hin
   have hk3:k<3:=by omega
   clear hlt hi
   go_wp2_with (first
    | ((with_reducible refine bA (some 60) (.indexAddr 51 (.tmp 10) (.tmp 59)) (some (2,false)) ?_);go_must (refine aj (.pointer (some ⟨q10,k,none⟩)) rfl (cN k rfl rfl rfl hk3) ?_))
    | ((with_reducible refine bA (some 61) (.load 9 (.tmp 60)) (some (2,false)) ?_);go_must (refine aj (.string (chS k)) rfl (aK k (.string (chS k)) (st.mem.get 0 rfl) rfl dx (gr hk3)) ?_))
    | (go_at_call 15;go_must (refine (ce_erase st HX1.out hn3 k hkn (by omega) (chS k) rfl).mono ?_);rintro e we ⟨rfl,t1,st9,hta,htb⟩;have HTA:Hid (∀j,j<k→t1.held (5+j)=(tC (keyB13 0) (keyI dd) n).held (5+j)):=hta;have HTB:Hid (t1.held (5+k)=none):=htb;clear hta htb;replace st:=st9;clear st9))
   go_loopw [14] (fun vi wr=>∃i:Nat,i≤n∧vi=.int .i64 (i:Int)∧Hid (Ce w1 wr g mb kv sb hb rb m t1 k (2 * n+1) [(q10,chR,51)])) (fun vi _=>match vi with | .int _ q=>n - q.toNat|_=>0)
   case atStart=>exact ⟨0,by omega,rfl,st⟩
   case round =>
    clear st
    obtain ⟨i,hi,rfl,HST⟩:=hrel
    have st:=HST.out
    clear HST
    by_cases hlt:i<n
    ·have hli:(i:Int)<(n:Int):=by omega
     have hi3:i<3:=by omega
     have hw:IntKind.i64.wrap ((i:Int)+1)=(i:Int)+1:=dt _ (by omega) (by omega)
     have hw5:IntKind.i64.wrap (5+(i:Int))=5+(i:Int):=dt _ (by omega) (by omega)
     by_cases hik:i<k
     ·have hikI:(i:Int)<(k:Int):=by omega
      have HGE:decide ((k:Int)≤(i:Int))=false:=decide_eq_false (by omega)
      obtain ⟨X,hX⟩:∃X,X=keyI dd i:=⟨_,rfl⟩
      have HXX:Hid (∀_:Unit,X=keyI dd i):=fun _=>hX
      have HXL:Hid (∀_:Unit,X.length=32):=fun _=>by rw [hX];exact HKL.out () i
      have HDC:Hid (∀_:Unit,((u8s dd).drop (i * 32)).take 32=u8s X):=fun _=>by rw [hX];exact fx hi3
      have HZ:Hid (∀p,ChP p k→keyV t1.held p (keyB13 0) true (chk i)=(X,0)):=fun p hp=>by rw [hX];exact ch_above hp hik hn3 hkn (fun j=>HKL.out () j) HKB.out HTA.out
      clear hX
      go_wp2_with (first
       | ((with_reducible refine ae (some 73) (.indexAddr 51 (.tmp 10) (.tmp 72)) ?_);go_must (refine aj (.pointer (some ⟨q10,i,none⟩)) rfl (cN i rfl rfl rfl hi3) ?_))
       | ((with_reducible refine ae (some 74) (.load 9 (.tmp 73)) ?_);go_must (refine aj (.string (chS i)) rfl (aK i (.string (chS i)) (st.mem.get 0 rfl) rfl dx (gr hi3)) ?_))
       | (go_at_call 12;go_must (refine (ce_key st HT1.out HQ1.out HX1.out i hi3 (chS i) rfl X 0 HZ.out).mono ?_);rintro e wp ⟨rfl,st9⟩;replace st:=st9;clear st9)
       | ((with_reducible refine ae (some 15) (.alloc 43) ?_);go_must (refine aY _ aD ?_);intro wa q15 hba hqa hra;replace st:=st.add hba hra hqa;clear hba hqa hra)
       | ((with_reducible refine ae none (.store 43 (.tmp 15) (.tmp 76)) ?_);go_must (refine bH (u8s X) (st.mem.get 0 rfl) rfl rfl 32 aq (by simp [aa]) (by rw [aa,HXL.out ()]) (ai _) ?_);intro wb hub hrb;replace st:=st.updR 0 rfl hub hrb;clear hub hrb))
      refine aA ?_
      refine aC (T:=fun W=>(Row W q15 (u8s X) 43∧Row W q5 (u8s dd) 50)) (by kernel_rfl) st.mem ?_
      intro wz hbz hmz
      replace st:=st.below hbz
      have HTW:Hid (Row wz q15 (u8s X) 43∧Row wz q5 (u8s dd) 50):=⟨st.mem.get 0 rfl,Row.bel HR5.out st.mem.below⟩
      clear hbz hmz
      refine aT 0 (v:=.int .i64 (i:Int)) rfl (by kernel_rfl) rfl (fun W _=>by go_simp) HTW.out ?_
      go_simp
      refine aT 1 (v:=.int .i64 (k:Int)) rfl (by kernel_rfl) rfl (fun W _=>by go_simp) HTW.out ?_
      go_simp
      refine aT 2 (v:=.bool true) rfl (by kernel_rfl) rfl (fun W _=>by go_simp) HTW.out ?_
      go_simp
      refine aT 3 (v:=.bool true) rfl (by kernel_rfl) rfl (fun W _=>by go_simp) HTW.out ?_
      go_simp
      refine aG 4 (v:=.int .i64 0) rfl (by kernel_rfl) rfl (fun W _=>by go_simp) HTW.out ?_
      go_simp
      refine aG 5 (v:=.bool false) rfl (by kernel_rfl) rfl (fun W _=>by go_simp) HTW.out ?_
      go_simp
      refine aG 6 (v:=.bool false) rfl (by kernel_rfl) rfl (fun W _=>by go_simp) HTW.out ?_
      go_simp
      refine aG 7 (v:=.agg (u8s X).toArray) rfl (by kernel_rfl) rfl (fun W hW=>au 0 (u8s X) hW.1 rfl _ aw rfl 32 aq (by rw [aa,HXL.out ()];omega) (by rw [List.drop_zero,List.take_of_length_le (by rw [aa,HXL.out ()];omega)])) HTW.out ?_
      go_simp
      refine aG 8 (v:=.int .i64 (i:Int)) rfl (by kernel_rfl) rfl (fun W _=>by go_simp) HTW.out ?_
      go_simp
      refine aG 9 (v:=.pointer (some ⟨q5,i * 32,none⟩)) rfl (by kernel_rfl) rfl (fun W _=>iE i rfl rfl rfl hi3) HTW.out ?_
      go_simp
      refine aG 10 (v:=.agg (u8s X).toArray) rfl (by kernel_rfl) rfl (fun W hW=>au (i * 32) (u8s X) hW.2 rfl _ aw rfl 32 aq (by rw [aa,HDL.out ()];omega) (HDC.out ())) HTW.out ?_
      go_simp
      refine aG 11 (v:=.bool false) rfl (by kernel_rfl) rfl (fun W hW=>iT 5 32 .u8 X rfl rfl aw b7 aQ eu (HXL.out ())) HTW.out ?_
      go_simp
      refine aG 12 (v:=.bool false) rfl (by kernel_rfl) rfl (fun W _=>by go_simp) HTW.out ?_
      go_simp
      refine aT 13 (v:=.bool false) rfl (by kernel_rfl) rfl (fun W _=>by go_simp) HTW.out ?_
      go_simp
      refine aT 14 (v:=.bool false) rfl (by kernel_rfl) rfl (fun W _=>by go_simp) HTW.out ?_
      go_simp
      refine aG 15 (v:=.int .i64 (i:Int)) rfl (by kernel_rfl) rfl (fun W _=>by go_simp) HTW.out ?_
      go_simp
      refine aG 16 (v:=.int .i64 (k:Int)) rfl (by kernel_rfl) rfl (fun W _=>by go_simp) HTW.out ?_
      go_simp
      refine aG 17 (v:=.bool false) rfl (by kernel_rfl) rfl (fun W _=>by go_simp) HTW.out ?_
      go_simp
      refine aG 18 (v:=.bool false) rfl (by kernel_rfl) rfl (fun W _=>by go_simp) HTW.out ?_
      go_simp
      refine bI 19 rfl (by kernel_rfl) (by kernel_rfl) (by kernel_rfl) rfl HTW.out ?_
      go_simp
      refine bI 20 rfl (by kernel_rfl) (by kernel_rfl) (by kernel_rfl) rfl HTW.out ?_
      go_simp
      refine aG 21 (v:=.bool false) rfl (by kernel_rfl) rfl (fun W _=>by go_simp) HTW.out ?_
      go_simp
      refine aT 22 (v:=.bool false) rfl (by kernel_rfl) rfl (fun W _=>by go_simp) HTW.out ?_
      go_simp
      refine wpAnyH_done (by kernel_rfl) ?_ _
      simp only [endsIn]
      clear HTW
      go_wp2_with fail
      go_roundw
      case rel=>exact ⟨i+1,by omega,by go_num,st.tail⟩
      case measure=>show n - ((i:Int)+1).toNat<n - (i:Int).toNat;omega
     ·have hikI:¬(i:Int)<(k:Int):=by omega
      have hikG:(k:Int)≤(i:Int):=by omega
      obtain ⟨X,hX⟩:∃X,X=zero32:=⟨_,rfl⟩
      have HXL:Hid (∀_:Unit,X.length=32):=fun _=>by rw [hX];rfl
      have HZ:Hid (∀p,ChP p k→keyV t1.held p (keyB13 0) true (chk i)=(X,100)):=fun p hp=>by rw [hX];exact ch_below hp (by omega) hi3 _ _
      clear hX
      go_wp2_with (first
       | ((with_reducible refine ae (some 73) (.indexAddr 51 (.tmp 10) (.tmp 72)) ?_);go_must (refine aj (.pointer (some ⟨q10,i,none⟩)) rfl (cN i rfl rfl rfl hi3) ?_))
       | ((with_reducible refine ae (some 74) (.load 9 (.tmp 73)) ?_);go_must (refine aj (.string (chS i)) rfl (aK i (.string (chS i)) (st.mem.get 0 rfl) rfl dx (gr hi3)) ?_))
       | (go_at_call 12;go_must (refine (ce_key st HT1.out HQ1.out HX1.out i hi3 (chS i) rfl X 100 HZ.out).mono ?_);rintro e wp ⟨rfl,st9⟩;replace st:=st9;clear st9)
       | ((with_reducible refine ae (some 15) (.alloc 43) ?_);go_must (refine aY _ aD ?_);intro wa q15 hba hqa hra;replace st:=st.add hba hra hqa;clear hba hqa hra)
       | ((with_reducible refine ae none (.store 43 (.tmp 15) (.tmp 76)) ?_);go_must (refine bH (u8s X) (st.mem.get 0 rfl) rfl rfl 32 aq (by simp [aa]) (by rw [aa,HXL.out ()]) (ai _) ?_);intro wb hub hrb;replace st:=st.updR 0 rfl hub hrb;clear hub hrb))
      refine aA ?_
      refine aC (T:=fun W=>(Row W q15 (u8s X) 43∧Row W q5 (u8s dd) 50)) (by kernel_rfl) st.mem ?_
      intro wz hbz hmz
      replace st:=st.below hbz
      have HTW:Hid (Row wz q15 (u8s X) 43∧Row wz q5 (u8s dd) 50):=⟨st.mem.get 0 rfl,Row.bel HR5.out st.mem.below⟩
      clear hbz hmz
      refine aT 0 (v:=.int .i64 (i:Int)) rfl (by kernel_rfl) rfl (fun W _=>by go_simp) HTW.out ?_
      go_simp
      refine aT 1 (v:=.int .i64 (k:Int)) rfl (by kernel_rfl) rfl (fun W _=>by go_simp) HTW.out ?_
      go_simp
      refine aT 2 (v:=.bool false) rfl (by kernel_rfl) rfl (fun W _=>by go_simp) HTW.out ?_
      go_simp
      refine aT 3 (v:=.bool false) rfl (by kernel_rfl) rfl (fun W _=>by go_simp) HTW.out ?_
      go_simp
      refine bI 4 rfl (by kernel_rfl) (by kernel_rfl) (by kernel_rfl) rfl HTW.out ?_
      go_simp
      refine bI 5 rfl (by kernel_rfl) (by kernel_rfl) (by kernel_rfl) rfl HTW.out ?_
      go_simp
      refine bI 6 rfl (by kernel_rfl) (by kernel_rfl) (by kernel_rfl) rfl HTW.out ?_
      go_simp
      refine bI 7 rfl (by kernel_rfl) (by kernel_rfl) (by kernel_rfl) rfl HTW.out ?_
      go_simp
      refine bI 8 rfl (by kernel_rfl) (by kernel_rfl) (by kernel_rfl) rfl HTW.out ?_
      go_simp
      refine bI 9 rfl (by kernel_rfl) (by kernel_rfl) (by kernel_rfl) rfl HTW.out ?_
      go_simp
      refine bI 10 rfl (by kernel_rfl) (by kernel_rfl) (by kernel_rfl) rfl HTW.out ?_
      go_simp
      refine bI 11 rfl (by kernel_rfl) (by kernel_rfl) (by kernel_rfl) rfl HTW.out ?_
      go_simp
      refine bI 12 rfl (by kernel_rfl) (by kernel_rfl) (by kernel_rfl) rfl HTW.out ?_
      go_simp
      refine aT 13 (v:=.bool false) rfl (by kernel_rfl) rfl (fun W _=>by go_simp) HTW.out ?_
      go_simp
      refine aT 14 (v:=.bool false) rfl (by kernel_rfl) rfl (fun W _=>by go_simp) HTW.out ?_
      go_simp
      refine aG 15 (v:=.int .i64 (i:Int)) rfl (by kernel_rfl) rfl (fun W _=>by go_simp) HTW.out ?_
      go_simp
      refine aG 16 (v:=.int .i64 (k:Int)) rfl (by kernel_rfl) rfl (fun W _=>by go_simp) HTW.out ?_
      go_simp
      refine aG 17 (v:=.bool true) rfl (by kernel_rfl) rfl (fun W _=>by go_simp) HTW.out ?_
      go_simp
      refine aG 18 (v:=.bool true) rfl (by kernel_rfl) rfl (fun W _=>by go_simp) HTW.out ?_
      go_simp
      refine aG 19 (v:=.int .i64 100) rfl (by kernel_rfl) rfl (fun W _=>by go_simp) HTW.out ?_
      go_simp
      refine aG 20 (v:=.bool false) rfl (by kernel_rfl) rfl (fun W _=>by go_simp) HTW.out ?_
      go_simp
      refine aG 21 (v:=.bool false) rfl (by kernel_rfl) rfl (fun W _=>by go_simp) HTW.out ?_
      go_simp
      refine aT 22 (v:=.bool false) rfl (by kernel_rfl) rfl (fun W _=>by go_simp) HTW.out ?_
      go_simp
      refine wpAnyH_done (by kernel_rfl) ?_ _
      simp only [endsIn]
      clear HTW
      go_wp2_with fail
      go_roundw
      case rel=>exact ⟨i+1,by omega,by go_num,st.tail⟩
      case measure=>show n - ((i:Int)+1).toNat<n - (i:Int).toNat;omega
    ·have hin:n=i:=by omega
     have hli:¬(i:Int)<(n:Int):=by omega
     subst hin
     clear hlt hi
     go_wp2_with fail
     go_loopw [17] (fun vi wr=>∃i:Nat,k≤i∧i≤n∧vi=.int .i64 (i:Int)∧Hid (Ce w1 wr g mb kv sb hb rb m t1 i (2 * n+1+i) [(q10,chR,51)])) (fun vi _=>match vi with | .int _ q=>n - q.toNat|_=>0)
     case atStart=>exact ⟨k,by omega,by omega,rfl,st.more (by omega)⟩
     case round =>
      clear st
      obtain ⟨i,hki,hi,rfl,HST⟩:=hrel
      have st:=HST.out
      clear HST
      by_cases hlt:i<n
      ·have hli:(i:Int)<(n:Int):=by omega
       have hi3:i<3:=by omega
       have hw:IntKind.i64.wrap ((i:Int)+1)=(i:Int)+1:=dt _ (by omega) (by omega)
       have hw5:IntKind.i64.wrap (5+(i:Int))=5+(i:Int):=dt _ (by omega) (by omega)
       have HZ:Hid (∀p,ChP p (i+1)→keyV t1.held p (keyB13 0) true (chk i)=(zero32,120)):=fun p hp=>ch_gone hp hki hlt hn3 (fun j=>HKL.out () j) HKB.out HTA.out HTB.out
       go_wp2_with (first
        | ((with_reducible refine ae (some 109) (.indexAddr 51 (.tmp 10) (.tmp 108)) ?_);go_must (refine aj (.pointer (some ⟨q10,i,none⟩)) rfl (cN i rfl rfl rfl hi3) ?_))
        | ((with_reducible refine ae (some 110) (.load 9 (.tmp 109)) ?_);go_must (refine aj (.string (chS i)) rfl (aK i (.string (chS i)) (st.mem.get 0 rfl) rfl dx (gr hi3)) ?_))
        | (go_at_call 16;go_must (refine (ce_attach st HX1.out hi3 (by omega) (chS i) rfl _ rfl).mono ?_);rintro e wp ⟨rfl,st9⟩;replace st:=st9;clear st9)
        | ((with_reducible refine ae (some 118) (.indexAddr 51 (.tmp 10) (.tmp 117)) ?_);go_must (refine aj (.pointer (some ⟨q10,i,none⟩)) rfl (cN i rfl rfl rfl hi3) ?_))
        | ((with_reducible refine ae (some 119) (.load 9 (.tmp 118)) ?_);go_must (refine aj (.string (chS i)) rfl (aK i (.string (chS i)) (st.mem.get 0 rfl) rfl dx (gr hi3)) ?_))
        | (go_at_call 12;go_must (refine (ce_key st HT1.out HQ1.out HX1.out i hi3 (chS i) rfl zero32 120 HZ.out).mono ?_);rintro e wp ⟨rfl,st9⟩;replace st:=st9;clear st9)
        | ((with_reducible refine ae (some 18) (.alloc 43) ?_);go_must (refine aY _ aD ?_);intro wa q18 hba hqa hra;replace st:=st.add hba hra hqa;clear hba hqa hra)
        | ((with_reducible refine ae none (.store 43 (.tmp 18) (.tmp 121)) ?_);go_must (refine bH (u8s zero32) (st.mem.get 0 rfl) rfl rfl 32 aq (by simp [aa]) (by simp [aa,zero32]) (ai _) ?_);intro wb hub hrb;replace st:=st.updR 0 rfl hub hrb;clear hub hrb))
       go_roundw
       case rel=>exact ⟨i+1,by omega,by omega,by go_num,st.tail⟩
       case measure=>show n - ((i:Int)+1).toNat<n - (i:Int).toNat;omega
      ·have hin:n=i:=by omega
       have hli:¬(i:Int)<(n:Int):=by omega
       subst hin
       clear hlt hi
       go_wp2_with (first
        | (go_at_call 11;go_must (refine (ce_paths st hn3 (by omega)).mono ?_);rintro e wu ⟨pp,cap,rfl,st9⟩;replace st:=st9;clear st9))
       go_ret
       exact ⟨rfl,cA HBW.out HBW.out.size st.mem.below⟩
end Go.Proofs.YtlpnafdkhoimhaaGreatDoor
