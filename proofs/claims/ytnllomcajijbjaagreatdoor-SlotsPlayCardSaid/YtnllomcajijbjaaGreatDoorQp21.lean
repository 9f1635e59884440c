import Derived.Test.YtnllomcajijbjaaGreatDoorQp20
import Derived.Test.YtnllomcajijbjaaGreatDoorQp19
import Derived.Test.YtnllomcajijbjaaGreatDoorQp16
set_option maxRecDepth 100000
set_option maxHeartbeats 4000000
namespace Go.Proofs.YtnllomcajijbjaaGreatDoor
open Go Go.RowKit Go.Maps
def z7:List Int:=List.replicate 7 0
structure Inv (d:Dk) (t:Slt):Prop where
 ok:SltOk t
 dead:t.dead=false
 n:64≤d.n
 n2:d.n≤200
 pend:∀s,d.pend s=none
 slot:∀i,i<24→d.kept (2+i)=slC i (t.held i)
 z7:∀a,a<2→(d.kept a).take 7=z7
 cle:∀a n,a<2→numOf a ((d.kept a).take 16)=some n→n≤t.puts∧n % 2=a
 cnt:0<t.puts→numOf (t.puts % 2) ((d.kept (t.puts % 2)).take 16)=some t.puts
 zero:t.puts=0→∀i,t.held i=none
theorem Inv.now {d:Dk} {t:Slt} (h:Inv d t) (s:Nat):d.now s=d.kept s:=by simp [Dk.now,h.pend s]
theorem phL_in {p:Nat→Option (List Int)} {n s:Nat} {c:List Int} (hs:s<n) (h:p s=some c):(s,c)∈phL p n:=by
 unfold phL
 exact List.mem_map.2 ⟨s,(eF p n s).2 ⟨hs,by rw [h];rfl⟩,by rw [h];rfl⟩
theorem cE (p:Nat→Option (List Int)) (n:Nat):((phL p n).map Prod.fst).Nodup:=by rw [phL_keys];exact pensP_nodup p n
theorem phL_out {p:Nat→Option (List Int)} {n s:Nat} (h:p s=none):s ∉ (phL p n).map Prod.fst:=by
 rw [phL_keys,eF,h]
 simp
theorem Kept.at_ {d d':Dk} {p:Nat→Option (List Int)} (h:Kept d (phL p d.n) d') (hp:PhOk d.n p) (s:Nat):d'.kept s=(p s).getD (d.now s):=by
 cases hs:p s with
 | none=>exact h.none s (phL_out hs)
 | some c=>exact h.some (s,c) (phL_in (hp.at_ s c hs).1 hs)
theorem jy {d:Dk} (h:∀s,d.pend s=none) (s:Nat):d.now s=d.kept s:=by simp [Dk.now,h s]
/-- Two phases that were kept. -/
theorem two_good {d:Dk} {p:Nat→Nat→Option (List Int)} (hp0:PhOk d.n (p 0)) (hp1:PhOk d.n (p 1)) (h:(kps d (lsOf p d.n 2)).2=true) :
  (kps d (lsOf p d.n 2)).1.n=d.n∧(∀s,(kps d (lsOf p d.n 2)).1.pend s=none)∧∀s,(kps d (lsOf p d.n 2)).1.kept s=(p 1 s).getD ((p 0 s).getD (d.now s)):=by
 have e:lsOf p d.n 2=[phL (p 0) d.n,phL (p 1) d.n]:=rfl
 rw [e] at h ⊢
 cases h0:(phs d (phL (p 0) d.n)).2 with
 | false=>rw [cX h0,h0] at h;cases h
 | true =>
  rw [cw h0] at h ⊢
  have k0:=(di d _ (cE (p 0) d.n)).1 h0
  generalize (phs d (phL (p 0) d.n)).1=d1 at *
  rw [←k0.n] at h ⊢ hp1
  cases h1:(phs d1 (phL (p 1) d1.n)).2 with
  | false=>rw [cX h1,h1] at h;cases h
  | true =>
   rw [cw h1]
   have k1:=(di d1 _ (cE (p 1) d1.n)).1 h1
   refine ⟨k1.n,k1.pend,fun s=>?_⟩
   show (phs d1 (phL (p 1) d1.n)).1.kept s=_
   rw [k1.at_ hp1 s,jy k0.pend,k0.at_ hp0 s]
/-- Two phases that were cut off: within the first one, or within the second. -/
theorem iL {d:Dk} {p:Nat→Nat→Option (List Int)} (hpd:∀s,d.pend s=none) (hp0:PhOk d.n (p 0)) (h:(kps d (lsOf p d.n 2)).2=false) :
  (kps d (lsOf p d.n 2)).1.n=d.n∧(((kps d (lsOf p d.n 2)).1.kept=d.kept∧∀s,(kps d (lsOf p d.n 2)).1.pend s=none∨(kps d (lsOf p d.n 2)).1.pend s=p 0 s) ∨
   ((∀s,(kps d (lsOf p d.n 2)).1.kept s=(p 0 s).getD (d.now s))∧∀s,(kps d (lsOf p d.n 2)).1.pend s=none∨(kps d (lsOf p d.n 2)).1.pend s=p 1 s)):=by
 have e:lsOf p d.n 2=[phL (p 0) d.n,phL (p 1) d.n]:=rfl
 have mem:∀ {q:Nat→Option (List Int)} {n s:Nat} {c:List Int},(s,c)∈phL q n→q s=some c:=fun hh=>(phL_mem hh).2
 have part:∀(d:Dk) (q:Nat→Option (List Int)) (n:Nat) (m:Dk),(∀s,d.pend s=none)→(Cut d (phL q n) m∨Put d (phL q n) m)→∀s,m.pend s=none∨m.pend s=q s:=by
  intro d q n m hd hm s
  rcases hm with hm|hm
  ·rcases hm.pend s with h1|⟨c,h1,h2⟩
   ·exact Or.inl (h1.trans (hd s))
   ·exact Or.inr (h2.trans (mem h1).symm)
  ·by_cases hin:s∈(phL q n).map Prod.fst
   ·obtain ⟨x,hx,rfl⟩:=List.mem_map.1 hin
    exact Or.inr ((hm.some x hx).trans (mem (c:=x.2) hx).symm)
   ·exact Or.inl ((hm.none s hin).trans (hd s))
 rw [e] at h ⊢
 cases h0:(phs d (phL (p 0) d.n)).2 with
 | false =>
  rw [cX h0]
  obtain ⟨m,hm,e1,e2,e3⟩:=(di d _ (cE (p 0) d.n)).2 h0
  refine ⟨?_,Or.inl ⟨?_,?_⟩⟩
  ·rw [←e3];rcases hm with hm|hm<;>exact hm.n
  ·rw [←e1];rcases hm with hm|hm<;>exact hm.kept
  ·rw [←e2];exact part d (p 0) d.n m hpd hm
 | true =>
  rw [cw h0] at h ⊢
  have k0:=(di d _ (cE (p 0) d.n)).1 h0
  have k0a:=k0.at_ hp0
  generalize (phs d (phL (p 0) d.n)).1=d1 at *
  cases h1:(phs d1 (phL (p 1) d.n)).2 with
  | true=>rw [cw h1] at h;cases h
  | false =>
   rw [cX h1]
   obtain ⟨m,hm,e1,e2,e3⟩:=(di d1 _ (cE (p 1) d.n)).2 h1
   refine ⟨?_,Or.inr ⟨fun s=>?_,?_⟩⟩
   ·rw [←e3,←k0.n];rcases hm with hm|hm<;>exact hm.n
   ·rw [←k0a s]
    have:m.kept=d1.kept:=by rcases hm with hm|hm<;>exact hm.kept
    rw [←e1,this]
   ·rw [←e2];exact part d1 (p 1) d.n m k0.pend hm
theorem cR (t:Slt) (k:Nat) (N:Ent) (s:Nat):putPh t k N 0 s=if s=(t.puts+1) % 2 then some (cntC (t.puts+1)) else if s=2+k then some (unC (t.held k)) else none:=by
 show (if true=true∧s=(t.puts+1) % 2 then some (cntC (t.puts+1)) else if true=true∧s=2+k then some (unE ((t.held k).getD noEnt)) else none)=_
 rw [←unC_get]
 simp
theorem gN (t:Slt) (k:Nat) (N:Ent) (s:Nat):putPh t k N 1 s=if s=2+k then some (mkC k N) else none:=by
 show (if true=true∧s=2+k then some (mkC k N) else none)=_
 simp
theorem putS_ok {t:Slt} {k:Nat} {N:Ent} (h:SltOk t) (hp:t.puts<200) (hk:k<24) (hN:EntOk N):SltOk (putS t k N):=by
 refine ⟨fun i x hx=>?_,by show t.puts+1≤200;omega⟩
 by_cases he:i=k
 ·subst he
  rw [show (putS t i N).held i=some N from bo _ _ _] at hx
  simp only [Option.some.injEq] at hx
  subst hx
  exact ⟨hk,hN⟩
 ·rw [show (putS t k N).held i=t.held i from aR _ _ he] at hx
  exact h.held i x hx
theorem put_inv {d:Dk} {t:Slt} {k:Nat} {N:Ent} (h:Inv d t) (hp:t.puts<200) (hk:k<24) (hN:EntOk N) (hr:(putR d t k N).2=true):Inv (putR d t k N).1 (putS t k N)∧(putR d t k N).1.n=d.n:=by
 obtain ⟨e1,e2,e3⟩:=two_good (eB h.ok hN hk h.n 0) (eB h.ok hN hk h.n 1) hr
 change (putR d t k N).1.n=d.n at e1
 change ∀s,(putR d t k N).1.pend s=none at e2
 have e4:∀s,(putR d t k N).1.kept s=if s=2+k then mkC k N else if s=(t.puts+1) % 2 then cntC (t.puts+1) else d.kept s:=by
  intro s
  have:=e3 s
  change (putR d t k N).1.kept s=_ at this
  rw [this,gN,cR,h.now]
  by_cases h1:s=2+k
  ·simp only [if_pos h1,Option.getD_some]
  ·by_cases h2:s=(t.puts+1) % 2
   ·simp only [if_neg h1,if_pos h2,Option.getD_some,Option.getD_none]
   ·simp only [if_neg h1,if_neg h2,Option.getD_none]
 refine ⟨⟨putS_ok h.ok hp hk hN,h.dead,by rw [e1];exact h.n,by rw [e1];exact h.n2,e2,fun i hi=>?_,fun a ha=>?_,fun a n ha hn=>?_,fun _=>?_,fun h0=>absurd h0 (by show ¬t.puts+1=0;omega)⟩,e1⟩
 ·rw [e4]
  by_cases he:i=k
  ·subst he
   rw [if_pos rfl,show (putS t i N).held i=some N from bo _ _ _]
   rfl
  ·rw [if_neg (by omega),if_neg (by omega),show (putS t k N).held i=t.held i from aR _ _ he]
   exact h.slot i hi
 ·rw [e4,if_neg (by omega)]
  by_cases h2:a=(t.puts+1) % 2
  ·rw [if_pos h2];exact cntC_7 _ (by omega)
  ·rw [if_neg h2];exact h.z7 a ha
 ·rw [e4,if_neg (by omega)] at hn
  show n≤t.puts+1∧_
  by_cases h2:a=(t.puts+1) % 2
  ·rw [if_pos h2,h2,iZ _ (by omega) (by omega)] at hn
   simp only [Option.some.injEq] at hn
   omega
  ·rw [if_neg h2] at hn
   have:=h.cle a n ha hn
   omega
 ·show numOf ((t.puts+1) % 2) _=some (t.puts+1)
  have e9:=e4 ((t.puts+1) % 2)
  rw [if_neg (by omega),if_pos rfl] at e9
  rw [show (putR d t k N).1.kept ((putS t k N).puts % 2)=cntC (t.puts+1) from e9]
  exact iZ _ (by omega) (by omega)
theorem dS (t:Slt) (k:Nat) (s:Nat):eraPh t k 0 s=if s=2+k then some (unC (t.held k)) else none:=by
 show (if true=true∧s=2+k then some (unE ((t.held k).getD noEnt)) else none)=_
 rw [←unC_get]
 simp
theorem gH (t:Slt) (k:Nat) (s:Nat):eraPh t k 1 s=if s=2+k then some zeroK else none:=by
 show (if true=true∧s=2+k then some zeroK else none)=_
 simp
theorem eraS_ok {t:Slt} {k:Nat} (h:SltOk t):SltOk (eraS t k):=by
 refine ⟨fun i x hx=>?_,h.puts⟩
 by_cases he:i=k
 ·subst he
  rw [show (eraS t i).held i=none from bo _ _ _] at hx
  cases hx
 ·rw [show (eraS t k).held i=t.held i from aR _ _ he] at hx
  exact h.held i x hx
theorem erase_inv {d:Dk} {t:Slt} {k:Nat} (h:Inv d t) (hk:k<24) (hr:(eraR d t k).2=true):Inv (eraR d t k).1 (eraS t k)∧(eraR d t k).1.n=d.n:=by
 obtain ⟨e1,e2,e3⟩:=two_good (eA h.ok hk h.n 0) (eA h.ok hk h.n 1) hr
 change (eraR d t k).1.n=d.n at e1
 change ∀s,(eraR d t k).1.pend s=none at e2
 have e4:∀s,(eraR d t k).1.kept s=if s=2+k then zeroK else d.kept s:=by
  intro s
  have:=e3 s
  change (eraR d t k).1.kept s=_ at this
  rw [this,gH,dS,h.now]
  by_cases h1:s=2+k
  ·simp only [if_pos h1,Option.getD_some]
  ·simp only [if_neg h1,Option.getD_none]
 refine ⟨⟨eraS_ok h.ok,h.dead,by rw [e1];exact h.n,by rw [e1];exact h.n2,e2,fun i hi=>?_,fun a ha=>?_,fun a n ha hn=>?_,fun h0=>?_,fun h0 i=>?_⟩,e1⟩
 ·rw [e4]
  by_cases he:i=k
  ·subst he
   rw [if_pos rfl,show (eraS t i).held i=none from bo _ _ _]
   rfl
  ·rw [if_neg (by omega),show (eraS t k).held i=t.held i from aR _ _ he]
   exact h.slot i hi
 ·rw [e4,if_neg (by omega)];exact h.z7 a ha
 ·rw [e4,if_neg (by omega)] at hn;exact h.cle a n ha hn
 ·rw [e4,if_neg (by show ¬t.puts % 2=2+k;omega)];exact h.cnt h0
 ·by_cases he:i=k
  ·subst he;exact bo _ _ _
  ·rw [show (eraS t k).held i=t.held i from aR _ _ he];exact h.zero h0 i
theorem kps_three {d:Dk} {p:Nat→Nat→Option (List Int)} (hl:d.left=0) (ho:d.off=false) (hp:∀j,j<3→PhOk d.n (p j)) :
  (kps d (lsOf p d.n 3)).1.n=d.n∧(∀s,(kps d (lsOf p d.n 3)).1.pend s=none)∧∀s,(kps d (lsOf p d.n 3)).1.kept s=(p 2 s).getD ((p 1 s).getD ((p 0 s).getD (d.now s))):=by
 have e:lsOf p d.n 3=[phL (p 0) d.n,phL (p 1) d.n,phL (p 2) d.n]:=rfl
 have h0:=hp 0 (by omega)
 have h1:=hp 1 (by omega)
 have h2:=hp 2 (by omega)
 obtain ⟨a0,b0,c0⟩:=d7 (phL (p 0) d.n) d hl ho
 have k0:=(di d _ (cE (p 0) d.n)).1 a0
 rw [e,cw a0]
 generalize (phs d (phL (p 0) d.n)).1=d1 at *
 obtain ⟨a1,b1,c1⟩:=d7 (phL (p 1) d.n) d1 b0 c0
 have k1:=(di d1 _ (cE (p 1) d.n)).1 a1
 rw [cw a1]
 have k1a:∀s,(phs d1 (phL (p 1) d.n)).1.kept s=(p 1 s).getD (d1.now s):=fun s=>by
  have hh:=k1
  rw [←k0.n] at hh h1 ⊢
  exact hh.at_ h1 s
 generalize (phs d1 (phL (p 1) d.n)).1=d2 at *
 obtain ⟨a2,b2,c2⟩:=d7 (phL (p 2) d.n) d2 b1 c1
 have k2:=(di d2 _ (cE (p 2) d.n)).1 a2
 rw [cw a2]
 have k2a:∀s,(phs d2 (phL (p 2) d.n)).1.kept s=(p 2 s).getD (d2.now s):=fun s=>by
  have hh:=k2
  have e9:d2.n=d.n:=k1.n.trans k0.n
  rw [←e9] at hh h2 ⊢
  exact hh.at_ h2 s
 refine ⟨k2.n.trans (k1.n.trans k0.n),k2.pend,fun s=>?_⟩
 show (phs d2 (phL (p 2) d.n)).1.kept s=_
 rw [k2a,jy k1.pend,k1a,jy k0.pend,k0.at_ h0 s]
theorem mkPh_ok {t:Slt} {n:Nat} (h:SltOk t) (hn:64≤n) (j:Nat):PhOk n (mkPh t j):=by
 match j with
 | 0=>exact mkA_ok (by omega) hn h.ent
 | 1=>exact mkB_ok hn
 | _+2=>exact mkQ_ok (by omega) hn
theorem make_inv {d:Dk} (hl:d.left=0) (ho:d.off=false) (hn:64≤d.n) (hn2:d.n≤200) (hok:SltOk (loadS d)):Inv (makeD d) newS∧(makeD d).n=d.n∧∀s,s<26→(makeD d).kept s=zeroK:=by
 obtain ⟨e1,e2,e3⟩:=kps_three hl ho (fun j _=>mkPh_ok hok hn j)
 change (makeD d).n=d.n at e1
 change ∀s,(makeD d).pend s=none at e2
 have e4:∀s,s<26→(makeD d).kept s=zeroK:=by
  intro s hs
  have:=e3 s
  change (makeD d).kept s=_ at this
  rw [this]
  show (mkQ ((loadS d).puts % 2) s).getD ((mkB 24 s).getD ((mkA (((loadS d).puts+1) % 2) (loadS d).held 24 s).getD _))=zeroK
  unfold mkQ mkB mkA
  by_cases h1:s=(loadS d).puts % 2
  ·rw [if_pos h1];rfl
  ·rw [if_neg h1]
   by_cases h2:2≤s∧s<2+24
   ·rw [if_pos h2];rfl
   ·rw [if_neg h2,if_pos (by omega)];rfl
 refine ⟨⟨newS_ok,rfl,by rw [e1];exact hn,by rw [e1];exact hn2,e2,fun i hi=>e4 _ (by omega),fun a ha=>by rw [e4 a (by omega)];rfl,fun a n ha hh=>?_,fun h=>absurd h (by show ¬0<0;omega),fun _ _=>rfl⟩,e1,e4⟩
 rw [e4 a (by omega),de a (by rfl)] at hh
 cases hh
theorem inv_cnt {d:Dk} {t:Slt} (h:Inv d t):cntOf d=t.puts:=by
 unfold cntOf
 rw [h.now,h.now]
 have b:∀a,a<2→(numOf a ((d.kept a).take 16)).getD 0≤t.puts:=by
  intro a ha
  cases hh:numOf a ((d.kept a).take 16) with
  | none=>exact Nat.zero_le _
  | some n=>exact (h.cle a n ha hh).1
 have b0:=b 0 (by omega)
 have b1:=b 1 (by omega)
 rcases Nat.eq_zero_or_pos t.puts with h0|h0
 ·omega
 ·have hc:=h.cnt h0
  rcases (by omega:t.puts % 2=0∨t.puts % 2=1) with e|e<;>(rw [e] at hc;rw [hc,Option.getD_some];omega)
theorem inv_load {d:Dk} {t:Slt} (h:Inv d t):loadS d=t:=by
 obtain ⟨held,puts,dead⟩:=t
 have e1:(fun i=>if i<24 then entOf i (d.now (2+i)) else none)=held:=by
  funext i
  by_cases hi:i<24
  ·rw [if_pos hi,h.now,h.slot i hi]
   exact fq i (h.ok.ent i)
  ·rw [if_neg hi]
   cases hx:held i with
   | none=>rfl
   | some x=>exact absurd (h.ok.held i x hx).1 hi
 have e2:=inv_cnt h
 have e3:dead=false:=h.dead
 unfold loadS
 rw [e1,e2,e3]
theorem inv_left {d:Dk} {t:Slt} (h:Inv d t):leftP d 24=fun _=>none:=by
 funext s
 unfold leftP
 by_cases hs:2≤s∧s<2+24∧leftAt d (s - 2)=true
 ·exfalso
  obtain ⟨i,rfl⟩:∃i,s=2+i:=⟨s - 2,by omega⟩
  have hh:=hs.2.2
  rw [Nat.add_sub_cancel_left] at hh
  unfold leftAt at hh
  rw [h.now,h.slot i (by omega)] at hh
  simp only [Bool.and_eq_true,decide_eq_true_eq] at hh
  obtain ⟨⟨h1,_⟩,h3⟩:=hh
  rw [fq i (h.ok.ent _)] at h1
  cases hx:t.held i with
  | none=>rw [hx] at h3;exact h3 rfl
  | some x=>rw [hx] at h1;cases h1
 ·rw [if_neg hs]
theorem inv_open {d:Dk} {t:Slt} (h:Inv d t):openD d=d:=by
 unfold openD
 rw [inv_left h,if_pos]
 have:pensP (fun _=>none) d.n=[]:=by unfold pensP;simp
 rw [this]
 rfl
theorem cD (d:Dk) (cs:List Int) (s:Nat):(d.crash cs).kept s=d.kept s∨∃l c,d.pend s=some l∧(d.crash cs).kept s=tornOf (d.kept s) l c:=by
 show d.keptAt cs (d.rank d.n) s=_∨∃l c,_∧d.keptAt cs (d.rank d.n) s=_
 unfold Dk.keptAt
 cases hp:d.pend s with
 | none=>exact Or.inl rfl
 | some l =>
  simp only
  split
  ·exact Or.inr ⟨l,_,rfl,rfl⟩
  ·exact Or.inl rfl
theorem inv_crash {d:Dk} {t:Slt} (h:Inv d t) (cs:List Int):Inv (d.crash cs) t∧(d.crash cs).kept=d.kept:=by
 have e:(d.crash cs).kept=d.kept:=by
  funext s
  rcases cD d cs s with h1|⟨l,c,h1,_⟩
  ·exact h1
  ·rw [h.pend s] at h1;cases h1
 refine ⟨⟨h.ok,h.dead,h.n,h.n2,fun _=>rfl,fun i hi=>by rw [e];exact h.slot i hi,fun a ha=>by rw [e];exact h.z7 a ha,fun a n ha hn=>by rw [e] at hn;exact h.cle a n ha hn,fun h0=>by rw [e];exact h.cnt h0,h.zero⟩,e⟩
structure Cm (d:Dk) (k:Nat):Prop where
 left:d.left=0
 off:d.off=false
 nm:d.Nm k
theorem Cm.mono {d:Dk} {k m:Nat} (h:Cm d k) (hk:k≤m):Cm d m:=⟨h.left,h.off,h.nm.mono hk⟩
theorem kps_nm:∀(ls:List (List (Nat×List Int))) (d:Dk) (k m:Nat),d.Nm k→(∀l∈ls,l.length≤m)→(kps d ls).1.Nm (k+ls.length * (m+1))
 | [],d,k,m,h,_=>h.mono (by simp)
 | l::ls,d,k,m,h,hm=>by
  have h1:=phs_nm l d k h
  have hl:=hm l (List.mem_cons_self ..)
  have hmul:(ls.length+1) * (m+1)=ls.length * (m+1)+(m+1):=by rw [Nat.add_mul,Nat.one_mul]
  cases hp:(phs d l).2 with
  | true =>
   rw [cw hp]
   exact (kps_nm ls _ _ m h1 (fun x hx=>hm x (List.mem_cons_of_mem _ hx))).mono (by rw [List.length_cons,hmul];omega)
  | false =>
   rw [cX hp]
   exact h1.mono (by rw [List.length_cons,hmul];omega)
theorem lsOf_len (p:Nat→Nat→Option (List Int)) (n K:Nat):∀l∈lsOf p n K,l.length≤n:=by
 intro l hl
 obtain ⟨j,_,rfl⟩:=List.mem_map.1 hl
 rw [fX]
 exact eT _ _
theorem kps_cm {d:Dk} {k:Nat} (h:Cm d k) (p:Nat→Nat→Option (List Int)) (K:Nat) (hn:d.n≤200) (hK:K≤3):Cm (kps d (lsOf p d.n K)).1 (k+1000)∧(kps d (lsOf p d.n K)).2=true:=by
 obtain ⟨a,b,c⟩:=i9 (lsOf p d.n K) d h.left h.off
 refine ⟨⟨b,c,(kps_nm _ d k 200 h.nm (fun l hl=>Nat.le_trans (lsOf_len p d.n K l hl) hn)).mono ?_⟩,a⟩
 rw [e8]
 have:=Nat.mul_le_mul_right 201 hK
 omega
theorem cm_put {d:Dk} {k:Nat} (h:Cm d k) (hn:d.n≤200) (t:Slt) (i:Nat) (N:Ent):Cm (putR d t i N).1 (k+1000)∧(putR d t i N).2=true:=kps_cm h _ 2 hn (by omega)
theorem cm_era {d:Dk} {k:Nat} (h:Cm d k) (hn:d.n≤200) (t:Slt) (i:Nat):Cm (eraR d t i).1 (k+1000)∧(eraR d t i).2=true:=kps_cm h _ 2 hn (by omega)
theorem cm_make {d:Dk} {k:Nat} (h:Cm d k) (hn:d.n≤200):Cm (makeD d) (k+1000):=(kps_cm h _ 3 hn (by omega)).1
theorem cm_open {d:Dk} {k:Nat} (h:Cm d k) (hn:d.n≤200):Cm (openD d) (k+1000):=by
 unfold openD
 split
 ·exact h.mono (by omega)
 ·obtain ⟨a,b,c⟩:=d7 (phL (leftP d 24) d.n) d h.left h.off
  refine ⟨b,c,(phs_nm _ d k h.nm).mono ?_⟩
  rw [fX]
  have:=eT (leftP d 24) d.n
  omega
theorem iX {d:Dk} {k:Nat} (h:d.Nm k) (cs:List Int):Cm (d.crash cs) k:=⟨rfl,rfl,⟨h.s0,h.s1,by show (0:Int)≤0;omega,by show (0:Int)≤1000;omega⟩⟩
theorem cm_new (n:Nat):Cm (Dk.new n) 0:=⟨rfl,rfl,⟨by show (0:Int)≤0;omega,by show (0:Int)≤0;omega,by show (0:Int)≤0;omega,by show (0:Int)≤1000;omega⟩⟩
theorem new_load (n:Nat):loadS (Dk.new n)=newS:=by
 have e1:(fun i=>if i<24 then entOf i ((Dk.new n).now (2+i)) else none)=fun _=>none:=by
  funext i
  by_cases hi:i<24
  ·rw [if_pos hi];exact eQ i
  ·rw [if_neg hi]
 have e2:cntOf (Dk.new n)=0:=by
  unfold cntOf
  rw [show (Dk.new n).now 0=zeroK from rfl,show (Dk.new n).now 1=zeroK from rfl,de 0 rfl,de 1 rfl]
  rfl
 unfold loadS
 rw [e1,e2]
 rfl
open Go Go.RowKit Go.Maps
def keyB (n:Int):List Int:=n::(List.replicate 30 0++[200])
theorem aD (n:Int):(keyB n).length=32:=by simp [keyB]
theorem bg {n:Int} (h:0≤n∧n<256):Bytes (keyB n):=by
 intro x hx
 unfold keyB at hx
 rcases List.mem_cons.1 hx with rfl|hx
 ·exact h
 ·rcases List.mem_append.1 hx with hx|hx
  ·have:=(List.mem_replicate.1 hx).2;omega
  ·have:x=200:=by simpa using hx
   omega
theorem built_key (n:Int):Tryz.prog.built 39 [(0,.int .u8 n),(31,.int .u8 200)]=some (u8s (keyB n)).toArray:=by kernel_rfl
def kS1:List Int:=[1,0,0,0,0,0,0,0,0,0,0,0,0,0,0,0,0,0,0,0,0,0,0,0,0,0,0,0,0,0,0,200]
def kS2:List Int:=[2,0,0,0,0,0,0,0,0,0,0,0,0,0,0,0,0,0,0,0,0,0,0,0,0,0,0,0,0,0,0,200]
theorem kS1_is:keyB 1=kS1:=by kernel_rfl
theorem kS2_is:keyB 2=kS2:=by kernel_rfl
def nonS:List Int:=[0,0,0,3,0,0,0,0,0,0,0,1]
theorem nonS_is:nonceOf ((3:Nat):Int) ((1:Nat):Int)=nonS:=by kernel_rfl
def eKS:List Int:=[173,122,182,108,159,226,191,94,81,212,205,155,168,170,235,51,42,127,130,182,38,176,160,255,59,46,45,92,106,55,77,132]
def mKS1:List Int:=[136,213,223,54,127,242,11,253,160,50,159,168,219,105,85,94,39,185,80,6,248,232,198,237,182,173,14,233,90,209,160,120]
def mKS2:List Int:=[68,140,228,117,224,54,40,239,216,130,114,36,75,244,207,236,228,123,173,170,194,176,10,59,104,156,204,202,87,61,248,158]
def msgDE:List Int:=[101,110,99,0,0,0,0,1]
def innDE:List Int:=[56,190,214,18,210,124,58,84,199,45,24,220,139,200,166,121,255,222,97,225,45,58,97,15,171,8,42,132,134,139,29,29]
theorem msgDE_is:labEnc++be4 0++[1]=msgDE:=by kernel_rfl
theorem innDE_is:shaOf (padIn kS1++msgDE)=innDE:=by kernel_rfl
theorem outDE_is:(shaOf (padOut kS1++innDE)).take 32=[173,122,182,108,159,226,191,94,81,212,205,155,168,170,235,51,42,127,130,182,38,176,160,255,59,46,45,92,106,55,77,132]:=by kernel_rfl
theorem macDE_is:(macOf kS1 (labEnc++be4 0++[1])).take 32=[173,122,182,108,159,226,191,94,81,212,205,155,168,170,235,51,42,127,130,182,38,176,160,255,59,46,45,92,106,55,77,132]:=by
 unfold macOf
 rw [msgDE_is,innDE_is,outDE_is]
def msgDM:List Int:=[109,97,99,0,0,0,0,1]
def innDM:List Int:=[18,189,190,57,73,241,102,79,147,82,156,166,204,164,109,225,6,172,114,171,189,41,164,167,66,96,22,111,119,44,98,27]
theorem msgDM_is:labMac++be4 0++[1]=msgDM:=by kernel_rfl
theorem innDM_is:shaOf (padIn kS1++msgDM)=innDM:=by kernel_rfl
theorem outDM_is:(shaOf (padOut kS1++innDM)).take 32=[136,213,223,54,127,242,11,253,160,50,159,168,219,105,85,94,39,185,80,6,248,232,198,237,182,173,14,233,90,209,160,120]:=by kernel_rfl
theorem macDM_is:(macOf kS1 (labMac++be4 0++[1])).take 32=[136,213,223,54,127,242,11,253,160,50,159,168,219,105,85,94,39,185,80,6,248,232,198,237,182,173,14,233,90,209,160,120]:=by
 unfold macOf
 rw [msgDM_is,innDM_is,outDM_is]
def msgDN:List Int:=[109,97,99,0,0,0,0,1]
def innDN:List Int:=[128,69,49,108,224,82,82,80,232,221,233,9,219,234,31,211,20,154,210,253,38,97,117,146,28,33,113,130,217,75,228,216]
theorem msgDN_is:labMac++be4 0++[1]=msgDN:=by kernel_rfl
theorem innDN_is:shaOf (padIn kS2++msgDN)=innDN:=by kernel_rfl
theorem outDN_is:(shaOf (padOut kS2++innDN)).take 32=[68,140,228,117,224,54,40,239,216,130,114,36,75,244,207,236,228,123,173,170,194,176,10,59,104,156,204,202,87,61,248,158]:=by kernel_rfl
theorem macDN_is:(macOf kS2 (labMac++be4 0++[1])).take 32=[68,140,228,117,224,54,40,239,216,130,114,36,75,244,207,236,228,123,173,170,194,176,10,59,104,156,204,202,87,61,248,158]:=by
 unfold macOf
 rw [msgDN_is,innDN_is,outDN_is]
theorem keyDE_is:encKey kS1=eKS:=by
 have h:=macDE_is
 rw [List.take_of_length_le (by rw [bw];omega)] at h
 exact h
theorem keyDM_is:macKey kS1=mKS1:=by
 have h:=macDM_is
 rw [List.take_of_length_le (by rw [bw];omega)] at h
 exact h
theorem keyDN_is:macKey kS2=mKS2:=by
 have h:=macDN_is
 rw [List.take_of_length_le (by rw [bw];omega)] at h
 exact h
def blkS:List Int:=[66,53,156,60,34,17,204,245,187,113,102,221,202,155,158,203,26,244,219,150,6,17,158,13,19,93,101,5,143,74,170,27,165,177,165,192,243,72,220,206,98,189,219,72,11,107,178,153,153,102,106,145,231,154,147,11,104,228,21,184,253,219,190,125]
theorem blkS_is:blockOf eKS nonS 1=blkS:=by kernel_rfl
theorem xorS_one (k n m B:List Int) (h:blockOf k n 1=B) (hm:m.length≤64):xorOf k n 1 m=m.mapIdx fun i x=>Go.bits .xor .u8 x (B.getD (i % 64) 0):=by
 unfold xorOf
 refine List.ext_getElem (by simp) fun i h1 h2=>?_
 simp only [List.length_mapIdx] at h1
 simp only [List.getElem_mapIdx]
 unfold keyAt
 rw [show i / 64=0 by omega,show (((1:Int)+((0:Nat):Int)) % 4294967296)=1 by omega,h]
def cS:List Int:=[64,53,156,60,34,17,204,245,187,113,102,221,202,155,158,203,26,244,219,150,6,17,158,13,19,93,101,5,143,74,170,211]
theorem encS_is:encOf kS1 nonS kS2=cS:=by
 unfold encOf
 rw [keyDE_is,xorS_one eKS nonS kS2 blkS blkS_is (by rw [show kS2.length=32 from by kernel_rfl];omega)]
 kernel_rfl
def tS1:List Int:=[117,83,115,253,190,70,221,235,18,61,153,254,165,132,97,34]
def tS2:List Int:=[3,209,248,240,108,212,217,161,103,87,205,202,139,233,3,242]
def msgTA:List Int:=[0,0,0,0,0,0,0,4,119,114,97,112,0,0,0,3,0,0,0,0,0,0,0,1,64,53,156,60,34,17,204,245,187,113,102,221,202,155,158,203,26,244,219,150,6,17,158,13,19,93,101,5,143,74,170,211]
def innTA:List Int:=[191,253,52,91,132,238,185,24,121,3,15,198,123,126,190,191,196,221,170,107,90,163,173,84,56,113,45,149,197,236,255,58]
theorem msgTA_is:msgOf nonS labWrap cS=msgTA:=by kernel_rfl
theorem innTA_is:shaOf (padIn mKS1++msgTA)=innTA:=by kernel_rfl
theorem outTA_is:(shaOf (padOut mKS1++innTA)).take 16=[117,83,115,253,190,70,221,235,18,61,153,254,165,132,97,34]:=by kernel_rfl
theorem macTA_is:(macOf mKS1 (msgOf nonS labWrap cS)).take 16=[117,83,115,253,190,70,221,235,18,61,153,254,165,132,97,34]:=by
 unfold macOf
 rw [msgTA_is,innTA_is,outTA_is]
def msgTB:List Int:=[0,0,0,0,0,0,0,4,119,114,97,112,0,0,0,3,0,0,0,0,0,0,0,1,64,53,156,60,34,17,204,245,187,113,102,221,202,155,158,203,26,244,219,150,6,17,158,13,19,93,101,5,143,74,170,211]
def innTB:List Int:=[44,177,88,205,199,152,111,128,147,79,166,26,112,251,80,219,208,205,91,7,131,57,222,183,79,131,193,185,210,114,133,87]
theorem msgTB_is:msgOf nonS labWrap cS=msgTB:=by kernel_rfl
theorem innTB_is:shaOf (padIn mKS2++msgTB)=innTB:=by kernel_rfl
theorem outTB_is:(shaOf (padOut mKS2++innTB)).take 16=[3,209,248,240,108,212,217,161,103,87,205,202,139,233,3,242]:=by kernel_rfl
theorem macTB_is:(macOf mKS2 (msgOf nonS labWrap cS)).take 16=[3,209,248,240,108,212,217,161,103,87,205,202,139,233,3,242]:=by
 unfold macOf
 rw [msgTB_is,innTB_is,outTB_is]
theorem tagS1_is:tagOf kS1 nonS labWrap cS=tS1:=by
 unfold tagOf
 rw [keyDM_is]
 exact macTA_is
theorem tagS2_is:tagOf kS2 nonS labWrap cS=tS2:=by
 unfold tagOf
 rw [keyDN_is]
 exact macTB_is
theorem reckS:unwOk (keyB 2) 3 (1,sealOf (keyB 1) (nonceOf ((3:Nat):Int) ((1:Nat):Int)) labWrap (keyB 2))=false:=by
 rw [kS1_is,kS2_is,nonS_is]
 unfold unwOk sealOf
 rw [encS_is,tagS1_is]
 show decide ((cS++tS1).drop 32=tagOf kS2 (nonceOf ((3:Nat):Int) ((1:Nat):Int)) labWrap ((cS++tS1).take 32))=false
 rw [nonS_is,show (cS++tS1).drop 32=tS1 from by kernel_rfl,show (cS++tS1).take 32=cS from by kernel_rfl,tagS2_is]
 exact decide_eq_false (by unfold tS1 tS2;decide)
open Go Go.RowKit Go.Maps
theorem made_intS:(Tryz.prog.info? 3).map (fun i=>(i.zero,i.size,i.bytes))=some (some (.int .i64 0),1,8):=by kernel_rfl
theorem info_intS:(Tryz.prog.info? 3).map (fun i=>(i.zero,i.size))=some (some (.int .i64 0),1):=by kernel_rfl
section
variable {ops:Array Oper} {rest:List Oper} {a:Act} {w:World} {Q:Exit→Act→World→Prop} {dst:Option Tmp} {typ:TypeId} {pos:String} {aft:Array Edge}
theorem wpl_mkInts {x y:Operand} (c:Nat) (hc:c≤400) {j:Int} (hx:a.eval x=.int .i64 0) (hy:a.eval y=.int .i64 j) (hj:j=(c:Int))
  (h:∀w' v,Below w.heap.size w w'→w'.ownsRow w.heap.size 3 1 v 0 []→wpList Tryz.prog ops Q rest (a.put dst v) w') :
  wpList Tryz.prog ops Q ({dst:=dst,op:=.makeSlice 48 x y,type:=typ,pos:=pos,after:=aft,guard:=none}::rest) a w:=by
 subst hj
 refine wpList_plain rfl fun K hK=>?_
 have hi:=made_intS
 cases hq:Tryz.prog.info? 3 with
 | none=>simp [hq] at hi
 | some q =>
  simp only [hq,Option.map_some,Option.some.injEq,Prod.mk.injEq] at hi
  obtain ⟨w',hr,ho,hg⟩:=run_make_own (P:=Tryz.prog) w w.heap.size 48 3 q (.int .i64 0) 1 cM hq hi.1 hi.2.1 .i64 .i64 c (by rw [hi.2.2];omega) (by unfold maxLen;omega) (Nat.le_refl _)
  have hh:=hK _ _ (h w' _ ⟨hg.os,hg.tape,hg.output,hg.size,fun k hk=>hg.block k hk (by simp)⟩ ho)
  unfold Oper.wp execOp
  simp only [hx,hy,hr,Sem.run_bind,Sem.run_pure,Result.andThen_ok]
  exact hh
end
section
variable {P:Program} {ops:Array Oper} {rest:List Oper} {a:Act} {w w0:World} {Q:Exit→Act→World→Prop} {dst:Option Tmp} {typ:TypeId} {pos:String} {aft:Array Edge} {gd:Option (Nat×Bool)} {S:List Nat} {rows:List (Nat×List Value×TypeId)}
theorem wpl_appV {s x:Operand} {t e:TypeId} (z:Value) (K bytes:Nat) (hw:Region.wanted {dst:=dst,op:=.call {callee:=.builtin .append,args:=#[s,x],argTypes:=#[t,t]},type:=typ,pos:=pos,after:=aft,guard:=gd} (yielded ops a.tmps)=true)
  (ht:P.underlying t=some (.slice e)) (hi:(P.info? e).map (fun i=>(i.zero,i.size,i.bytes))=some (some z,K,bytes)) (hz:z.cells.size=K) (hK0:0<K) (hby:bytes≤100) {v:Value} {n base g:Nat} {cs new:List Value} (hown:w.ownsRow base e K v n cs) (hbase:base≤w.heap.size)
  (hs:a.eval s=v) (hx:a.eval x=.slice (some ⟨g,0,none⟩) 1 1) (hr:Row w g new e) (hl:new.length=K) (h1:∀u∈new,u.oneCell'=true) (hn:n≤100000)
  (h:∀v' w',w'.ownsRow base e K v' (n+1) (cs++new)→w.grownBy w' v.ownBlock→(v'.ownBlock=v.ownBlock∨v'.ownBlock=some w.heap.size)→wpList P ops Q rest (a.put dst v') w') :
  wpList P ops Q ({dst:=dst,op:=.call {callee:=.builtin .append,args:=#[s,x],argTypes:=#[t,t]},type:=typ,pos:=pos,after:=aft,guard:=gd}::rest) a w:=by
 cases hq:P.info? e with
 | none=>simp [hq] at hi
 | some i =>
  simp only [hq,Option.map_some,Option.some.injEq,Prod.mk.injEq] at hi
  obtain ⟨hz1,h2,h3⟩:=hi
  have hbd:(n+1) * bytes≤140737488355328:=by
   have:=Nat.mul_le_mul (show n+1≤100001 by omega) hby
   omega
  obtain ⟨v',w',hrun,ho,hg,_,hb⟩:=run_append_own_at (P:=P) w base t typ e i z K bytes ht hq hz1 h2 h3 hz hK0 v n cs hown ⟨g,0,none⟩ 1 1 new (by rw [hl];omega) (fun j u hu=>by rw [bM,Nat.zero_add,hr.cell j];exact hu) h1 (by unfold maxLen;omega) hbd hbase
  refine wpList_step fun K hK=>?_
  rw [if_pos hw]
  have hh:=hK _ _ (h v' w' ho hg hb)
  unfold Oper.wp execOp
  simp only [resolve,invoke,builtin,Sem.run_bind,Sem.run_pure,Result.andThen_ok,List.map_toArray,List.map_cons,List.map_nil,hs,hx,hrun]
  exact hh
end
theorem fZ {w w':World} {base n:Nat} {e:TypeId} {v:Value} {cs:List Value} (h:w.ownsRow base e 1 v n cs) (hb:Below w.heap.size w w'):w'.ownsRow base e 1 v n cs:=World.ownsRow.kept h (dW hb) (by cases h':v.ownBlock<;>simp)
theorem belowI_grown {w wr w':World} {e:TypeId} {n:Nat} {v:Value} {cs:List Value} (hb:Below w.heap.size w wr) (h:wr.ownsRow w.heap.size e 1 v n cs) (hg:wr.grownBy w' v.ownBlock):Below w.heap.size w w' :=
 ⟨hg.os.trans hb.os,hg.tape.trans hb.tape,hg.output.trans hb.output,Nat.le_trans hb.size hg.size,fun k hk=>(hg.block k (Nat.lt_of_lt_of_le hk hb.size) (fun he=>by have:=(World.ownsRow.lt h k he.symm).1;omega)).trans (hb.block k hk)⟩
def usedL (held:Nat→Option Ent) (i:Nat):List Nat:=(List.range i).filter fun j=>(held j).isSome
theorem jz (held:Nat→Option Ent) (i:Nat):usedL held (i+1)=usedL held i++(if (held i).isSome=true then [i] else []):=by
 unfold usedL
 rw [List.range_succ,List.filter_append]
 congr 1
 cases h:(held i).isSome<;>simp [h]
theorem usedL_le (held:Nat→Option Ent) (i:Nat):(usedL held i).length≤i:=by
 unfold usedL
 exact Nat.le_trans (List.length_filter_le _ _) (by simp)
def intsL (l:List Nat):List Value:=l.map fun j:Nat=>Value.int .i64 (j:Int)
theorem ints_of {w:World} {base:Nat} {v:Value} {ks:List Nat} (h:w.ownsRow base 3 1 v ks.length (intsL ks)):Ints w base v ks:=by
 have h0:=h
 rcases h.2 with ⟨rfl,hz⟩|⟨gb,cap,cur,rfl,hbase,hgb,r1,r2,r3,r4⟩
 ·exact ⟨none,0,by rw [hz],fun h=>absurd h (by omega)⟩
 ·refine ⟨_,cap,rfl,fun _=>⟨gb,rfl,hbase,(Array.getElem?_eq_some_iff.1 hgb).1,fun j i hj=>?_⟩⟩
  have:=World.ownsRow.cells h0 rfl j (.int .i64 (i:Int)) (by simp [intsL,hj])
  rw [bM,Nat.zero_add] at this
  exact this
def freeFrom (held:Nat→Option Ent):Nat→Nat→Int
 | 0,_ => -1
 | k+1,i=>if (held i).isSome=true then freeFrom held k (i+1) else (i:Int)
def freeI (held:Nat→Option Ent):Int:=freeFrom held 24 0
theorem free_any (g mb:Nat) (kv:Value) (sb hb:Nat) (d:Dk) (t:Slt) (w:World) (h:SlAt w g mb kv sb hb d t) :
  Calls Tryz.prog 16 #[.pointer (some ⟨sb,0,none⟩)] w fun e w'=>e=.returned (.int .i64 (freeI t.held))∧Below w.heap.size w w':=by
 have HA:Hid (SlAt w g mb kv sb hb d t):=h
 clear h
 go_enter Tryz.func16,Tryz.ntmps16
 go_wp2_with fail
 go_loopw [6] (fun vi wr=>∃i:Nat,i≤24∧vi=.int .i64 (i:Int)∧Hid (Below w.heap.size w wr)∧Hid (freeI t.held=freeFrom t.held (24 - i) i)) (fun vi _=>24 - (intOf vi).toNat)
 case atStart=>exact ⟨0,by omega,rfl,Below.refl _ _,rfl⟩
 case round =>
  obtain ⟨i,hi,rfl,HB,HF⟩:=hrel
  by_cases hlt:i<24
  ·have hli:(i:Int)<24:=by omega
   obtain ⟨X,hX⟩:∃X,X=(t.held i).getD noEnt:=⟨_,rfl⟩
   have HEL:Hid ((entL X).length=49):=by rw [hX];exact aI (HA.out.ok.len i)
   have hm:=Mem.start wr
   have hfuel:24 - i=(24 - (i+1))+1:=by omega
   cases hs:(t.held i).isSome with
   | true =>
    have HX:Hid ((t.held i).getD noEnt=X∧(t.held i).isSome=true):=⟨hX.symm,hs⟩
    have HF2:Hid (freeI t.held=freeFrom t.held (24 - (i+1)) (i+1)):=by
     show _=_
     rw [HF.out,hfuel,freeFrom,if_pos hs]
    clear hX hs hfuel
    go_wp2_with (first
     | ((with_reducible refine aa (some 13) (.load 60 (.tmp 12)) ?_);go_must (refine aQ (.map (some hb)) ((SlAt.cell (HA.out.below HB.out) 1).trans rfl) rfl cj ?_))
     | ((with_reducible refine aa (some 15) (.lookup 60 (.tmp 13) (.tmp 14) true) ?_);go_must (refine ae (.tuple #[.agg (entL X).toArray,.bool true]) rfl (bG (by have h9:=SlAt.look (HA.out.below HB.out) i (by omega);rw [HX.out.1,HX.out.2] at h9;exact h9) rfl rfl) ?_))
     | ((with_reducible refine aa (some 4) (.alloc 67) ?_);refine aj _ bF hm ?_;clear hm;intro w3 g8 hm)
     | ((with_reducible refine aa none (.store 67 (.tmp 4) (.tmp 16)) ?_);refine ap 0 (entL X) hm rfl rfl rfl 49 bY (aI (by simp [noEnt])) HEL.out (cx _) ?_;clear hm;intro w4 hm))
    go_roundw
    case rel=>exact ⟨i+1,by omega,by go_num,HB.out.trans (hm.below.mono HB.out.size),HF2.out⟩
    case measure=>simp [intOf];omega
   | false =>
    have HX:Hid ((t.held i).getD noEnt=X∧(t.held i).isSome=false):=⟨hX.symm,hs⟩
    have HF2:Hid (freeI t.held=(i:Int)):=by
     show _=_
     rw [HF.out,hfuel,freeFrom,if_neg (by rw [hs];simp)]
    clear hX hs hfuel
    go_wp2_with (first
     | ((with_reducible refine aa (some 13) (.load 60 (.tmp 12)) ?_);go_must (refine aQ (.map (some hb)) ((SlAt.cell (HA.out.below HB.out) 1).trans rfl) rfl cj ?_))
     | ((with_reducible refine aa (some 15) (.lookup 60 (.tmp 13) (.tmp 14) true) ?_);go_must (refine ae (.tuple #[.agg (entL X).toArray,.bool false]) rfl (bG (by have h9:=SlAt.look (HA.out.below HB.out) i (by omega);rw [HX.out.1,HX.out.2] at h9;exact h9) rfl rfl) ?_))
     | ((with_reducible refine aa (some 4) (.alloc 67) ?_);refine aj _ bF hm ?_;clear hm;intro w3 g8 hm)
     | ((with_reducible refine aa none (.store 67 (.tmp 4) (.tmp 16)) ?_);refine ap 0 (entL X) hm rfl rfl rfl 49 bY (aI (by simp [noEnt])) HEL.out (cx _) ?_;clear hm;intro w4 hm))
    go_ret
    exact ⟨by rw [HF2.out];rfl,HB.out.trans (hm.below.mono HB.out.size)⟩
  ·have hi24:i=24:=by omega
   have hli:¬(i:Int)<24:=by omega
   have HF2:Hid (freeI t.held = -1):=by
    show _=_
    rw [HF.out,hi24]
    rfl
   clear hi24
   go_wp2_with fail
   go_ret
   exact ⟨by rw [HF2.out];rfl,HB.out⟩
theorem used_any (g mb:Nat) (kv:Value) (sb hb:Nat) (d:Dk) (t:Slt) (w:World) (h:SlAt w g mb kv sb hb d t) :
  Calls Tryz.prog 17 #[.pointer (some ⟨sb,0,none⟩)] w fun e w'=>∃v,e=.returned v∧Ints w' w.heap.size v (usedL t.held 24)∧Below w.heap.size w w':=by
 have HA:Hid (SlAt w g mb kv sb hb d t):=h
 obtain ⟨q,hq,hk⟩:=h.map
 obtain ⟨c,hc,hlen⟩:=hk.lenRun eb 3
 have HLEN:Hid _:=hlen
 have hc2:c≤400:=by have:=h.ok.puts;omega
 have HB0:Hid (Below w.heap.size w w):=Below.refl _ _
 clear h hk hlen hq hc
 go_enter Tryz.func17,Tryz.ntmps17
 go_wp2_with (first
  | ((with_reducible refine aa (some 10) (.load 60 (.tmp 9)) ?_);go_must (refine aQ (.map (some hb)) ((SlAt.cell HA.out 1).trans rfl) rfl cj ?_))
  | ((with_reducible refine aa (some 11) (.call {callee:=.builtin .len,args:=#[.tmp 10],argTypes:=#[60]}) ?_);go_must (refine ae (.int .i64 (c:Int)) rfl (gZ HLEN.out rfl) ?_))
  | ((with_reducible refine aa (some 12) (.makeSlice 48 (.const (.int .i64 0)) (.tmp 11)) ?_);go_must (refine wpl_mkInts c hc2 rfl rfl rfl ?_);intro w1 v1 hb1 ho1;have HB1:Hid (Below w.heap.size w w1):=hb1;have HO1:Hid (w1.ownsRow w.heap.size 3 1 v1 0 []):=ho1;clear hb1 ho1))
 go_loopw [3,13] (fun vu vi wr=>∃i:Nat,i≤24∧vi=.int .i64 (i:Int)∧Hid (Below w.heap.size w wr)∧Hid (wr.ownsRow w.heap.size 3 1 vu (usedL t.held i).length (intsL (usedL t.held i)))) (fun _ vi _=>24 - (intOf vi).toNat)
 case atStart=>exact ⟨0,by omega,rfl,HB1.out,HO1.out⟩
 case round =>
  clear HB1 HO1
  obtain ⟨i,hi,rfl,HB,HO⟩:=hrel
  by_cases hlt:i<24
  ·have hli:(i:Int)<24:=by omega
   obtain ⟨X,hX⟩:∃X,X=(t.held i).getD noEnt:=⟨_,rfl⟩
   have HEL:Hid ((entL X).length=49):=by rw [hX];exact aI (HA.out.ok.len i)
   have hm:=Mem.start wr
   cases hs:(t.held i).isSome with
   | true =>
    have HX:Hid ((t.held i).getD noEnt=X∧(t.held i).isSome=true):=⟨hX.symm,hs⟩
    have HM:Hid (usedL t.held (i+1)=usedL t.held i++[i]):=by show _=_;rw [jz,if_pos hs]
    clear hX hs
    go_wp2_with (first
     | ((with_reducible refine aa (some 20) (.load 60 (.tmp 19)) ?_);go_must (refine aQ (.map (some hb)) ((SlAt.cell (HA.out.below HB.out) 1).trans rfl) rfl cj ?_))
     | ((with_reducible refine aa (some 22) (.lookup 60 (.tmp 20) (.tmp 21) true) ?_);go_must (refine ae (.tuple #[.agg (entL X).toArray,.bool true]) rfl (bG (by have h9:=SlAt.look (HA.out.below HB.out) i (by omega);rw [HX.out.1,HX.out.2] at h9;exact h9) rfl rfl) ?_))
     | ((with_reducible refine aa (some 5) (.alloc 67) ?_);refine aj _ bF hm ?_;clear hm;intro w3 g8 hm)
     | ((with_reducible refine aa none (.store 67 (.tmp 5) (.tmp 23)) ?_);refine ap 0 (entL X) hm rfl rfl rfl 49 bY (aI (by simp [noEnt])) HEL.out (cx _) ?_;clear hm;intro w4 hm)
     | ((with_reducible refine aa (some 28) (.buildSlice 48 1 #[(0,.tmp 27)]) ?_);go_must (refine gm rfl (.int .i64 0) (.int .i64 (i:Int)) cM info_intS rfl rfl rfl hm ?_);clear hm;intro w6 g6 hb6 hm)
     | ((with_reducible refine aa (some 29) (.call {callee:=.builtin .append,args:=#[.tmp 26,.tmp 28],argTypes:=#[48,48]}) ?_);go_must (refine wpl_appV (.int .i64 0) 1 8 rfl cM made_intS rfl (by omega) (by omega) (fZ HO.out hm.below) (Nat.le_trans HB.out.size hm.below.size) rfl rfl (hm.get 0 rfl) rfl (by intro u hu;simp only [List.mem_cons,List.not_mem_nil,or_false] at hu;subst hu;rfl) (by have:=usedL_le t.held i;omega) ?_);intro v7 w7 ho7 hg7 hd7;have HO7:Hid (w7.ownsRow w.heap.size 3 1 v7 ((usedL t.held i).length+1) (intsL (usedL t.held i)++[.int .i64 (i:Int)])):=ho7;have HB7:Hid (Below w.heap.size w w7):=belowI_grown (HB.out.trans (hm.below.mono HB.out.size)) (fZ HO.out hm.below) hg7;clear ho7 hg7 hd7))
    go_roundw
    case rel =>
     refine ⟨i+1,by omega,by go_num,HB7.out,?_⟩
     show World.ownsRow _ _ _ _ _ _ _
     rw [HM.out,show (usedL t.held i++[i]).length=(usedL t.held i).length+1 by simp,show intsL (usedL t.held i++[i])=intsL (usedL t.held i)++[.int .i64 (i:Int)] by simp [intsL]]
     exact HO7.out
    case measure=>simp [intOf];omega
   | false =>
    have HX:Hid ((t.held i).getD noEnt=X∧(t.held i).isSome=false):=⟨hX.symm,hs⟩
    have HM:Hid (usedL t.held (i+1)=usedL t.held i):=by show _=_;rw [jz,if_neg (by rw [hs];simp),List.append_nil]
    clear hX hs
    go_wp2_with (first
     | ((with_reducible refine aa (some 20) (.load 60 (.tmp 19)) ?_);go_must (refine aQ (.map (some hb)) ((SlAt.cell (HA.out.below HB.out) 1).trans rfl) rfl cj ?_))
     | ((with_reducible refine aa (some 22) (.lookup 60 (.tmp 20) (.tmp 21) true) ?_);go_must (refine ae (.tuple #[.agg (entL X).toArray,.bool false]) rfl (bG (by have h9:=SlAt.look (HA.out.below HB.out) i (by omega);rw [HX.out.1,HX.out.2] at h9;exact h9) rfl rfl) ?_))
     | ((with_reducible refine aa (some 5) (.alloc 67) ?_);refine aj _ bF hm ?_;clear hm;intro w3 g8 hm)
     | ((with_reducible refine aa none (.store 67 (.tmp 5) (.tmp 23)) ?_);refine ap 0 (entL X) hm rfl rfl rfl 49 bY (aI (by simp [noEnt])) HEL.out (cx _) ?_;clear hm;intro w4 hm))
    go_roundw
    case rel=>exact ⟨i+1,by omega,by go_num,HB.out.trans (hm.below.mono HB.out.size),by show World.ownsRow _ _ _ _ _ _ _;rw [HM.out];exact fZ HO.out hm.below⟩
    case measure=>simp [intOf];omega
  ·have hi24:i=24:=by omega
   have hli:¬(i:Int)<24:=by omega
   subst hi24
   go_wp2_with fail
   go_ret
   exact ⟨_,rfl,ints_of HO.out,HB.out⟩
open Go Go.RowKit Go.Maps
structure Sv (w0 w:World) (g mb:Nat) (kv:Value) (sb hb:Nat) (d:Dk) (t:Slt) (k:Nat) (rows:List (Nat×List Value×TypeId)):Prop where
 mem:Mem w0 [] w rows
 at_:SlAt w g mb kv sb hb d t
 inv:Inv d t
 cm:Cm d k
 new:∀q∈footS g mb kv sb hb,w0.heap.size≤q
 apart:∀r∈rows,r.1 ∉ footS g mb kv sb hb
section
variable {w0 w w':World} {g mb:Nat} {kv:Value} {sb hb:Nat} {d d':Dk} {t t':Slt} {k k':Nat} {rows:List (Nat×List Value×TypeId)}
theorem Sv.turn (h:Sv w0 w g mb kv sb hb d t k rows) (ha:SlAt w' g mb kv sb hb d' t') (hi:Inv d' t') (hc:Cm d' k') (hu:UpdS (footS g mb kv sb hb) w w'):Sv w0 w' g mb kv sb hb d' t' k' rows:=by
 refine ⟨⟨hu.os.trans h.mem.os,hu.tape.trans h.mem.tape,hu.output.trans h.mem.output,Nat.le_trans h.mem.size hu.size,fun q hq hn=>?_,fun r hr=>hu.row (h.mem.row r hr) (h.apart r hr),h.mem.nodup,h.mem.fresh⟩,ha,hi,hc,h.new,h.apart⟩
 refine (hu.block q (Nat.lt_of_lt_of_le hq h.mem.size) (fun hh=>?_)).trans (h.mem.block q hq hn)
 have:=h.new q hh
 omega
theorem Sv.below (h:Sv w0 w g mb kv sb hb d t k rows) (hbb:Below w.heap.size w w'):Sv w0 w' g mb kv sb hb d t k rows:=⟨h.mem.call hbb,h.at_.below hbb,h.inv,h.cm,h.new,h.apart⟩
theorem Sv.tail {r:Nat×List Value×TypeId} (h:Sv w0 w g mb kv sb hb d t k (r::rows)):Sv w0 w g mb kv sb hb d t k rows:=⟨h.mem.tail,h.at_,h.inv,h.cm,h.new,fun q hq=>h.apart q (List.mem_cons_of_mem _ hq)⟩
theorem Sv.mono (h:Sv w0 w g mb kv sb hb d t k rows) (hk:k≤k'):Sv w0 w g mb kv sb hb d t k' rows:=⟨h.mem,h.at_,h.inv,h.cm.mono hk,h.new,h.apart⟩
theorem Sv.add (h:Sv w0 w g mb kv sb hb d t k rows) {q:Nat} {l:List Value} {ty:TypeId} (hbb:Below w.heap.size w w') (hr:Row w' q l ty) (hq:w.heap.size≤q):Sv w0 w' g mb kv sb hb d t k ((q,l,ty)::rows):=by
 refine ⟨h.mem.callNew hbb hr hq,h.at_.below hbb,h.inv,h.cm,h.new,fun r hr=>?_⟩
 rcases List.mem_cons.1 hr with rfl|hr
 ·intro hk
  have:=h.at_.lt _ hk
  simp at this
  omega
 ·exact h.apart r hr
theorem Sv.upd (h:Sv w0 w g mb kv sb hb d t k rows) (i:Nat) {q:Nat} {l l':List Value} {ty:TypeId} (hi:rows[i]?=some (q,l,ty)) (hu:Upd q w w') (hr:Row w' q l' ty):Sv w0 w' g mb kv sb hb d t k (rows.set i (q,l',ty)):=by
 have hmem:=List.mem_of_getElem? hi
 have ha:=h.apart _ hmem
 refine ⟨h.mem.upd i hi hu hr,h.at_.keep (fun k hk=>hu.block k (h.at_.lt k hk) (fun e=>ha (e▸hk))),h.inv,h.cm,h.new,fun r hr=>?_⟩
 rcases List.mem_or_eq_of_mem_set hr with h1|h1
 ·exact h.apart r h1
 ·subst h1
  exact ha
theorem Sv.tab (h:Sv w0 w g mb kv sb hb d t k rows) (ht:Tab w0):Tab w:=Tab.mem ht h.mem (by simp)
theorem Sv.qtab (h:Sv w0 w g mb kv sb hb d t k rows) (ht:QTab w0):QTab w:=QTab.mem ht h.mem (by simp)
theorem Sv.old (h:Sv w0 w g mb kv sb hb d t k rows) {v:Value} {cs:List Int} (hv:SlOld w0 v cs):SlA w (foot g mb kv) v cs:=SlA.of_old hv h.mem (fun q hq=>h.new q (by simp [footS,hq]))
theorem Sv.foot2 (h:Sv w0 w g mb kv sb hb d t k rows):∀q∈foot g mb kv,2≤q:=fun q hq=>h.at_.two q (by simp [footS,hq])
theorem put_nv (h:Sv w0 w g mb kv sb hb d t k rows) (i:Int) (hi:okI i=false) (kek key:List Int) :
  Calls Tryz.prog 8 #[.pointer (some ⟨sb,0,none⟩),.int .i64 i,.agg (u8s kek).toArray,.agg (u8s key).toArray] w fun e w'=>e=.returned (.int .i64 70)∧Sv w0 w' g mb kv sb hb d t k rows:=by
 have hr:refI t i=70:=by unfold refI;rw [if_neg (by rw [h.inv.dead];simp),if_neg (by rw [hi];simp)]
 refine (put_no g mb kv sb hb d t i kek key (by rw [hr];omega) w h.at_).mono ?_
 rintro e w' ⟨rfl,h1⟩
 exact ⟨by rw [hr],h.below h1⟩
theorem get_v (h:Sv w0 w g mb kv sb hb d t k rows) (ht:Tab w0) (hq:QTab w0) (i:Int) (kek:List Int) (hkl:kek.length=32) (hkb:Bytes kek) :
  Calls Tryz.prog 11 #[.pointer (some ⟨sb,0,none⟩),.int .i64 i,.agg (u8s kek).toArray] w fun e w'=>e=.returned (.tuple #[.agg (u8s (getV t.held i kek).1).toArray,.int .i64 (getV t.held i kek).2])∧Sv w0 w' g mb kv sb hb d t k rows:=by
 refine (dM g mb kv sb hb d t i kek hkl hkb w (h.tab ht) (h.qtab hq) h.at_).mono ?_
 rintro e w' ⟨rfl,h1⟩
 exact ⟨rfl,h.below h1⟩
theorem free_v (h:Sv w0 w g mb kv sb hb d t k rows) :
  Calls Tryz.prog 16 #[.pointer (some ⟨sb,0,none⟩)] w fun e w'=>e=.returned (.int .i64 (freeI t.held))∧Sv w0 w' g mb kv sb hb d t k rows:=by
 refine (free_any g mb kv sb hb d t w h.at_).mono ?_
 rintro e w' ⟨rfl,h1⟩
 exact ⟨rfl,h.below h1⟩
theorem used_v (h:Sv w0 w g mb kv sb hb d t k rows) :
  Calls Tryz.prog 17 #[.pointer (some ⟨sb,0,none⟩)] w fun e w'=>∃v,e=.returned v∧Ints w' w.heap.size v (usedL t.held 24)∧Sv w0 w' g mb kv sb hb d t k rows∧Below w.heap.size w w':=by
 refine (used_any g mb kv sb hb d t w h.at_).mono ?_
 rintro e w' ⟨v,rfl,h1,h2⟩
 exact ⟨v,rfl,h1,h.below h2,h2⟩
theorem crash_v (h:Sv w0 w g mb kv sb hb d t k rows) (cs:List Int) (vc:Value) (hcb:Bytes cs) (hs:SlA w (foot g mb kv) vc cs) :
  Calls Tryz.prog 13 #[.pointer (some ⟨g,0,none⟩),vc] w fun e w'=>e=.returned (.tuple #[])∧Sv w0 w' g mb kv sb hb (d.crash cs) t k rows∧UpdS (foot g mb kv) w w':=by
 refine (crash_any g mb kv d cs vc hcb w h.at_.dk hs).mono ?_
 rintro e w' ⟨rfl,h1,h2⟩
 exact ⟨rfl,h.turn (h.at_.disk h1 h2) (inv_crash h.inv cs).1 (iX h.cm.nm cs) (h2.mono (fun q hq=>by simp [footS,hq])),h2⟩
theorem Sv.again (h:Sv w0 w g mb kv sb hb d t k rows) {s2 h2:Nat} (ha:SlAt w' g mb kv s2 h2 d' t') (hi:Inv d' t') (hc:Cm d' k') (hs:w.heap.size≤s2) (hh:w.heap.size≤h2) (hu:UpdS (foot g mb kv) w w'):Sv w0 w' g mb kv s2 h2 d' t' k' rows:=by
 have hu2:UpdS (footS g mb kv sb hb) w w':=hu.mono (fun q hq=>by simp [footS,hq])
 refine ⟨⟨hu.os.trans h.mem.os,hu.tape.trans h.mem.tape,hu.output.trans h.mem.output,Nat.le_trans h.mem.size hu.size,fun q hq hn=>?_,fun r hr=>hu2.row (h.mem.row r hr) (h.apart r hr),h.mem.nodup,h.mem.fresh⟩,ha,hi,hc,fun q hq=>?_,fun r hr hk=>?_⟩
 ·refine (hu.block q (Nat.lt_of_lt_of_le hq h.mem.size) (fun hh=>?_)).trans (h.mem.block q hq hn)
  have:=h.new q (by simp [footS,hh])
  omega
 ·have h9:=h.mem.size
  simp only [footS,List.mem_cons] at hq
  rcases hq with rfl|rfl|hq
  ·omega
  ·omega
  ·exact h.new q (by simp [footS,hq])
 ·have h8:=(h.mem.row r hr).lt
  have h9:=h.apart r hr
  simp only [footS,List.mem_cons] at hk h9
  rcases hk with e|e|hk
  ·omega
  ·omega
  ·exact h9 (Or.inr (Or.inr hk))
theorem open_v (h:Sv w0 w g mb kv sb hb d t k rows) (ht:Tab w0) (hk:k≤1000000) :
  Calls Tryz.prog 14 #[.pointer (some ⟨g,0,none⟩)] w fun e w'=>∃s2 h2,e=.returned (.tuple #[.pointer (some ⟨s2,0,none⟩),.int .i64 0])∧Sv w0 w' g mb kv s2 h2 d t (k+1000) rows:=by
 have e1:=inv_load h.inv
 refine (openS_any g mb kv d k h.cm.off h.cm.left h.inv.n h.inv.n2 h.cm.nm hk (by rw [e1];exact h.inv.ok) h.foot2 w (h.tab ht) h.at_.dk).mono ?_
 rintro e w' ⟨s2,h2,rfl,ha,hs,hh,hu⟩
 rw [e1,inv_open h.inv] at ha
 exact ⟨s2,h2,rfl,h.again ha h.inv (h.cm.mono (by omega)) hs hh hu⟩
end
section
variable {w0 w w':World} {g mb:Nat} {kv:Value} {sb hb:Nat} {d:Dk} {t:Slt} {k:Nat} {rows:List (Nat×List Value×TypeId)}
theorem put_w (h:Sv w0 w g mb kv sb hb d t k rows) (ht:Tab w0) (hq:QTab w0) (hk:k≤1000000) (hp:t.puts<200) (i:Nat) (hi:i<24) (kek key:List Int) (hkl:kek.length=32) (hkb:Bytes kek) (hyl:key.length=32) (hyb:Bytes key) (t':Slt) (ht':t'=putS t i (entN t i kek key)) :
  Calls Tryz.prog 8 #[.pointer (some ⟨sb,0,none⟩),.int .i64 (i:Int),.agg (u8s kek).toArray,.agg (u8s key).toArray] w fun e w'=>e=.returned (.int .i64 0)∧(∃d',Sv w0 w' g mb kv sb hb d' t' (k+1000) rows)∧UpdS (footS g mb kv sb hb) w w':=by
 have hc:=cm_put h.cm h.inv.n2 t i (entN t i kek key)
 have hI:=put_inv h.inv hp hi (iI (k:=i) (kek:=kek) hp hyl hyb) hc.2
 refine (put_good g mb kv sb hb d t i hi kek key k hkl hkb hyl hyb h.inv.dead hp h.inv.n h.inv.n2 h.cm.nm hk w (h.tab ht) (h.qtab hq) h.at_ hc.2).mono ?_
 rintro e w' ⟨rfl,h1,h2⟩
 exact ⟨rfl,⟨_,by rw [ht'];exact h.turn h1 hI.1 hc.1 h2⟩,h2⟩
theorem erase_w (h:Sv w0 w g mb kv sb hb d t k rows) (hk:k≤1000000) (i:Nat) (hi:i<24) (t':Slt) (ht':t'=eraS t i) :
  Calls Tryz.prog 10 #[.pointer (some ⟨sb,0,none⟩),.int .i64 (i:Int)] w fun e w'=>e=.returned (.int .i64 0)∧(∃d',Sv w0 w' g mb kv sb hb d' t' (k+1000) rows)∧UpdS (footS g mb kv sb hb) w w':=by
 have hc:=cm_era h.cm h.inv.n2 t i
 have hI:=erase_inv h.inv hi hc.2
 refine (jo g mb kv sb hb d t i hi k h.inv.dead h.inv.n h.inv.n2 h.cm.nm hk w h.at_ hc.2).mono ?_
 rintro e w' ⟨rfl,h1,h2⟩
 exact ⟨rfl,⟨_,by rw [ht'];exact h.turn h1 hI.1 hc.1 h2⟩,h2⟩
theorem crash_w (h:Sv w0 w g mb kv sb hb d t k rows) (cs:List Int) (vc:Value) (hcb:Bytes cs) (hs:SlA w (foot g mb kv) vc cs) :
  Calls Tryz.prog 13 #[.pointer (some ⟨g,0,none⟩),vc] w fun e w'=>e=.returned (.tuple #[])∧∃d',Sv w0 w' g mb kv sb hb d' t k rows:=by
 refine (crash_v h cs vc hcb hs).mono ?_
 rintro e w' ⟨rfl,h1,_⟩
 exact ⟨rfl,_,h1⟩
end
/-- A disk that has just come, and slots made on it. -/
theorem make_new {w0 w:World} {g mb n:Nat} {kv:Value} {rows:List (Nat×List Value×TypeId)} (hn:64≤n) (hn2:n≤200) (hm:Mem w0 [] w rows) (hd:DkAt w g mb kv (Dk.new n)) (hf:∀q∈foot g mb kv,w0.heap.size≤q) (hap:∀r∈rows,r.1 ∉ foot g mb kv) (ht:Tab w0) :
  Calls Tryz.prog 6 #[.pointer (some ⟨g,0,none⟩)] w fun e w'=>∃s2 h2,e=.returned (.tuple #[.pointer (some ⟨s2,0,none⟩),.int .i64 0])∧Sv w0 w' g mb kv s2 h2 (makeD (Dk.new n)) newS 1000 rows∧UpdS (foot g mb kv) w w'∧w.heap.size≤s2∧w.heap.size≤h2:=by
 have hc:=cm_new n
 have hok:SltOk (loadS (Dk.new n)):=by rw [new_load];exact newS_ok
 have ht2:=ht.lt
 refine (makeS_any g mb kv (Dk.new n) 0 hc.off hc.left hn hn2 hc.nm (by omega) hok (fun q hq=>by have:=hf q hq;omega) w (Tab.mem ht hm (by simp)) hd).mono ?_
 rintro e w' ⟨s2,h2,rfl,ha,hs,hh,hu⟩
 have h9:=hm.size
 refine ⟨s2,h2,rfl,⟨⟨hu.os.trans hm.os,hu.tape.trans hm.tape,hu.output.trans hm.output,Nat.le_trans hm.size hu.size,fun q hq hn=>?_,fun r hr=>hu.row (hm.row r hr) (hap r hr),hm.nodup,hm.fresh⟩,ha,(make_inv hc.left hc.off hn hn2 hok).1,(cm_make hc hn2).mono (by omega),fun q hq=>?_,fun r hr hk=>?_⟩,hu,hs,hh⟩
 ·refine (hu.block q (Nat.lt_of_lt_of_le hq hm.size) (fun hh=>?_)).trans (hm.block q hq hn)
  have:=hf q hh
  omega
 ·simp only [footS,List.mem_cons] at hq
  rcases hq with rfl|rfl|hq
  ·omega
  ·omega
  ·exact hf q hq
 ·have h8:=(hm.row r hr).lt
  have h7:=hap r hr
  simp only [footS,List.mem_cons] at hk
  rcases hk with e|e|hk
  ·omega
  ·omega
  ·exact h7 hk
theorem unw_own (kek key:List Int) (i p:Nat) (hl:key.length=32) (hb:Bytes key):unwV kek i (p,sealOf kek (nonceOf (i:Int) (p:Int)) labWrap key)=(key,0):=by
 have h1:(sealOf kek (nonceOf (i:Int) (p:Int)) labWrap key).take 32=encOf kek (nonceOf (i:Int) (p:Int)) key:=by rw [←hl];exact sealOf_take _ _ _ _
 have h2:(sealOf kek (nonceOf (i:Int) (p:Int)) labWrap key).drop 32=tagOf kek (nonceOf (i:Int) (p:Int)) labWrap (encOf kek (nonceOf (i:Int) (p:Int)) key):=by rw [←hl];exact sealOf_drop _ _ _ _
 unfold unwV unwOk
 simp only [h1,h2,decide_true,if_true]
 rw [encOf_twice _ _ hb]
theorem dZ {held:Nat→Option Ent} {i:Nat} {x:Ent} (hi:i<24) (h:held i=some x) (kek:List Int):getV held (i:Int) kek=unwV kek i x:=by
 unfold getV okI
 rw [if_pos (decide_eq_true (by omega)),Int.toNat_natCast,h]
theorem fO {held:Nat→Option Ent} {i:Nat} (hi:i<24) (h:held i=none) (kek:List Int):getV held (i:Int) kek=(zero32,120):=by
 unfold getV okI
 rw [if_pos (decide_eq_true (by omega)),Int.toNat_natCast,h]
theorem iG {held:Nat→Option Ent} {i:Int} (hi:okI i=false) (kek:List Int):getV held i kek=(zero32,70):=by
 unfold getV
 rw [if_neg (by rw [hi];simp)]
theorem putS_get {t:Slt} {i:Nat} (hi:i<24) (kek key:List Int) (hl:key.length=32) (hb:Bytes key):getV (putS t i (entN t i kek key)).held (i:Int) kek=(key,0):=by
 have h1:(putS t i (entN t i kek key)).held i=some (entN t i kek key):=bo _ _ _
 rw [dZ hi h1]
 exact unw_own kek key i (t.puts+1) hl hb
section
variable {ops:Array Oper} {rest:List Oper} {a:Act} {w:World} {Q:Exit→Act→World→Prop} {dst:Option Tmp} {typ:TypeId} {pos:String} {aft:Array Edge} {P:Program}
theorem aC {ty:TypeId} (z:List Value) (hz:∀w,(zeroValue ty).run P w=.ok (.agg z.toArray) w) (h:∀w' q,Below w.heap.size w w'→w.heap.size≤q→Row w' q z ty→wpList P ops Q rest (a.put dst (.pointer (some ⟨q,0,none⟩))) w') :
  wpList P ops Q ({dst:=dst,op:=.alloc ty,type:=typ,pos:=pos,after:=aft,guard:=none}::rest) a w:=by
 refine aj z hz (Mem.start w) ?_
 intro w' q hm
 have hf:=hm.fresh _ (List.mem_cons_self ..)
 simp only [List.not_mem_nil,false_or] at hf
 exact h w' q hm.below hf (hm.get 0 rfl)
theorem aw {ty:TypeId} {x y:Operand} {q:Nat} {l:List Value} {t:TypeId} (l':List Value) (hr:Row w q l t) (hx:a.eval x=.pointer (some ⟨q,0,none⟩)) (hy:a.eval y=.agg l'.toArray) (n:Nat) (hs:(P.info? ty).map (·.size)=some n) (hn:l.length=n) (hn':l'.length=n) (h1:∀v∈l',v.oneCell'=true)
  (h:∀w',Upd q w w'→Row w' q l' t→wpList P ops Q rest a w') :
  wpList P ops Q ({dst:=none,op:=.store ty x y,type:=typ,pos:=pos,after:=aft,guard:=none}::rest) a w:=by
 refine ap 0 l' (Mem.enter hr) rfl hx hy n hs hn hn' h1 ?_
 intro w' hm
 exact h w' hm.toUpd (hm.get 0 rfl)
end
theorem aZ (n:Int) (w:World) :
  Calls Tryz.prog 9 #[.int .u8 n] w fun e w'=>e=.returned (.agg (u8s (keyB n)).toArray)∧Below w.heap.size w w':=by
 have hm:=Mem.start w
 have HL:Hid ((u8s (keyB n)).length=32):=by show _=_;rw [ab,aD]
 go_enter Tryz.func9,Tryz.ntmps9
 go_wp2_with (first
  | ((with_reducible refine aa (some 2) (.alloc 39) ?_);refine aj _ bd hm ?_;clear hm;intro w1 g2 hm)
  | ((with_reducible refine aa (some 4) (.build 39 #[(0,.tmp 3),(31,.const (.int .u8 200))]) ?_);go_must (refine aM (u8s (keyB n)) _ rfl (built_key n) ?_))
  | ((with_reducible refine aa none (.store 39 (.tmp 2) (.tmp 4)) ?_);refine ap 0 (u8s (keyB n)) hm rfl rfl rfl 32 az (by simp [ab]) (HL.out) (aq _) ?_;clear hm;intro w2 hm))
 exact aJ 0 hm rfl Tryz.results9 rfl _ aS rfl 32 az HL.out rfl ⟨rfl,hm.below⟩
end Go.Proofs.YtnllomcajijbjaaGreatDoor
