import Derived.Test.YtmlbjfklaehjnaaGreatDoorQc28
import Derived.Test.YtmlbjfklaehjnaaGreatDoorQc11
import Derived.Test.YtmlbjfklaehjnaaGreatDoorQc24
set_option maxRecDepth 100000
set_option maxHeartbeats 4000000
namespace Go.Proofs.YtmlbjfklaehjnaaGreatDoor
open Go Go.RowKit Go.Maps
structure Stands (kP:List Int) (d:Dk) (pg j s:Nat) (b:List Int):Prop where
 s0:0<s
 s1:s<1152921504606846976
 len:b.length≤480
 bytes:Bytes b
 lt:j<pg
 page:secs d.now (32+8 * j) 8=pageOf kP (j:Int) (s:Int) b
def StU (kP:List Int) (d:Dk) (pg j:Nat):Option Nat→Option (Option (List Int))→Prop
 | none,none=>True
 | some s,some none=>s=0∧j<pg
 | some s,some (some b)=>Stands kP d pg j s b
 | _,_=>False
def StL (kP:List Int) (d:Dk) (pg j:Nat):Option Nat→Option (List Int)→Prop
 | none,none=>True
 | some s,some b=>Stands kP d pg j s b
 | _,_=>False
structure PgE (w0 w:World) (gp g mb:Nat) (kv:Value) (ml mu:Nat):Prop where
 t:Tab w
 q:QTab w
 ge:∀q∈footP gp g mb kv ml mu,w0.heap.size≤q
 w2:2≤w0.heap.size
 bl:Below w0.heap.size w0 w
structure PgSd (w0 w:World) (gp g mb:Nat) (kv:Value) (kP:List Int) (pg k:Nat) (U:Nat→Option (Option (List Int))) (L:Nat→Option (List Int)) (root:Int) (mt:ByteArray) (ml mu:Nat) (P:Pg) (d:Dk):Prop where
 at_:PgAt w gp g mb kv ml mu P d
 off:P.off=false
 on:On d k
 n:d.n=32+8 * pg
 key:P.kP=kP
 rt:P.root=root
 mte:P.mt=mt
 rtb:0≤root∧root<4294967296
 mtb:mt.size≤200
 gn:1≤P.gn.first∧P.gn.first≤1000∧P.gn.first≤P.gn.next∧P.gn.next≤P.gn.limit∧8 * P.gn.next≤8 * P.gn.first+k∧P.gn.limit≤P.gn.first+1+k
 lim:LimOk d P.gn.limit
 u:∀j,StU kP d pg j (P.used j) (U j)
 l:∀j,StL kP d pg j (P.last j) (L j)
 e:PgE w0 w gp g mb kv ml mu
def PgS (w0 w:World) (gp g mb:Nat) (kv:Value) (kP:List Int) (pg k:Nat) (U:Nat→Option (Option (List Int))) (L:Nat→Option (List Int)) (root:Int) (mt:ByteArray):Prop:=∃ml mu P d,PgSd w0 w gp g mb kv kP pg k U L root mt ml mu P d
section
variable {w0 w w':World} {gp g mb ml mu ml' mu' pg k j:Nat} {kv:Value} {kP:List Int} {U:Nat→Option (Option (List Int))} {L:Nat→Option (List Int)} {root:Int} {mt:ByteArray} {P:Pg} {d d':Dk} {M:List Nat}
def Mine (w:World) (q:Nat):Prop:=(∃es c,w.heap[q]?=some (.map es c))∨(∃l,Row w q l 113)∨(∃l,Row w q l 133)∨∃l,Row w q l 250
def Fr (w w':World):Prop:=∀q,q<w.heap.size→¬Mine w q→w'.heap[q]?=w.heap[q]?
theorem PgAt.mine (h:PgAt w gp g mb kv ml mu P d):∀q∈footP gp g mb kv ml mu,Mine w q:=by
 intro q hh
 simp only [footP,foot,List.mem_cons] at hh
 rcases hh with rfl|rfl|rfl|rfl|rfl|e
 ·exact Or.inr (Or.inl ⟨_,h.row⟩)
 ·exact Or.inl h.last.isMap
 ·exact Or.inl h.used.isMap
 ·exact Or.inr (Or.inr (Or.inl ⟨_,h.dk.row⟩))
 ·exact Or.inl h.dk.isMap
 ·obtain ⟨p,cap,rfl,hc,h2⟩:=h.dk.kept.ex
  rcases Nat.eq_zero_or_pos d.n with hn|hn
  ·rw [hn] at e;cases p<;>simp [kbOf] at e
  ·obtain ⟨kb,tl,rfl,hr2⟩:=h2 hn
   have:q=kb:=by simp [kbOf] at e;exact e.2
   subst this
   exact Or.inr (Or.inr (Or.inr ⟨_,hr2⟩))
theorem PgAt.fr (h:PgAt w gp g mb kv ml mu P d) (u:UpdS M w w') (hM:∀q∈M,q∈footP gp g mb kv ml mu):Fr w w':=fun q hq hn=>u.block q hq (fun hh=>hn (h.mine q (hM q hh)))
theorem Fr.bel (h:Below w.heap.size w w'):Fr w w':=fun q hq _=>h.block q hq
theorem PgE.g2 (h:PgE w0 w gp g mb kv ml mu):∀q∈footP gp g mb kv ml mu,2≤q:=fun q hq=>Nat.le_trans h.w2 (h.ge q hq)
theorem foot_in:∀q∈gp::foot g mb kv,q∈footP gp g mb kv ml mu:=fun q hq=>by
 simp only [List.mem_cons] at hq
 rcases hq with rfl|hq<;>simp [footP, *]
theorem PgE.next (h:PgE w0 w gp g mb kv ml mu) (u:UpdS M w w') (hM:∀q∈M,q∈footP gp g mb kv ml mu) (h1:ml'=ml∨w.heap.size≤ml') (h2:mu'=mu∨w.heap.size≤mu'):PgE w0 w' gp g mb kv ml' mu':=by
 have hg3:∀q∈M,w0.heap.size≤q:=fun q hq=>h.ge q (hM q hq)
 have hg2:∀q∈M,2≤q:=fun q hq=>Nat.le_trans h.w2 (hg3 q hq)
 have hs:=h.bl.size
 refine ⟨h.t.updS u hg2,QTab.updS h.q u hg2,fun q hq=>?_,h.w2,dw h.bl u hg3⟩
 simp only [footP,List.mem_cons] at hq
 rcases hq with e|e|e|hq
 ·exact h.ge q (by simp [footP,e])
 ·rcases h1 with h1|h1
  ·exact h.ge q (by simp [footP,e,h1])
  ·omega
 ·rcases h2 with h2|h2
  ·exact h.ge q (by simp [footP,e,h2])
  ·omega
 ·exact h.ge q (by simp [footP,hq])
theorem PgE.below (h:PgE w0 w gp g mb kv ml mu) (hb:Below w.heap.size w w'):PgE w0 w' gp g mb kv ml mu:=h.next (M:=[]) (UpdS.of_below hb) (fun q hq=>by cases hq) (Or.inl rfl) (Or.inl rfl)
theorem PgS.below (h:PgS w0 w gp g mb kv kP pg k U L root mt) (hb:Below w.heap.size w w'):PgS w0 w' gp g mb kv kP pg k U L root mt:=by
 obtain ⟨ml,mu,P,d,h⟩:=h
 exact ⟨ml,mu,P,d,h.at_.below hb,h.off,h.on,h.n,h.key,h.rt,h.mte,h.rtb,h.mtb,h.gn,h.lim,h.u,h.l,h.e.below hb⟩
theorem PgS.bl (h:PgS w0 w gp g mb kv kP pg k U L root mt):Below w0.heap.size w0 w:=by
 obtain ⟨ml,mu,P,d,h⟩:=h
 exact h.e.bl
theorem StU.some {s:Option Nat} {u:Option (Option (List Int))} (h:StU kP d pg j s u):s.isSome=u.isSome:=by
 cases s<;>rcases u with _|_|b<;>first|rfl|exact h.elim
theorem StL.some {s:Option Nat} {u:Option (List Int)} (h:StL kP d pg j s u):s.isSome=u.isSome:=by
 cases s<;>cases u<;>first|rfl|exact h.elim
theorem Stands.same {s:Nat} {b:List Int} (h:Stands kP d pg j s b) (he:secs d'.now (32+8 * j) 8=secs d.now (32+8 * j) 8):Stands kP d' pg j s b:=⟨h.s0,h.s1,h.len,h.bytes,h.lt,he.trans h.page⟩
theorem StU.same {s:Option Nat} {u:Option (Option (List Int))} (h:StU kP d pg j s u) (he:secs d'.now (32+8 * j) 8=secs d.now (32+8 * j) 8):StU kP d' pg j s u:=by
 cases s<;>rcases u with _|_|b
 ·exact h
 ·exact h.elim
 ·exact h.elim
 ·exact h.elim
 ·exact h
 ·exact Stands.same h he
theorem StL.same {s:Option Nat} {u:Option (List Int)} (h:StL kP d pg j s u) (he:secs d'.now (32+8 * j) 8=secs d.now (32+8 * j) 8):StL kP d' pg j s u:=by
 cases s<;>cases u
 ·exact h
 ·exact h.elim
 ·exact h.elim
 ·exact Stands.same h he
theorem high_same (h:∀i,32≤i→d'.now i=d.now i) (j:Nat):secs d'.now (32+8 * j) 8=secs d.now (32+8 * j) 8:=secs_high h (by omega)
end
def SlN (w0 w:World) (v:Value) (bs:List Int):Prop:=∃p cap,v=.slice p bs.length cap∧bs.length≤cap∧(0<bs.length→∃b off,p=some ⟨b,off,none⟩∧Seg w b off bs∧(b<w0.heap.size∨∃l,Row w b l 5))
theorem SlN.apart {w0 w:World} {gp g mb ml mu:Nat} {kv v:Value} {P:Pg} {d:Dk} {bs:List Int} (hv:SlN w0 w v bs) (h:PgAt w gp g mb kv ml mu P d) (hf:∀q∈footP gp g mb kv ml mu,w0.heap.size≤q):SlA w (footP gp g mb kv ml mu) v bs:=by
 obtain ⟨p,cap,rfl,hc,h2⟩:=hv
 refine ⟨p,cap,rfl,hc,fun h0=>?_⟩
 obtain ⟨b,off,rfl,hs,hb⟩:=h2 h0
 refine ⟨b,off,rfl,fun hh=>?_,hs⟩
 rcases hb with hb|⟨l,hr⟩
 ·have:=hf b hh;omega
 ·exact h.noByte hr hh
theorem Tab.bel {w w':World} (h:Tab w) (hb:Below w.heap.size w w'):Tab w':=Tab.updS (L:=[]) h (UpdS.of_below hb) (by simp)
theorem QTab.bel {w w':World} (h:QTab w) (hb:Below w.heap.size w w'):QTab w':=QTab.updS (L:=[]) h (UpdS.of_below hb) (by simp)
theorem alloc_s {w0:World} {gp g mb:Nat} {kv:Value} {kP:List Int} {pg k:Nat} {U:Nat→Option (Option (List Int))} {L:Nat→Option (List Int)} {root:Int} {mt:ByteArray} (hpg:pg≤400) (i:Nat) (hi:i<pg) (hu:((U i).isSome||(L i).isSome)=false) (hlow:∀j,j<i→((U j).isSome||(L j).isSome)=true) (w:World) (h:PgS w0 w gp g mb kv kP pg k U L root mt) :
  Calls Tryz.prog 127 #[.pointer (some ⟨gp,0,none⟩)] w fun e w'=>e=.returned (.tuple #[.int .u32 (i:Int),.int .i64 0])∧PgS w0 w' gp g mb kv kP pg k (upf U i (some none)) L root mt∧Fr w w':=by
 obtain ⟨ml,mu,P,d,h⟩:=h
 refine (alloc_ok gp g mb kv ml mu P d pg h.n hpg h.off i hi (by rw [(h.u _).some,(h.l _).some];exact hu) (fun j hj=>by rw [(h.u _).some,(h.l _).some];exact hlow j hj) w h.at_).mono ?_
 rintro e w' ⟨he,hp',hu'⟩
 refine ⟨he,⟨ml,mu,_,d,hp',h.off,h.on,h.n,h.key,h.rt,h.mte,h.rtb,h.mtb,h.gn,h.lim,fun j=>?_,h.l,h.e.next hu' (fun _ hq=>hq) (Or.inl rfl) (Or.inl rfl)⟩,h.at_.fr hu' (fun _ hq=>hq)⟩
 show StU kP d pg j (upf P.used i (some 0) j) (upf U i (some none) j)
 unfold upf
 split
 ·next hji=>exact ⟨rfl,hji▸hi⟩
 ·exact h.u j
def cntB (U:Nat→Bool):Nat:=((List.range 400).filter fun i=>U i).length
theorem page_far (f:Nat→List Int) (i j:Nat) (b:List Int) (h:j≠i):secs (putSecs f (32+8 * i) b 8) (32+8 * j) 8=secs f (32+8 * j) 8:=jc (fun x hx=>i6 f _ b 8 _ (by omega))
theorem write_a {w0:World} {gp g mb:Nat} {kv:Value} {kP:List Int} {pg k:Nat} {U:Nat→Option (Option (List Int))} {L:Nat→Option (List Int)} {root:Int} {mt:ByteArray} (i:Nat) (bs:List Int) (v:Value) (hpg:pg≤400) (hi:i<pg) (hu:((U i).isSome && !(L i).isSome)=true) (hnl:bs.length≤480) (hbb:Bytes bs) (hk:k<7000000) (w:World) (hv:∀ml mu P d,PgAt w gp g mb kv ml mu P d→(∀q∈footP gp g mb kv ml mu,w0.heap.size≤q)→SlA w (footP gp g mb kv ml mu) v bs) (h:PgS w0 w gp g mb kv kP pg k U L root mt) :
  Calls Tryz.prog 129 #[.pointer (some ⟨gp,0,none⟩),.int .u32 (i:Int),v] w fun e w'=>e=.returned (.int .i64 0)∧PgS w0 w' gp g mb kv kP pg (k+74) (upf U i (some (some bs))) L root mt∧Fr w w':=by
 obtain ⟨ml,mu,P,d,h⟩:=h
 have hg:=h.gn
 have hfr:((P.used i).isSome && !(P.last i).isSome)=true:=by rw [(h.u _).some,(h.l _).some];exact hu
 have hL:L i=none:=by
  cases hy:L i with
  | none=>rfl
  | some b=>rw [hy] at hu;simp at hu
 have hlast:P.last i=none:=by
  have h1:=(h.l i).some
  rw [hL] at h1
  cases hy:P.last i with
  | none=>rfl
  | some b=>rw [hy] at h1;cases h1
 have key:∀(Q:Pg) (d1 d':Dk) (w':World),Q.kP=P.kP∧Q.kS=P.kS∧Q.kN=P.kN∧Q.root=P.root∧Q.mt=P.mt∧Q.off=P.off→Q.last=P.last∧Q.used=P.used→(Q.gn.first=P.gn.first∧Q.gn.next=P.gn.next+1∧Q.gn.next≤Q.gn.limit∧Q.gn.limit≤Q.gn.first+1+(k+66))→LimOk d1 Q.gn.limit→(∀x,32≤x→d1.now x=d.now x)→PgAt w' gp g mb kv ml mu {Q with used:=upf Q.used i (some P.gn.next)} d'→On d' (k+74)→d'.n=d.n→d'.now=putSecs d1.now (32+8 * i) (pageOf P.kP i P.gn.next bs) 8→UpdS (footP gp g mb kv ml mu) w w'→PgS w0 w' gp g mb kv kP pg (k+74) (upf U i (some (some bs))) L root mt:=by
  intro Q d1 d' w' hq1 hq2 hq3 hlo hnow hp' hon hn' hnow' hu'
  refine ⟨ml,mu,_,d',hp',hq1.2.2.2.2.2.trans h.off,hon,by rw [hn'];exact h.n,hq1.1.trans h.key,hq1.2.2.2.1.trans h.rt,hq1.2.2.2.2.1.trans h.mte,h.rtb,h.mtb,?_,fun j hj=>?_,fun j=>?_,fun j=>?_,h.e.next hu' (fun _ hq=>hq) (Or.inl rfl) (Or.inl rfl)⟩
  ·show 1≤Q.gn.first∧Q.gn.first≤1000∧Q.gn.first≤Q.gn.next∧Q.gn.next≤Q.gn.limit∧8 * Q.gn.next≤8 * Q.gn.first+(k+74)∧Q.gn.limit≤Q.gn.first+1+(k+74)
   omega
  ·have h1:=hlo j hj
   rw [hnow',secs_put_low (by omega)]
   exact h1
  ·show StU kP d' pg j (upf Q.used i (some P.gn.next) j) (upf U i (some (some bs)) j)
   unfold upf
   split
   ·next hji =>
    subst hji
    exact ⟨by omega,by omega,hnl,hbb,hi,by rw [hnow',←h.key];exact putSecs_secs _ _ _ 8 (i3 _ _ _ _)⟩
   ·next hji =>
    rw [hq2.2]
    exact (h.u j).same (by rw [hnow',page_far _ _ _ _ hji];exact high_same hnow j)
  ·show StL kP d' pg j (Q.last j) (L j)
   rw [hq2.1]
   by_cases hji:j=i
   ·subst hji
    rw [hlast,hL]
    trivial
   ·exact (h.l j).same (by rw [hnow',page_far _ _ _ _ hji];exact high_same hnow j)
 by_cases heq:P.gn.next=P.gn.limit
 ·obtain ⟨hl,hb⟩:(secs d.now 0 32).length=2048∧Bytes (secs d.now 0 32):=⟨cJ (fun i hi=>h.at_.dk.ok.now (by rw [h.n];omega)),dz 32 (fun i hi=>h.at_.dk.ok.nowB (by rw [h.n];omega))⟩
  obtain ⟨kn,hkn,hknb⟩:=knA_nat (kS:=P.kS) (kN:=P.kN) (pg:=pg) hb (h.lim 0 (by omega)) (h.lim 1 (by omega))
  have hmr:=Gn.more_le' ⟨hg.2.2.1,hg.2.2.2.1⟩ hknb
  refine (pwrite_h gp g mb kv ml mu P d pg (k+66) i bs.length P.gn.next bs v ({P with gn:={first:=(P.gn.more kn).first,next:=(P.gn.more kn).next+1,limit:=(P.gn.more kn).limit}}) (fun d1=>On d1 (k+66)∧d1.n=d.n∧(∀x,32≤x→d1.now x=d.now x)∧LimOk d1 (P.gn.more kn).limit) (fun d1 h1=>⟨h1.2.1,h1.1⟩) ⟨rfl,rfl,rfl⟩ h.n hpg hi h.off hfr rfl hnl hbb (by omega) h.e.g2 w h.e.t h.e.q h.at_ (hv _ _ _ _ h.at_ h.e.ge) (fun W hW=>?_)).mono ?_
  ·refine (takeGen_none gp g mb kv ml mu P d pg k kn hkn h.n hpg ⟨hg.2.2.1,hg.2.2.2.1⟩ (by omega) hknb (by rw [h.rt];exact h.rtb) (by rw [h.mte];exact h.mtb) h.lim h.on (by omega) (fun q hq=>h.e.g2 q (foot_in q hq)) heq W (h.e.t.bel hW) (h.e.q.bel hW) (h.at_.below hW)).mono ?_
   rintro e w' ⟨he,d',h1,h2,h3,h4,h5,h6⟩
   exact ⟨he,d',⟨h2,h3,h4,h5⟩,h1,h6⟩
  ·rintro e w' ⟨he,⟨d1,d',hd1,hp',hon,hn',hnow'⟩,hu'⟩
   refine ⟨he,key ({P with gn:={first:=(P.gn.more kn).first,next:=(P.gn.more kn).next+1,limit:=(P.gn.more kn).limit}}) d1 d' w' ⟨rfl,rfl,rfl,rfl,rfl,rfl⟩ ⟨rfl,rfl⟩ ⟨hmr.1,by show (P.gn.more kn).next+1=_;rw [hmr.2.1],?_,?_⟩ hd1.2.2.2 hd1.2.2.1 hp' hon hn' hnow' hu',h.at_.fr hu' (fun _ hq=>hq)⟩
   ·show (P.gn.more kn).next+1≤(P.gn.more kn).limit
    omega
   ·show (P.gn.more kn).limit≤(P.gn.more kn).first+1+(k+66)
    omega
 ·refine (pwrite_g gp g mb kv ml mu P d pg k i bs.length P.gn.next bs v ({P with gn:={first:=P.gn.first,next:=P.gn.next+1,limit:=P.gn.limit}}) d ⟨rfl,rfl,rfl⟩ h.n rfl hpg hi h.off hfr rfl hnl hbb h.on (by omega) h.e.g2 w h.e.t h.e.q h.at_ (hv _ _ _ _ h.at_ h.e.ge) (fun W hW=>?_)).mono ?_
  ·refine (takeGen_has gp g mb kv ml mu P d heq (by omega) W (h.at_.below hW)).mono ?_
   rintro e w' ⟨he,h1,h2⟩
   exact ⟨he,h1,h2.mono (fun q hq=>by simp only [List.mem_cons,List.not_mem_nil,or_false] at hq;simp [hq])⟩
  ·rintro e w' ⟨he,⟨d',hp',hon,hn',hnow'⟩,hu'⟩
   refine ⟨he,key ({P with gn:={first:=P.gn.first,next:=P.gn.next+1,limit:=P.gn.limit}}) d d' w' ⟨rfl,rfl,rfl,rfl,rfl,rfl⟩ ⟨rfl,rfl⟩ ⟨rfl,rfl,?_,?_⟩ h.lim (fun _ _=>rfl) hp' (hon.mono (by omega)) hn' hnow' hu',h.at_.fr hu' (fun _ hq=>hq)⟩
   ·show P.gn.next+1≤P.gn.limit
    omega
   ·show P.gn.limit≤P.gn.first+1+(k+66)
    omega
theorem write_s {w0:World} {gp g mb:Nat} {kv:Value} {kP:List Int} {pg k:Nat} {U:Nat→Option (Option (List Int))} {L:Nat→Option (List Int)} {root:Int} {mt:ByteArray} (i:Nat) (bs:List Int) (v:Value) (hpg:pg≤400) (hi:i<pg) (hu:((U i).isSome && !(L i).isSome)=true) (hnl:bs.length≤480) (hbb:Bytes bs) (hk:k<7000000) (w:World) (hv:SlN w0 w v bs) (h:PgS w0 w gp g mb kv kP pg k U L root mt) :
  Calls Tryz.prog 129 #[.pointer (some ⟨gp,0,none⟩),.int .u32 (i:Int),v] w fun e w'=>e=.returned (.int .i64 0)∧PgS w0 w' gp g mb kv kP pg (k+74) (upf U i (some (some bs))) L root mt∧Fr w w' :=
 write_a i bs v hpg hi hu hnl hbb hk w (fun _ _ _ _ hp hf=>hv.apart hp hf) h
end Go.Proofs.YtmlbjfklaehjnaaGreatDoor
