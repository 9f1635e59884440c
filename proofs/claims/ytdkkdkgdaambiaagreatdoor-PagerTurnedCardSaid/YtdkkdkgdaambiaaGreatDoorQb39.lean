import Derived.Test.YtdkkdkgdaambiaaGreatDoorQb31
import Derived.Test.YtdkkdkgdaambiaaGreatDoorQb33
import Derived.Test.YtdkkdkgdaambiaaGreatDoorQb36
import Derived.Test.YtdkkdkgdaambiaaGreatDoorQb12
import Derived.Test.YtdkkdkgdaambiaaGreatDoorQb38
import Derived.Test.YtdkkdkgdaambiaaGreatDoorQb13
set_option maxRecDepth 100000
set_option maxHeartbeats 4000000
namespace Go.Proofs.YtdkkdkgdaambiaaGreatDoor
open Go Go.RowKit Go.Maps
structure KSd (w0 w:World) (gk gp g mb:Nat) (kv:Value) (P:Pg) (k:Nat) (F:Dk→Prop) (ml mu:Nat) (d:Dk):Prop where
 pg:PgAt w gp g mb kv ml mu P d
 on:On d k
 n:d.n=32+8 * 6
 f:F d
 t:Tab w
 q:QTab w
 key:Row w gk (u8s kA1) 61
 ap:gk ∉ footP gp g mb kv ml mu
 ge:∀q∈footP gp g mb kv ml mu,w0.heap.size≤q
 w2:2≤w0.heap.size
 bl:Below w0.heap.size w0 w
def KS (w0 w:World) (gk gp g mb:Nat) (kv:Value) (P:Pg) (k:Nat) (F:Dk→Prop):Prop:=∃ml mu d,KSd w0 w gk gp g mb kv P k F ml mu d
structure KDd (w0 w:World) (gk g mb:Nat) (kv:Value) (k:Nat) (F:Dk→Prop) (d:Dk):Prop where
 dk:DkAt w g mb kv d
 on:On d k
 n:d.n=32+8 * 6
 f:F d
 t:Tab w
 q:QTab w
 key:Row w gk (u8s kA1) 61
 ap:gk ∉ foot g mb kv
 ge:∀q∈foot g mb kv,w0.heap.size≤q
 w2:2≤w0.heap.size
 bl:Below w0.heap.size w0 w
def KD (w0 w:World) (gk g mb:Nat) (kv:Value) (k:Nat) (F:Dk→Prop):Prop:=∃d,KDd w0 w gk g mb kv k F d
section
variable {w0 w w':World} {gk gp g mb ml mu ml' mu':Nat} {kv:Value} {P P':Pg} {k k':Nat} {F F':Dk→Prop} {d d':Dk} {L:List Nat}
theorem KSd.g2 (h:KSd w0 w gk gp g mb kv P k F ml mu d):∀q∈footP gp g mb kv ml mu,2≤q:=fun q hq=>Nat.le_trans h.w2 (h.ge q hq)
theorem KSd.next (h:KSd w0 w gk gp g mb kv P k F ml mu d) (u:UpdS L w w') (hL:∀q∈L,q∈footP gp g mb kv ml mu) (hp:PgAt w' gp g mb kv ml' mu' P' d') (hon:On d' k') (hn:d'.n=d.n) (hf:F' d') (h1:ml'=ml∨w.heap.size≤ml') (h2:mu'=mu∨w.heap.size≤mu'):KS w0 w' gk gp g mb kv P' k' F':=by
 have hg3:∀q∈L,w0.heap.size≤q:=fun q hq=>h.ge q (hL q hq)
 have hg2:∀q∈L,2≤q:=fun q hq=>Nat.le_trans h.w2 (hg3 q hq)
 have hlt:=h.key.lt
 have h9:=h.ap
 have hs:=h.bl.size
 simp only [footP,List.mem_cons,not_or] at h9
 refine ⟨ml',mu',d',hp,hon,by rw [hn];exact h.n,hf,h.t.updS u hg2,QTab.updS h.q u hg2,u.row h.key (fun hh=>h.ap (hL _ hh)),fun hh=>?_,fun q hq=>?_,h.w2,b7 h.bl u hg3⟩
 ·simp only [footP,List.mem_cons] at hh
  rcases hh with e|e|e|hq
  ·exact h9.1 e
  ·rcases h1 with h1|h1
   ·exact h9.2.1 (e.trans h1)
   ·omega
  ·rcases h2 with h2|h2
   ·exact h9.2.2.1 (e.trans h2)
   ·omega
  ·exact h9.2.2.2 hq
 ·simp only [footP,List.mem_cons] at hq
  rcases hq with e|e|e|hq
  ·exact h.ge q (by simp [footP,e])
  ·rcases h1 with h1|h1
   ·exact h.ge q (by simp [footP,e,h1])
   ·omega
  ·rcases h2 with h2|h2
   ·exact h.ge q (by simp [footP,e,h2])
   ·omega
  ·exact h.ge q (by simp [footP,hq])
theorem KS.below (h:KS w0 w gk gp g mb kv P k F) (hb:Below w.heap.size w w'):KS w0 w' gk gp g mb kv P k F:=by
 obtain ⟨ml,mu,d,h⟩:=h
 exact h.next (L:=[]) (UpdS.of_below hb) (fun q hq=>by cases hq) (h.pg.below hb) h.on rfl h.f (Or.inl rfl) (Or.inl rfl)
theorem KS.key (h:KS w0 w gk gp g mb kv P k F):Row w gk (u8s kA1) 61:=by
 obtain ⟨ml,mu,d,h⟩:=h
 exact h.key
theorem KD.key (h:KD w0 w gk g mb kv k F):Row w gk (u8s kA1) 61:=by
 obtain ⟨d,h⟩:=h
 exact h.key
theorem KS.bl (h:KS w0 w gk gp g mb kv P k F):Below w0.heap.size w0 w:=by
 obtain ⟨ml,mu,d,h⟩:=h
 exact h.bl
theorem PgAt.noByte {b:Nat} {l:List Value} (h:PgAt w gp g mb kv ml mu P d) (hr:Row w b l 5):b ∉ footP gp g mb kv ml mu:=by
 obtain ⟨es,c,hml⟩:=h.last.isMap
 obtain ⟨es',c',hmu⟩:=h.used.isMap
 obtain ⟨es2,c2,hmb⟩:=h.dk.isMap
 have two:∀ {l':List Value} {t:TypeId},Row w b l' t→t=5:=fun h2=>by
  unfold Row at h2 hr
  rw [hr] at h2
  simp only [Option.some.injEq,Obj.cells.injEq] at h2
  exact h2.2.1.symm
 intro hh
 simp only [footP,foot,List.mem_cons] at hh
 rcases hh with rfl|e|e|rfl|e|e
 ·exact absurd (two h.row) (by decide)
 ·exact aZ hr hml e
 ·exact aZ hr hmu e
 ·exact absurd (two h.dk.row) (by decide)
 ·exact aZ hr hmb e
 ·obtain ⟨p,cap,rfl,hc,h2⟩:=h.dk.kept.ex
  rcases Nat.eq_zero_or_pos d.n with hn|hn
  ·rw [hn] at e;cases p<;>simp [kbOf] at e
  ·obtain ⟨kb,tl,rfl,hr2⟩:=h2 hn
   have:b=kb:=by simp [kbOf] at e;exact e.2
   subst this
   exact absurd (two hr2) (by decide)
end
theorem built_A1:Tryz.prog.built 61 [(1,.int .u8 1)]=some (u8s kA1).toArray:=by kernel_rfl
theorem built_B1:Tryz.prog.built 61 [(1,.int .u8 2)]=some (u8s kB1).toArray:=by kernel_rfl
theorem kw:Bytes kA1:=by unfold Bytes kA1;decide
theorem kB1_bytes:Bytes kB1:=by unfold Bytes kB1;decide
theorem upf_gK:upf (upf (fun _=>none) 0 (some 0)) 0 (some 3)=gK:=by
 funext j
 unfold upf gK
 split<;>rfl
def FA (kS kN:List Int) (d:Dk):Prop:=∃a,a<2∧SupIs kS kN 6 (secs d.now 0 32) a 2 0 [] (fun _=>none)∧SupIs kS kN 6 (secs d.now 0 32) (1 - a) 4 0 [] (fun _=>none)
def FP (kP:List Int) (d:Dk):Prop:=secs d.now (32+8 * 0) 8=pageOf kP ((0:Nat):Int) ((3:Nat):Int) [120]
def FW (kP kS kN:List Int) (d:Dk):Prop:=FA kS kN d∧FP kP d
def FC (kP kS kN:List Int) (d:Dk):Prop:=(∃a,a<2∧SupIs kS kN 6 (secs d.now 0 32) a 6 7 [109] gK∧limitAt (place (secs d.now 0 32) (1 - a))<((6:Nat):Int))∧FP kP d∧∀i,d.pend i=none
def FO (kP kS kN:List Int) (d:Dk):Prop:=(∃a,a<2∧SupIs kS kN 6 (secs d.now 0 32) a 6 7 [109] gK∧SupIs kS kN 6 (secs d.now 0 32) (1 - a) 7 7 [109] gK)∧FP kP d
def Pa (kP kS kN:List Int):Pg:=⟨kP,kS,kN,⟨3,3,4⟩,0,{data:=#[]},fun _=>none,fun _=>none,false⟩
def Pb (kP kS kN:List Int):Pg:=⟨kP,kS,kN,⟨3,3,4⟩,0,{data:=#[]},fun _=>none,upf (fun _=>none) 0 (some 0),false⟩
def Pb2 (kP kS kN:List Int):Pg:=⟨kP,kS,kN,⟨3,4,4⟩,0,{data:=#[]},fun _=>none,upf (fun _=>none) 0 (some 0),false⟩
def Pc (kP kS kN:List Int):Pg:=⟨kP,kS,kN,⟨3,4,4⟩,0,{data:=#[]},fun _=>none,gK,false⟩
def Pd (kP kS kN:List Int):Pg:=⟨kP,kS,kN,⟨3,4,6⟩,7,{data:=#[109]},gK,gK,false⟩
def Pe (kP kS kN:List Int):Pg:=⟨kP,kS,kN,⟨6,6,7⟩,7,strOf [109],gK,gK,false⟩
section
variable {w0 w w':World} {gk gp g mb:Nat} {kv:Value} {P:Pg} {k:Nat} {F:Dk→Prop} {kP kS kN:List Int}
theorem kd_new {w1:World} (hd:DkAt w1 g mb kv (Dk.new (clampK 80))) (hf:∀q∈foot g mb kv,w.heap.size≤q) (hb:Below w.heap.size w w1) (hm:Mem w1 [] w' [(gk,u8s kA1,61)]) (ht:Tab w) (hq:QTab w) (hw2:2≤w.heap.size):KD w w' gk g mb kv 0 (fun d=>d=Dk.new 80):=by
 have hx:Below w.heap.size w w':=hb.trans (hm.below.mono hb.size)
 have hg:=hm.fresh _ (List.mem_cons_self ..)
 simp only [List.not_mem_nil,false_or] at hg
 exact ⟨Dk.new 80,hd.below hm.below,On.new 80,rfl,rfl,Tab.updS (L:=[]) ht (UpdS.of_below hx) (by simp),QTab.updS (L:=[]) hq (UpdS.of_below hx) (by simp),hm.get 0 rfl,fun hh=>by have:=hd.lt _ hh;omega,hf,hw2,hx⟩
theorem k_format (hkP:deriveOf kA1 labPage 0=kP) (hkS:deriveOf kA1 labSuper 0=kS) (hkN:deriveOf kA1 labSuper 1=kN) (h:KD w0 w gk g mb kv 0 (fun d=>d=Dk.new 80)) :
  Calls Tryz.prog 25 #[.pointer (some ⟨g,0,none⟩),.agg (u8s kA1).toArray] w fun e w'=>∃gp,e=.returned (.tuple #[.pointer (some ⟨gp,0,none⟩),.int .i64 0])∧KS w0 w' gk gp g mb kv (Pa kP kS kN) 132 (FA kS kN):=by
 obtain ⟨d,h⟩:=h
 have hz:=h.f
 subst hz
 have hg2:∀q∈foot g mb kv,2≤q:=fun q hq=>Nat.le_trans h.w2 (h.ge q hq)
 refine (format_ok g mb kv (Dk.new 80) 6 0 kA1 kP kS kN _ (zero_area 80) zero_lim0 zero_lim1 hkP hkS hkN rfl (by omega) (by omega) rfl kw (On.new 80) (by omega) w (Nat.le_trans h.w2 h.bl.size) hg2 h.t h.q h.dk).mono ?_
 rintro e w' ⟨gp,ml,mu,d',a,he,hp,hon,hn,ha,h2,h4,_,_,hgp,hml,hmu,hu⟩
 have hlt:=h.key.lt
 have hsz:=h.bl.size
 refine ⟨gp,he,ml,mu,d',hp,hon,hn,⟨a,ha,h2,h4⟩,h.t.updS hu hg2,QTab.updS h.q hu hg2,hu.row h.key h.ap,fun hh=>?_,fun q hq=>?_,h.w2,b7 h.bl hu h.ge⟩
 ·simp only [footP,List.mem_cons] at hh
  rcases hh with e|e|e|hq
  ·omega
  ·omega
  ·omega
  ·exact h.ap hq
 ·simp only [footP,List.mem_cons] at hq
  rcases hq with e|e|e|hq
  ·omega
  ·omega
  ·omega
  ·exact h.ge q hq
theorem k_len (h:KS w0 w gk gp g mb kv P k F) :
  Calls Tryz.prog 26 #[.pointer (some ⟨gp,0,none⟩)] w fun e w'=>e=.returned (.int .i64 6)∧w'=w:=by
 obtain ⟨ml,mu,d,h⟩:=h
 exact mK gp g mb kv ml mu P d 6 h.n (by omega) w h.pg
theorem k_root (h:KS w0 w gk gp g mb kv (Pe kP kS kN) k F) :
  Calls Tryz.prog 21 #[.pointer (some ⟨gp,0,none⟩)] w fun e w'=>e=.returned (.int .u32 7)∧w'=w:=by
 obtain ⟨ml,mu,d,h⟩:=h
 exact root_any gp g mb kv ml mu _ d w h.pg
theorem k_meta (h:KS w0 w gk gp g mb kv (Pe kP kS kN) k F) :
  Calls Tryz.prog 22 #[.pointer (some ⟨gp,0,none⟩)] w fun e w'=>e=.returned (.string {data:=#[109]})∧w'=w:=by
 obtain ⟨ml,mu,d,h⟩:=h
 exact meta_any gp g mb kv ml mu _ d w h.pg
theorem cnt_none:cntS (fun _=>none)=0:=by kernel_rfl
theorem cnt_gK:cntS gK=1:=by kernel_rfl
theorem fresh_a:freshS (Pa kP kS kN)=fun _=>none:=by
 funext i
 rfl
theorem fresh_e:freshS (Pe kP kS kN)=fun _=>none:=by
 funext i
 show (if (gK i).isSome=true then none else gK i)=none
 cases hf:gK i<;>simp
theorem k_room (h:KS w0 w gk gp g mb kv (Pa kP kS kN) k F) :
  Calls Tryz.prog 23 #[.pointer (some ⟨gp,0,none⟩)] w fun e w'=>e=.returned (.int .i64 6)∧KS w0 w' gk gp g mb kv (Pa kP kS kN) k F:=by
 have h9:=h
 obtain ⟨ml,mu,d,h⟩:=h
 refine (room_any gp g mb kv ml mu _ d 6 h.n (by omega) w h.pg).mono ?_
 rintro e w' ⟨he,hb⟩
 refine ⟨?_,h9.below hb⟩
 rw [he,fresh_a,show (Pa kP kS kN).last=fun _=>none from rfl,cnt_none]
 rfl
theorem k_room5 (h:KS w0 w gk gp g mb kv (Pe kP kS kN) k F) :
  Calls Tryz.prog 23 #[.pointer (some ⟨gp,0,none⟩)] w fun e w'=>e=.returned (.int .i64 5)∧KS w0 w' gk gp g mb kv (Pe kP kS kN) k F:=by
 have h9:=h
 obtain ⟨ml,mu,d,h⟩:=h
 refine (room_any gp g mb kv ml mu _ d 6 h.n (by omega) w h.pg).mono ?_
 rintro e w' ⟨he,hb⟩
 refine ⟨?_,h9.below hb⟩
 rw [he,fresh_e,show (Pe kP kS kN).last=gK from rfl,cnt_none,cnt_gK]
 rfl
theorem k_alloc (h:KS w0 w gk gp g mb kv (Pa kP kS kN) k F) :
  Calls Tryz.prog 8 #[.pointer (some ⟨gp,0,none⟩)] w fun e w'=>e=.returned (.tuple #[.int .u32 0,.int .i64 0])∧KS w0 w' gk gp g mb kv (Pb kP kS kN) k F:=by
 obtain ⟨ml,mu,d,h⟩:=h
 refine (alloc_ok gp g mb kv ml mu _ d 6 h.n (by omega) rfl 0 (by omega) rfl (fun j hj=>by omega) w h.pg).mono ?_
 rintro e w' ⟨he,hp,hu⟩
 exact ⟨he,h.next hu (fun _ hq=>hq) hp h.on rfl h.f (Or.inl rfl) (Or.inl rfl)⟩
theorem x_bytes:Bytes [120]:=by unfold Bytes;decide
theorem k_write {w1:World} {gb:Nat} (hk:k<8000000) (hb:Below w1.heap.size w1 w) (hgb:w1.heap.size≤gb) (hv:SlOld w (.slice (some ⟨gb,0,none⟩) 1 1) [120]) (h:KS w0 w1 gk gp g mb kv (Pb kP kS kN) k (FA kS kN)) :
  Calls Tryz.prog 9 #[.pointer (some ⟨gp,0,none⟩),.int .u32 0,.slice (some ⟨gb,0,none⟩) 1 1] w fun e w'=>e=.returned (.int .i64 0)∧KS w0 w' gk gp g mb kv (Pc kP kS kN) (k+8) (FW kP kS kN):=by
 obtain ⟨ml,mu,d,h1⟩:=h
 have hno:gb ∉ footP gp g mb kv ml mu:=fun hh=>by
  have:=h1.pg.lt _ hh
  omega
 have hpg:=h1.pg.below hb
 have hv2:∃b off,some (⟨gb,0,none⟩:Addr)=some ⟨b,off,none⟩∧b ∉ footP gp g mb kv ml mu∧Seg w b off [120]:=by
  obtain ⟨p,cap,he,_,hs⟩:=hv
  obtain ⟨b,off,rfl,hs2⟩:=hs (by simp)
  simp only [Value.slice.injEq,Option.some.injEq,Addr.mk.injEq] at he
  obtain ⟨⟨rfl,rfl,_⟩,_⟩:=he
  exact ⟨gb,0,rfl,hno,hs2⟩
 have h:KSd w0 w gk gp g mb kv (Pb kP kS kN) k (FA kS kN) ml mu d:=⟨hpg,h1.on,h1.n,h1.f,Tab.updS (L:=[]) h1.t (UpdS.of_below hb) (by simp),QTab.updS (L:=[]) h1.q (UpdS.of_below hb) (by simp),h1.key.below' hb,h1.ap,h1.ge,h1.w2,h1.bl.trans (hb.mono h1.bl.size)⟩
 refine (pwrite_g gp g mb kv ml mu (Pb kP kS kN) d 6 k 0 1 3 [120] _ (Pb2 kP kS kN) d ⟨rfl,rfl,rfl⟩ h.n rfl (by omega) (by omega) rfl rfl rfl (by omega) x_bytes h.on (by omega) h.g2 w h.t h.q h.pg ⟨some ⟨gb,0,none⟩,1,rfl,Nat.le_refl _,fun _=>hv2⟩ (fun W hW=>?_)).mono ?_
 ·refine (k7 gp g mb kv ml mu (Pb kP kS kN) d (show (3:Nat)≠4 by decide) (show (3:Nat)<1152921504606846976 by decide) W (h.pg.below hW)).mono ?_
  rintro e w' ⟨he,hp,hu⟩
  exact ⟨he,hp,hu.mono (fun q hq=>by simp only [List.mem_cons,List.not_mem_nil,or_false] at hq;simp [hq])⟩
 ·rintro e w' ⟨he,⟨d',hp,hon,hn,hnow⟩,hu⟩
  have e1:secs d'.now 0 32=secs d.now 0 32:=by rw [hnow];exact jP (by omega)
  have hp':PgAt w' gp g mb kv ml mu (Pc kP kS kN) d':=by
   have h9:=hp
   rw [show upf (Pb2 kP kS kN).used 0 (some 3)=gK from upf_gK] at h9
   exact h9
  refine ⟨he,h.next hu (fun _ hq=>hq) hp' hon hn ⟨?_,?_⟩ (Or.inl rfl) (Or.inl rfl)⟩
  ·have h9:=h.f
   unfold FA at h9 ⊢
   rw [e1]
   exact h9
  ·unfold FP
   rw [hnow]
   exact hI _ _ _ 8 (bZ _ _ _ _)
theorem sB109:strB {data:=#[109]}=[109]:=by rfl
theorem area_ok {d:Dk} (hk:d.Ok) (hn:d.n=32+8 * 6):(secs d.now 0 32).length=2048∧Bytes (secs d.now 0 32):=⟨bL (fun i hi=>hk.now (by omega)),da 32 (fun i hi=>hk.nowB (by omega))⟩
theorem k_commit (hk:k<8000000) (h:KS w0 w gk gp g mb kv (Pc kP kS kN) k (FW kP kS kN)) :
  Calls Tryz.prog 10 #[.pointer (some ⟨gp,0,none⟩),.int .u32 7,.string {data:=#[109]}] w fun e w'=>e=.returned (.int .i64 0)∧KS w0 w' gk gp g mb kv (Pd kP kS kN) (k+66) (FC kP kS kN):=by
 obtain ⟨ml,mu,d,h⟩:=h
 obtain ⟨⟨a,ha,h2,h4⟩,hfp⟩:=h.f
 obtain ⟨hl,hb⟩:=area_ok h.pg.dk.ok h.n
 obtain ⟨e1,e2,h6,hlt⟩:=kn_commit hl hb ha h2 h4
 refine (commit_ok gp g mb kv ml mu (Pc kP kS kN) d 6 k 1 4 a 7 {data:=#[109]} (secs d.now 0 32) (wg (secs d.now 0 32) gK) (keepA kS kN 6 (secs d.now 0 32) a 6 7 [109] gK) ⟨3,4,6⟩ rfl e1 e2 rfl rfl (by rw [sB109];rfl) h.n (by omega) ⟨show (3:Nat)≤4 by omega,show (4:Nat)≤4 by omega⟩ (show (4:Nat)<2305843009213693952 by omega) (by omega) ⟨by omega,by omega⟩ rfl (by omega) rfl (fun i s hs=>?_) h.on hk (fun q hq=>h.g2 q (by simp only [List.mem_cons] at hq;rcases hq with rfl|hq<;>simp [footP, *])) w h.t h.q h.pg).mono ?_
 ·have hs9:gK i=some s:=hs
  unfold gK at hs9
  split at hs9
  ·have:=Option.some.inj hs9
   omega
  ·cases hs9
 ·rintro e w' ⟨he,ml',mu',hp,hml,hmu,hu⟩
  have h8:=d5 (kS:=kS) (kN:=kN) (pg:=6) (at_:=a) (limit:=6) (m:=4) (root:=7) (mt:=[109]) (f:=gK) h.pg.dk.ok h.on (by rw [h.n];omega) rfl kF ha lG.1 (by omega) (by omega) (fun j hj=>by
   have h9:j=a∨j=1 - a:=by omega
   rcases h9 with rfl|rfl
   ·rw [h2.lim];decide
   ·rw [h4.lim];decide)
  refine ⟨he,h.next hu (fun q hq=>by simp only [List.mem_cons] at hq;rcases hq with rfl|hq<;>simp [footP, *]) hp h8.1 h8.2.1 ⟨⟨a,ha,?_,?_⟩,?_,h8.2.2.2.2.2⟩ (Or.inr hml) (Or.inr hmu)⟩
  ·have h9:=h8.2.2.2.2.1
   rw [←h9] at h6
   exact h6
  ·have h9:=h8.2.2.2.2.1
   rw [←h9] at hlt
   exact hlt
  ·have h9:FP kP _:=(kM (n:=8) h8.2.2.1 (show 32≤32+8 * 0 by omega)).trans hfp
   exact h9
theorem k_wno (h:KS w0 w gk gp g mb kv (Pd kP kS kN) k F) :
  Calls Tryz.prog 9 #[.pointer (some ⟨gp,0,none⟩),.int .u32 0,.slice none 0 0] w fun e w'=>e=.returned (.int .i64 71)∧KS w0 w' gk gp g mb kv (Pd kP kS kN) k F:=by
 have h9:=h
 obtain ⟨ml,mu,d,h⟩:=h
 refine (pwrite_no gp g mb kv ml mu _ d 0 _ (by omega) rfl rfl w h.pg).mono ?_
 rintro e w' ⟨he,hb⟩
 exact ⟨he,h9.below hb⟩
theorem k_crash (h:KS w0 w gk gp g mb kv (Pd kP kS kN) k (FC kP kS kN)) :
  Calls Tryz.prog 27 #[.pointer (some ⟨g,0,none⟩),.slice none 0 0] w fun e w'=>e=.returned (.tuple #[])∧KD w0 w' gk g mb kv k (FC kP kS kN):=by
 obtain ⟨ml,mu,d,h⟩:=h
 refine (crash_any g mb kv d [] _ (by intro x hx;cases hx) w h.pg.dk (SlA.nil w _)).mono ?_
 rintro e w' ⟨he,hd,hu⟩
 obtain ⟨hf1,hf2,hf3⟩:=h.f
 obtain ⟨c1,c2,c3,c4⟩:=crash_still h.on hf3 []
 have hge:∀q∈foot g mb kv,w0.heap.size≤q:=fun q hq=>h.ge q (by simp [footP,hq])
 have hg2:∀q∈foot g mb kv,2≤q:=fun q hq=>Nat.le_trans h.w2 (hge q hq)
 have hap:gk ∉ foot g mb kv:=fun hh=>h.ap (by simp [footP,hh])
 refine ⟨he,d.crash [],hd,c1,by rw [c2];exact h.n,⟨?_,?_,c4⟩,h.t.updS hu hg2,QTab.updS h.q hu hg2,hu.row h.key hap,hap,hge,h.w2,b7 h.bl hu hge⟩
 ·rw [c3];exact hf1
 ·unfold FP;rw [c3];exact hf2
theorem k_open (hk:k<8000000) (hkP:deriveOf kA1 labPage 0=kP) (hkS:deriveOf kA1 labSuper 0=kS) (hkN:deriveOf kA1 labSuper 1=kN) (h:KD w0 w gk g mb kv k (FC kP kS kN)) :
  Calls Tryz.prog 28 #[.pointer (some ⟨g,0,none⟩),.agg (u8s kA1).toArray] w fun e w'=>∃gp,e=.returned (.tuple #[.pointer (some ⟨gp,0,none⟩),.int .i64 0])∧KS w0 w' gk gp g mb kv (Pe kP kS kN) (k+66) (FO kP kS kN):=by
 obtain ⟨d,h⟩:=h
 obtain ⟨⟨a,ha,h6,hlt⟩,hfp,_⟩:=h.f
 obtain ⟨hl,hb⟩:=area_ok h.dk.ok h.n
 have hg2:∀q∈foot g mb kv,2≤q:=fun q hq=>Nat.le_trans h.w2 (h.ge q hq)
 have hkey:=h.key.lt
 have hsz:=h.bl.size
 have key:Calls Tryz.prog 28 #[.pointer (some ⟨g,0,none⟩),.agg (u8s kA1).toArray] w fun e w'=>∃gp ml mu,e=.returned (.tuple #[.pointer (some ⟨gp,0,none⟩),.int .i64 0])∧PgAt w' gp g mb kv ml mu (Pe kP kS kN) (keepD d (secs d.now 0 32) (wg (secs d.now 0 32) gK) (keepA kS kN 6 (secs d.now 0 32) (1 - a) (6+1) 7 [109] gK))∧w.heap.size≤gp∧w.heap.size≤ml∧w.heap.size≤mu∧UpdS (foot g mb kv) w w':=by
  have h9:a=0∨a=1:=by omega
  rcases h9 with rfl|rfl
  ·exact open_zero g mb kv d 6 k kA1 kP kS kN _ rfl hkP hkS hkN h.n (by omega) (by omega) rfl kw h.on 6 1 7 [109] gK h6 hlt (by omega) (by omega) rfl hk hg2 w (Nat.le_trans h.w2 h.bl.size) h.t h.q h.dk
  ·exact open_one g mb kv d 6 k kA1 kP kS kN _ rfl hkP hkS hkN h.n (by omega) (by omega) rfl kw h.on 6 1 7 [109] gK h6 hlt (by omega) (by omega) rfl hk hg2 w (Nat.le_trans h.w2 h.bl.size) h.t h.q h.dk
 refine key.mono ?_
 rintro e w' ⟨gp,ml,mu,he,hp,hgp,hml,hmu,hu⟩
 have h8:=d5 (kS:=kS) (kN:=kN) (pg:=6) (at_:=1 - a) (limit:=6+1) (m:=6) (root:=7) (mt:=[109]) (f:=gK) h.dk.ok h.on (by rw [h.n];omega) rfl kF (by omega) lG.1 (by omega) (by omega) (fun j hj=>by
  have h9:j=a∨j=1 - a:=by omega
  rcases h9 with rfl|rfl
  ·rw [h6.lim];exact Int.le_refl _
  ·exact Int.le_of_lt hlt)
 have h7:=kn_open hl hb ha h6
 refine ⟨gp,he,ml,mu,_,hp,h8.1,by rw [h8.2.1];exact h.n,⟨⟨a,ha,?_,?_⟩,?_⟩,h.t.updS hu hg2,QTab.updS h.q hu hg2,hu.row h.key h.ap,fun hh=>?_,fun q hq=>?_,h.w2,b7 h.bl hu h.ge⟩
 ·rw [h8.2.2.2.2.1]
  exact h7.2
 ·rw [h8.2.2.2.2.1]
  exact h7.1
 ·exact (kM (n:=8) h8.2.2.1 (show 32≤32+8 * 0 by omega)).trans hfp
 ·simp only [footP,List.mem_cons] at hh
  rcases hh with e|e|e|hq
  ·omega
  ·omega
  ·omega
  ·exact h.ap hq
 ·simp only [footP,List.mem_cons] at hq
  rcases hq with e|e|e|hq
  ·omega
  ·omega
  ·omega
  ·exact h.ge q hq
theorem k_other (hkS:deriveOf kA1 labSuper 0=kS) (hkN:deriveOf kA1 labSuper 1=kN) (h:KS w0 w gk gp g mb kv P k (FO kP kS kN)) :
  Calls Tryz.prog 28 #[.pointer (some ⟨g,0,none⟩),.agg (u8s kB1).toArray] w fun e w'=>e=.returned (.tuple #[.pointer none,.int .i64 72])∧KS w0 w' gk gp g mb kv P k (FO kP kS kN):=by
 have h9:=h
 obtain ⟨ml,mu,d,h⟩:=h
 obtain ⟨⟨a,ha,h6,h7⟩,_⟩:=h.f
 rw [←hkS,←hkN] at h6 h7
 have hno:=kn_other ha (deriveOf kB1 labSuper 1) h6 h7
 obtain ⟨kP2,hkP2⟩:∃x,deriveOf kB1 labPage 0=x:=⟨_,rfl⟩
 obtain ⟨kS2,hkS2⟩:∃x,deriveOf kB1 labSuper 0=x:=⟨_,rfl⟩
 obtain ⟨kN2,hkN2⟩:∃x,deriveOf kB1 labSuper 1=x:=⟨_,rfl⟩
 rw [hkS2,hkN2] at hno
 refine (open_none g mb kv d 6 k kB1 kP2 kS2 kN2 (secs d.now 0 32) rfl hkP2 hkS2 hkN2 h.n (by omega) (by omega) rfl kB1_bytes h.on hno w h.t h.q h.pg.dk).mono ?_
 rintro e w' ⟨he,hb⟩
 exact ⟨he,h9.below hb⟩
theorem k_read (h:KS w0 w gk gp g mb kv (Pe kP kS kN) k (FO kP kS kN)) :
  Calls Tryz.prog 16 #[.pointer (some ⟨gp,0,none⟩),.int .u32 0] w fun e w'=>∃v',e=.returned (.tuple #[v',.int .i64 0])∧SlOld w' v' [120]∧KS w0 w' gk gp g mb kv (Pe kP kS kN) k (FO kP kS kN):=by
 have h9:=h
 obtain ⟨ml,mu,d,h⟩:=h
 refine (fZ gp g mb kv ml mu _ d 6 0 3 h.n (by omega) (by omega) rfl h.on.off (by omega) rfl w h.t h.q h.pg).mono ?_
 rintro e w' ⟨v',he,hv,hb⟩
 have hf:secs d.now (32+8 * 0) 8=pageOf kP ((0:Nat):Int) ((3:Nat):Int) [120]:=h.f.2
 have ho:=j8 kP ((0:Nat):Int) ((3:Nat):Int) [120] ⟨by decide,by decide⟩ x_bytes (by simp)
 rw [hf] at he hv
 have e1:codeP (Pe kP kS kN).kP ((0:Nat):Int) ((3:Nat):Int) (pageOf kP ((0:Nat):Int) ((3:Nat):Int) [120])=0:=by
  unfold codeP
  rw [show (Pe kP kS kN).kP=kP from rfl,ho.1]
  rfl
 rw [e1] at he
 rw [show (Pe kP kS kN).kP=kP from rfl,ho.2] at hv
 exact ⟨v',he,hv,h9.below hb⟩
end
theorem format_small (g mb:Nat) (kv:Value) (d:Dk) (pg:Nat) (ks:List Int) (hn:d.n=32+8 * pg) (hpg:pg<4) (w:World) (hd:DkAt w g mb kv d) :
  Calls Tryz.prog 25 #[.pointer (some ⟨g,0,none⟩),.agg (u8s ks).toArray] w fun e w'=>e=.returned (.tuple #[.pointer none,.int .i64 70])∧Below w.heap.size w w':=by
 have HD:Hid (DkAt w g mb kv d):=hd
 have hpI:(pg:Int)<4:=by omega
 have hm:=Mem.start w
 clear hd
 go_enter Tryz.func25,Tryz.ntmps25
 go_wp2_with (first
  | ((with_reducible refine aa (some 3) (.box 61 (.tmp 1)) ?_);refine ak (u8s ks) rfl hm ?_;clear hm;intro w1 gk hm)
  | (go_at_call 54;refine (dv g mb kv d pg hn (by omega) _ (DkAt.below HD.out hm.below)).mono ?_;rintro e w2 ⟨rfl,hw⟩;replace hw:=hw.symm;subst hw))
 go_ret2
 exact ⟨rfl,hm.below⟩
open Go Go.RowKit Go.Maps
theorem wpl_cvcF {P:Program} {ops:Array Oper} {rest:List Oper} {a:Act} {w w0:World} {dst:Option Tmp} {typ:TypeId} {pos:String} {aft:Array Edge} {gd:Option (Nat×Bool)} {S:List Nat} {rows:List (Nat×List Value×TypeId)} {Q:Exit→Act→World→Prop} {t e:TypeId} {x:Operand} (cs:List Int) (hw:Region.wanted {dst:=dst,op:=.convert t t x,type:=typ,pos:=pos,after:=aft,guard:=gd} (yielded ops a.tmps)=true) (ht:P.underlying t=some (.slice e)) (he:P.underlying e=some (.int .u8)) {n:Nat} (hx:a.eval x=.slice (some ⟨w.heap.size,0,none⟩) n n) (hn:n=cs.length) (hm:Mem w0 S w rows)
  (h:∀w' g,Below w.heap.size w w'→w.heap.size≤g→Mem w0 S w' rows→SlOld w' (.slice (some ⟨g,0,none⟩) n n) cs→wpList P ops Q rest (a.put dst (.slice (some ⟨g,0,none⟩) n n)) w') :
  wpList P ops Q ({dst:=dst,op:=.convert t t x,type:=typ,pos:=pos,after:=aft,guard:=gd}::rest) a (w.alloc (.cells (u8s cs).toArray e)):=by
 subst hn
 have hb:Below w.heap.size w (w.alloc (.cells (u8s cs).toArray e ((u8s cs).toArray.size,(u8s cs).toArray.size+1))):=(Below.refl _ _).alloc (Nat.le_refl _) _
 refine wpList_step fun K hK=>?_
 rw [if_pos hw]
 have hh:=hK _ _ (h _ w.heap.size hb (Nat.le_refl _) (hm.call hb) ⟨_,_,rfl,Nat.le_refl _,fun _=>⟨w.heap.size,0,rfl,Seg.newO w cs e _⟩⟩)
 unfold Oper.wp execOp
 simp only [hx,Lib.run_convert_bytes_const (P:=P) w t e (u8s cs).toArray cs.length cs.length ht he,Sem.run_bind,Sem.run_pure,Result.andThen_ok]
 exact hh
theorem ff (w:World) (ht:Tab w) (hq:QTab w) (hw2:2≤w.heap.size) :
  Calls Tryz.prog 6 #[] w fun e w'=>e=.returned (.bool true)∧Below w.heap.size w w':=by
 have HT:Hid (Tab w):=ht
 have HQ:Hid (QTab w):=hq
 obtain ⟨kP,hkP⟩:∃x,x=deriveOf kA1 labPage 0:=⟨_,rfl⟩
 obtain ⟨kS,hkS⟩:∃x,x=deriveOf kA1 labSuper 0:=⟨_,rfl⟩
 obtain ⟨kN,hkN⟩:∃x,x=deriveOf kA1 labSuper 1:=⟨_,rfl⟩
 have HKE:Hid (∀_:Unit,deriveOf kA1 labPage 0=kP∧deriveOf kA1 labSuper 0=kS∧deriveOf kA1 labSuper 1=kN):=fun _=>⟨hkP.symm,hkS.symm,hkN.symm⟩
 clear ht hq hkP hkS hkN
 go_enter Tryz.func6,Tryz.ntmps6
 go_wp2_with (first
  | (go_at_call 24;refine (mS 80 _).mono ?_;rintro e w1 ⟨g,rfl,mb,kv,hd,hf,hb⟩;have HD:Hid (DkAt w1 g mb kv (Dk.new (clampK 80))):=hd;have HFT:Hid (∀q∈foot g mb kv,w.heap.size≤q):=hf;have HB1:Hid (Below w.heap.size w w1):=hb;have hm:=Mem.start w1;clear hd hf hb)
  | ((with_reducible refine aa (some 16) (.build 61 #[(1,.const (.int .u8 1))]) ?_);go_must (refine aS (u8s kA1) _ rfl built_A1 ?_))
  | ((with_reducible refine aa (some 2) (.alloc 61) ?_);refine ae _ eu hm ?_;clear hm;intro w2 gk hm)
  | ((with_reducible refine aa none (.store 61 (.tmp 2) (.tmp 16)) ?_);go_must (refine af 0 (u8s kA1) hm rfl rfl rfl 32 aH (by simp [ab]) (by rw [ab];rfl) (aj _) ?_);clear hm;intro w3 hm;replace hm:Mem w1 [] w3 [(gk,u8s kA1,61)]:=hm)
  | ((with_reducible refine aa (some 19) (.load 61 (.tmp 2)) ?_);go_must (refine aq 0 hm rfl rfl _ aJ rfl 32 aH (by rw [ab];rfl) ?_))
  | (go_at_call 25;refine (k_format (HKE.out ()).1 (HKE.out ()).2.1 (HKE.out ()).2.2 (kd_new HD.out HFT.out HB1.out hm HT.out HQ.out hw2)).mono ?_;rintro e w4 ⟨gp,rfl,hs⟩;have HS:Hid (KS w w4 gk gp g mb kv (Pa kP kS kN) 132 (FA kS kN)):=hs;clear hs hm HD HFT HB1)
  | (go_at_call 26;refine (k_len HS.out).mono ?_;rintro e w5 ⟨rfl,rfl⟩)
  | (go_at_call 23;refine (k_room HS.out).mono ?_;rintro e w6 ⟨rfl,hs⟩;replace HS:Hid (KS w w6 gk gp g mb kv (Pa kP kS kN) 132 (FA kS kN)):=hs;clear hs)
  | (go_at_call 8;refine (k_alloc HS.out).mono ?_;rintro e w7 ⟨rfl,hs⟩;replace HS:Hid (KS w w7 gk gp g mb kv (Pb kP kS kN) 132 (FA kS kN)):=hs;have hm:=Mem.start w7;clear hs)
  | ((with_reducible refine cK (some 50) (.convert 22 22 (.tmp 49)) (some (6,false)) ?_);go_must (refine wpl_cvcF [120] rfl ai aL rfl rfl hm ?_);clear hm;intro w8 gb hb8 hgb hm hv;have HV:Hid (SlOld w8 (.slice (some ⟨gb,0,none⟩) 1 1) [120]):=hv;have HB8:Hid (Below w7.heap.size w7 w8∧w7.heap.size≤gb):=⟨hb8,hgb⟩;clear hb8 hgb hv hm)
  | (go_at_call 9;refine (k_write (by omega) HB8.out.1 HB8.out.2 HV.out HS.out).mono ?_;rintro e w9 ⟨rfl,hs⟩;replace HS:Hid (KS w w9 gk gp g mb kv (Pc kP kS kN) 140 (FW kP kS kN)):=hs;clear hs HB8 HV)
  | (go_at_call 10;refine (k_commit (by omega) HS.out).mono ?_;rintro e w10 ⟨rfl,hs⟩;replace HS:Hid (KS w w10 gk gp g mb kv (Pd kP kS kN) 206 (FC kP kS kN)):=hs;clear hs)
  | (go_at_call 9;refine (k_wno HS.out).mono ?_;rintro e w11 ⟨rfl,hs⟩;replace HS:Hid (KS w w11 gk gp g mb kv (Pd kP kS kN) 206 (FC kP kS kN)):=hs;clear hs)
  | (go_at_call 27;refine (k_crash HS.out).mono ?_;rintro e w12 ⟨rfl,hs⟩;clear HS;have HK:Hid (KD w w12 gk g mb kv 206 (FC kP kS kN)):=hs;clear hs)
  | ((with_reducible refine aa (some 69) (.load 61 (.tmp 2)) ?_);go_must (refine aq 0 (Mem.enter (KD.key HK.out)) rfl rfl _ aJ rfl 32 aH (by rw [ab];rfl) ?_))
  | (go_at_call 28;refine (k_open (by omega) (HKE.out ()).1 (HKE.out ()).2.1 (HKE.out ()).2.2 HK.out).mono ?_;rintro e w13 ⟨gp,rfl,hs⟩;have HS:Hid (KS w w13 gk gp g mb kv (Pe kP kS kN) 272 (FO kP kS kN)):=hs;clear hs HK)
  | ((with_reducible refine aa (some 75) (.build 61 #[(1,.const (.int .u8 2))]) ?_);go_must (refine aS (u8s kB1) _ rfl built_B1 ?_))
  | (go_at_call 28;refine (k_other (HKE.out ()).2.1 (HKE.out ()).2.2 HS.out).mono ?_;rintro e w14 ⟨rfl,hs⟩;replace HS:Hid (KS w w14 gk gp g mb kv (Pe kP kS kN) 272 (FO kP kS kN)):=hs;clear hs))
 have hm:=Mem.start w14
 refine ar ?_
 refine dB (T:=fun W=>Mem w14 [] W []) (by kernel_rfl) hm ?_
 clear hm
 intro w15 hb15 hm
 clear hb15
 refine aT 1 (v:=.agg (u8s kA1).toArray) rfl (by kernel_rfl) rfl (fun W hW=>ao 0 (u8s kA1) (Row.below' (KS.key HS.out) hW.below) rfl _ aJ rfl 32 aH (by rw [ab];decide) (by rw [List.drop_zero,List.take_of_length_le (by rw [ab];decide)])) hm ?_
 go_simp
 refine aO 0 (by kernel_rfl) rfl rfl ?_
 intro K hK
 go_wp2_with (go_at_call 24;refine (mS 40 _).mono ?_;rintro e w16 ⟨g3,rfl,mb3,kv3,hd,hf,hb⟩;have HD3:Hid (DkAt w16 g3 mb3 kv3 (Dk.new (clampK 40))):=hd;replace hm:=hm.call hb;clear hd hf hb)
 refine hK _ _ hm ?_
 clear hK K
 refine aO 2 (by kernel_rfl) rfl rfl ?_
 intro K hK
 go_wp2_with (go_at_call 25;refine (format_small g3 mb3 kv3 (Dk.new (clampK 40)) 1 kA1 rfl (by omega) _ HD3.out).mono ?_;rintro e w17 ⟨rfl,hb⟩;replace hm:=hm.call hb;clear hb)
 refine hK _ _ hm ?_
 clear hK K
 refine aT 3 (v:=.tuple #[.pointer none,.int .i64 70]) rfl (by kernel_rfl) rfl (fun W _=>by go_simp) hm ?_
 go_simp
 refine aT 4 (v:=.pointer none) rfl (by kernel_rfl) rfl (fun W _=>by go_simp) hm ?_
 go_simp
 refine aT 5 (v:=.int .i64 70) rfl (by kernel_rfl) rfl (fun W _=>by go_simp) hm ?_
 go_simp
 refine aT 6 (v:=.pointer none) rfl (by kernel_rfl) rfl (fun W _=>by go_simp) hm ?_
 go_simp
 refine aT 7 (v:=.int .i64 70) rfl (by kernel_rfl) rfl (fun W _=>by go_simp) hm ?_
 go_simp
 refine wpAnyH_done (by kernel_rfl) ?_ _
 simp only [endsIn]
 replace HS:Hid (KS w w17 gk gp g mb kv (Pe kP kS kN) 272 (FO kP kS kN)):=KS.below HS.out hm.below
 clear hm HD3
 go_wp2_with (first
  | (go_at_call 16;refine (k_read HS.out).mono ?_;rintro e w18 ⟨v',he,hv,hs⟩;obtain ⟨pv,cv,hv9,hc9,hs9⟩:=hv;replace hv9:v'=.slice pv 1 cv:=hv9;subst hv9;subst he;have HV:Hid (SlOld w18 (.slice pv 1 cv) [120]):=⟨pv,cv,rfl,hc9,hs9⟩;replace HS:Hid (KS w w18 gk gp g mb kv (Pe kP kS kN) 272 (FO kP kS kN)):=hs;clear hs hc9 hs9)
  | ((with_reducible refine cK (some 107) (.convert 22 9 (.tmp 106)) (some (14,true)) ?_);go_must (refine ag (.string {data:=#[120]}) rfl (aA ai aL aR _ rfl HV.out) ?_);clear HV)
  | (go_at_call 21;refine (k_root HS.out).mono ?_;rintro e w19 ⟨rfl,rfl⟩)
  | (go_at_call 22;refine (k_meta HS.out).mono ?_;rintro e w20 ⟨rfl,rfl⟩)
  | (go_at_call 23;refine (k_room5 HS.out).mono ?_;rintro e w21 ⟨rfl,hs⟩;replace HS:Hid (KS w w21 gk gp g mb kv (Pe kP kS kN) 272 (FO kP kS kN)):=hs;clear hs))
 go_ret
 exact ⟨rfl,KS.bl HS.out⟩
end Go.Proofs.YtdkkdkgdaambiaaGreatDoor
