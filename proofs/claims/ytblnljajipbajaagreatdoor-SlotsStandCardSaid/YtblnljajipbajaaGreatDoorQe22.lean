import Derived.Test.YtblnljajipbajaaGreatDoorQe21
set_option maxRecDepth 100000
set_option maxHeartbeats 4000000
namespace Go.Proofs.YtblnljajipbajaaGreatDoor
open Go Go.RowKit Go.Maps
theorem df {P:Program} {md:Region.Mode} {ops:Array Oper} {Q:Exit→Act→World→Prop} {S:World→Prop} (S':World→Prop) (hS:∀w,S' w→S w):∀(fuel:Nat) (listed:Array Bool) (a:Act) (w:World),wpAnyH P md ops Q S' fuel listed a w→wpAnyH P md ops Q S fuel listed a w
 | 0,_,_,_,h=>h
 | fuel+1,_,_,_,h=>⟨h.1,fun i hi=>wpOp_mono (fun a' w' h'=>⟨hS _ h'.1,df S' hS fuel _ a' w' h'.2⟩) (h.2 i hi)⟩
theorem OwnB.at0 {e:TypeId} {w:World} {b:Nat} {v:Value} {zs:List Int} (h:OwnB e w b v zs):OwnB e w 0 v zs:=by
 obtain ⟨h1,h2⟩:=h
 refine ⟨h1,?_⟩
 rcases h2 with h2|⟨q,cap,cur,rfl,hb,r⟩
 ·exact Or.inl h2
 ·exact Or.inr ⟨q,cap,cur,rfl,Nat.zero_le _,r⟩
theorem put_kept {d:Dk} {t:Slt} {k:Nat} {N:Ent} (h:Inv d t) (hk:k<24) (hN:EntOk N) (hr:(putR d t k N).2=true):(putR d t k N).1.n=d.n∧∀s,(putR d t k N).1.kept s=if s=2+k then mkC k N else if s=(t.puts+1) % 2 then cntC (t.puts+1) else d.kept s:=by
 obtain ⟨e1,e2,e3⟩:=gS (fK h.ok hN hk h.n 0) (fK h.ok hN hk h.n 1) hr
 refine ⟨e1,fun s=>?_⟩
 have:=e3 s
 change (putR d t k N).1.kept s=_ at this
 rw [this,putPh_one,jK,h.now]
 by_cases h1:s=2+k
 ·simp only [if_pos h1,Option.getD_some]
 ·by_cases h2:s=(t.puts+1) % 2
  ·simp only [if_neg h1,if_pos h2,Option.getD_some,Option.getD_none]
  ·simp only [if_neg h1,if_neg h2,Option.getD_none]
theorem era_kept {d:Dk} {t:Slt} {k:Nat} (h:Inv d t) (hk:k<24) (hr:(eraR d t k).2=true):(eraR d t k).1.n=d.n∧∀s,(eraR d t k).1.kept s=if s=2+k then zeroK else d.kept s:=by
 obtain ⟨e1,e2,e3⟩:=gS (fB h.ok hk h.n 0) (fB h.ok hk h.n 1) hr
 refine ⟨e1,fun s=>?_⟩
 have:=e3 s
 change (eraR d t k).1.kept s=_ at this
 rw [this,eraPh_one,jC,h.now]
 by_cases h1:s=2+k
 ·simp only [if_pos h1,Option.getD_some]
 ·simp only [if_neg h1,Option.getD_none]
theorem entN_puts {t t':Slt} (h:t.puts=t'.puts) (k:Nat) (x y:List Int):entN t k x y=entN t' k x y:=by unfold entN;rw [h]
theorem two_first {d D D':Dk} {k p:Nat} {c N N':List Int} (h1:D.n=d.n∧∀s,D.kept s=if s=2+k then N else if s=p then c else d.kept s) (h2:D'.n=d.n∧∀s,D'.kept s=if s=2+k then N' else if s=p then c else d.kept s):D.n=D'.n∧∀s,s≠2+k→D.kept s=D'.kept s :=
 ⟨h1.1.trans h2.1.symm,fun s hs=>by rw [h1.2,h2.2,if_neg hs,if_neg hs]⟩
theorem two_again {D D' E E':Dk} {t t':Slt} {k:Nat} {nx:List Int} (hp:t.puts=t'.puts) (h0:D.n=D'.n∧∀s,s≠2+k→D.kept s=D'.kept s) (h1:E.n=D.n∧∀s,E.kept s=if s=2+k then mkC k (entN t k nx nx) else if s=(t.puts+1) % 2 then cntC (t.puts+1) else D.kept s) (h2:E'.n=D'.n∧∀s,E'.kept s=if s=2+k then mkC k (entN t' k nx nx) else if s=(t'.puts+1) % 2 then cntC (t'.puts+1) else D'.kept s):E.n=E'.n∧∀s,E.kept s=E'.kept s:=by
 refine ⟨h1.1.trans (h0.1.trans h2.1.symm),fun s=>?_⟩
 rw [h1.2,h2.2,entN_puts hp,hp]
 by_cases hs:s=2+k
 ·rw [if_pos hs,if_pos hs]
 ·rw [if_neg hs,if_neg hs,h0.2 s hs]
theorem two_erased {D D' E E':Dk} {k:Nat} (h0:D.n=D'.n∧∀s,s≠2+k→D.kept s=D'.kept s) (h1:E.n=D.n∧∀s,E.kept s=if s=2+k then zeroK else D.kept s) (h2:E'.n=D'.n∧∀s,E'.kept s=if s=2+k then zeroK else D'.kept s):E.n=E'.n∧∀s,E.kept s=E'.kept s:=by
 refine ⟨h1.1.trans (h0.1.trans h2.1.symm),fun s=>?_⟩
 rw [h1.2,h2.2]
 by_cases hs:s=2+k
 ·rw [if_pos hs,if_pos hs]
 ·rw [if_neg hs,if_neg hs,h0.2 s hs]
theorem flat_two {E E':Dk} (h:E.n=E'.n∧∀s,E.kept s=E'.kept s):flatK E'.kept E'.n=flatK E.kept E.n:=by
 rw [h.1]
 exact cW _ _ _ (fun s _=>(h.2 s).symm)
theorem Sv.beside {w0 w w':World} {g mb sb hb:Nat} {kv:Value} {d:Dk} {t:Slt} {k:Nat} {rows:List (Nat×List Value×TypeId)} {F:List Nat} (h:Sv w0 w g mb kv sb hb d t k rows) (hm:Mem w0 [] w' rows) (hu:UpdS F w w') (hd:∀q∈footS g mb kv sb hb,q ∉ F):Sv w0 w' g mb kv sb hb d t k rows :=
 ⟨hm,h.at_.keep (fun q hq=>hu.block q (h.at_.lt q hq) (hd q hq)),h.inv,h.cm,h.new,h.apart⟩
theorem put_2 {w0 w:World} {g mb:Nat} {kv:Value} {sb hb:Nat} {d:Dk} {t:Slt} {k:Nat} {g' mb':Nat} {kv':Value} {sb' hb':Nat} {d':Dk} {t':Slt} {k':Nat} {rows:List (Nat×List Value×TypeId)} (h:Sv w0 w g mb kv sb hb d t k rows) (h':Sv w0 w g' mb' kv' sb' hb' d' t' k' rows) (ap:∀q∈footS g' mb' kv' sb' hb',q ∉ footS g mb kv sb hb) (ht:Tab w0) (hq:QTab w0) (hk:k≤1000000) (hp:t.puts<200) (i:Nat) (hi:i<24) (kek key:List Int) (hkl:kek.length=32) (hkb:Bytes kek) (hyl:key.length=32) (hyb:Bytes key) (T:Slt) (hT:T=putS t i (entN t i kek key)) :
  Calls Tryz.prog 13 #[.pointer (some ⟨sb,0,none⟩),.int .i64 (i:Int),.agg (u8s kek).toArray,.agg (u8s key).toArray] w fun e w'=>e=.returned (.int .i64 0)∧∃D,Sv w0 w' g mb kv sb hb D T (k+1000) rows∧Sv w0 w' g' mb' kv' sb' hb' d' t' k' rows∧Hid (D.n=d.n∧∀s,D.kept s=if s=2+i then mkC i (entN t i kek key) else if s=(t.puts+1) % 2 then cntC (t.puts+1) else d.kept s):=by
 have hc:=cm_put h.cm h.inv.n2 t i (entN t i kek key)
 have hN:=entN_ok (k:=i) (kek:=kek) hp hyl hyb
 have hI:=put_inv h.inv hp hi hN hc.2
 refine (put_good g mb kv sb hb d t i hi kek key k hkl hkb hyl hyb h.inv.dead hp h.inv.n h.inv.n2 h.cm.nm hk w (h.tab ht) (h.qtab hq) h.at_ hc.2).mono ?_
 rintro e w' ⟨rfl,h1,h2⟩
 have hs:=h.turn h1 hI.1 hc.1 h2
 exact ⟨rfl,_,by rw [hT];exact hs,h'.beside hs.mem h2 ap,put_kept h.inv hi hN hc.2⟩
theorem erase_2 {w0 w:World} {g mb:Nat} {kv:Value} {sb hb:Nat} {d:Dk} {t:Slt} {k:Nat} {g' mb':Nat} {kv':Value} {sb' hb':Nat} {d':Dk} {t':Slt} {k':Nat} {rows:List (Nat×List Value×TypeId)} (h:Sv w0 w g mb kv sb hb d t k rows) (h':Sv w0 w g' mb' kv' sb' hb' d' t' k' rows) (ap:∀q∈footS g' mb' kv' sb' hb',q ∉ footS g mb kv sb hb) (hk:k≤1000000) (i:Nat) (hi:i<24) (T:Slt) (hT:T=eraS t i) :
  Calls Tryz.prog 15 #[.pointer (some ⟨sb,0,none⟩),.int .i64 (i:Int)] w fun e w'=>e=.returned (.int .i64 0)∧∃D,Sv w0 w' g mb kv sb hb D T (k+1000) rows∧Sv w0 w' g' mb' kv' sb' hb' d' t' k' rows∧Hid (D.n=d.n∧∀s,D.kept s=if s=2+i then zeroK else d.kept s):=by
 have hc:=cm_era h.cm h.inv.n2 t i
 have hI:=erase_inv h.inv hi hc.2
 refine (j3 g mb kv sb hb d t i hi k h.inv.dead h.inv.n h.inv.n2 h.cm.nm hk w h.at_ hc.2).mono ?_
 rintro e w' ⟨rfl,h1,h2⟩
 have hs:=h.turn h1 hI.1 hc.1 h2
 exact ⟨rfl,_,by rw [hT];exact hs,h'.beside hs.mem h2 ap,era_kept h.inv hi hc.2⟩
theorem jh {w0 w:World} {g mb:Nat} {kv:Value} {sb hb:Nat} {d:Dk} {t:Slt} {k:Nat} {g' mb':Nat} {kv':Value} {sb' hb':Nat} {d':Dk} {t':Slt} {k':Nat} {rows:List (Nat×List Value×TypeId)} (h:Sv w0 w g mb kv sb hb d t k rows) (h':Sv w0 w g' mb' kv' sb' hb' d' t' k' rows) (ap:∀q∈footS g' mb' kv' sb' hb',q ∉ footS g mb kv sb hb) (cs:List Int) (vc:Value) (hcb:Bytes cs) (hs:SlA w (foot g mb kv) vc cs) :
  Calls Tryz.prog 18 #[.pointer (some ⟨g,0,none⟩),vc] w fun e w'=>e=.returned (.tuple #[])∧∃D,Sv w0 w' g mb kv sb hb D t k rows∧Sv w0 w' g' mb' kv' sb' hb' d' t' k' rows∧Hid (D.n=d.n∧∀s,D.kept s=d.kept s):=by
 refine (crash_v h cs vc hcb hs).mono ?_
 rintro e w' ⟨rfl,h1,h2⟩
 exact ⟨rfl,_,h1,h'.beside h1.mem h2 (fun q hq hk=>ap q hq (by simp [footS,hk])),rfl,fun s=>by rw [(inv_crash h.inv cs).2]⟩
theorem open_2 {w0 w:World} {g mb:Nat} {kv:Value} {sb hb:Nat} {d:Dk} {t:Slt} {k:Nat} {g' mb':Nat} {kv':Value} {sb' hb':Nat} {d':Dk} {t':Slt} {k':Nat} {rows:List (Nat×List Value×TypeId)} (h:Sv w0 w g mb kv sb hb d t k rows) (h':Sv w0 w g' mb' kv' sb' hb' d' t' k' rows) (ap:∀q∈footS g' mb' kv' sb' hb',q ∉ footS g mb kv sb hb) (ht:Tab w0) (hk:k≤1000000) :
  Calls Tryz.prog 19 #[.pointer (some ⟨g,0,none⟩)] w fun e w'=>∃s2 h2,e=.returned (.tuple #[.pointer (some ⟨s2,0,none⟩),.int .i64 0])∧Sv w0 w' g mb kv s2 h2 d t (k+1000) rows∧Sv w0 w' g' mb' kv' sb' hb' d' t' k' rows∧∀q∈footS g' mb' kv' sb' hb',q ∉ footS g mb kv s2 h2:=by
 have e1:=inv_load h.inv
 refine (openS_any g mb kv d k h.cm.off h.cm.left h.inv.n h.inv.n2 h.cm.nm hk (by rw [e1];exact h.inv.ok) h.foot2 w (h.tab ht) h.at_.dk).mono ?_
 rintro e w' ⟨s2,h2,rfl,ha,hs,hh,hu⟩
 rw [e1,inv_open h.inv] at ha
 have hS:=h.again ha h.inv (h.cm.mono (show k≤k+1000 by omega)) hs hh hu
 have hap:∀q∈footS g' mb' kv' sb' hb',q ∉ foot g mb kv:=fun q hq hk=>ap q hq (by simp [footS,hk])
 refine ⟨s2,h2,rfl,hS,h'.beside hS.mem hu hap,fun q hq hk=>?_⟩
 have hlt:=h'.at_.lt q hq
 simp only [footS,List.mem_cons] at hk
 rcases hk with e|e|hk
 ·omega
 ·omega
 ·exact hap q hq (by simpa [foot] using hk)
theorem get_2 {w0 w:World} {g mb:Nat} {kv:Value} {sb hb:Nat} {d:Dk} {t:Slt} {k:Nat} {g' mb':Nat} {kv':Value} {sb' hb':Nat} {d':Dk} {t':Slt} {k':Nat} {rows:List (Nat×List Value×TypeId)} (h:Sv w0 w g mb kv sb hb d t k rows) (h':Sv w0 w g' mb' kv' sb' hb' d' t' k' rows) (ht:Tab w0) (hq:QTab w0) (i:Int) (kek:List Int) (hkl:kek.length=32) (hkb:Bytes kek) :
  Calls Tryz.prog 16 #[.pointer (some ⟨sb,0,none⟩),.int .i64 i,.agg (u8s kek).toArray] w fun e w'=>e=.returned (.tuple #[.agg (u8s (getV t.held i kek).1).toArray,.int .i64 (getV t.held i kek).2])∧Sv w0 w' g mb kv sb hb d t k rows∧Sv w0 w' g' mb' kv' sb' hb' d' t' k' rows:=by
 refine (get_any g mb kv sb hb d t i kek hkl hkb w (h.tab ht) (h.qtab hq) h.at_).mono ?_
 rintro e w' ⟨rfl,h1⟩
 exact ⟨rfl,h.below h1,h'.below h1⟩
theorem dU {w0 w:World} {g mb:Nat} {kv:Value} {sb hb:Nat} {d:Dk} {t:Slt} {k:Nat} {g' mb':Nat} {kv':Value} {sb' hb':Nat} {d':Dk} {t':Slt} {k':Nat} {rows:List (Nat×List Value×TypeId)} (h:Sv w0 w g mb kv sb hb d t k rows) (h':Sv w0 w g' mb' kv' sb' hb' d' t' k' rows) (zs:List Int) (hz:flatK d.kept d.n=zs) :
  Calls Tryz.prog 24 #[.pointer (some ⟨g,0,none⟩)] w fun e w'=>∃p c,e=.returned (.slice p zs.length c)∧OwnB 5 w' 0 (.slice p zs.length c) zs∧Sv w0 w' g mb kv sb hb d t k rows∧Sv w0 w' g' mb' kv' sb' hb' d' t' k' rows∧Below w.heap.size w w':=by
 refine (image_any g mb kv d w h.at_.dk).mono ?_
 rintro e w' ⟨v,rfl,ho,hb⟩
 rw [hz] at ho
 obtain ⟨p,c,hv,_⟩:=OwnB.old ho
 subst hv
 exact ⟨p,c,rfl,ho.at0,h.below hb,h'.below hb,hb⟩
theorem make_2 {w0 w:World} {g mb:Nat} {kv:Value} {sb hb:Nat} {d:Dk} {t:Slt} {k:Nat} {g2 mb2 n:Nat} {kv2:Value} {rows:List (Nat×List Value×TypeId)} (h:Sv w0 w g mb kv sb hb d t k rows) (hn:64≤n) (hn2:n≤200) (hd:DkAt w g2 mb2 kv2 (Dk.new n)) (hf:∀q∈foot g2 mb2 kv2,w0.heap.size≤q) (hap:∀r∈rows,r.1 ∉ foot g2 mb2 kv2) (ha2:∀q∈footS g mb kv sb hb,q ∉ foot g2 mb2 kv2) (ht:Tab w0) :
  Calls Tryz.prog 11 #[.pointer (some ⟨g2,0,none⟩)] w fun e w'=>∃s2 h2,e=.returned (.tuple #[.pointer (some ⟨s2,0,none⟩),.int .i64 0])∧Sv w0 w' g2 mb2 kv2 s2 h2 (makeD (Dk.new n)) newS 1000 rows∧Sv w0 w' g mb kv sb hb d t k rows∧∀q∈footS g mb kv sb hb,q ∉ footS g2 mb2 kv2 s2 h2:=by
 refine (fh hn hn2 h.mem hd hf hap ht).mono ?_
 rintro e w' ⟨s2,h2,rfl,hS,hu,hs,hh⟩
 refine ⟨s2,h2,rfl,hS,h.beside hS.mem hu ha2,fun q hq hk=>?_⟩
 have hlt:=h.at_.lt q hq
 simp only [footS,List.mem_cons] at hk
 rcases hk with e|e|hk
 ·omega
 ·omega
 ·exact ha2 q hq (by simpa [foot] using hk)
theorem foot_two {w:World} {g mb g' mb' sb hb:Nat} {kv kv':Value} (hab:∀q∈foot g' mb' kv',q ∉ foot g mb kv) (hlt:∀q∈foot g' mb' kv',q<w.heap.size) (hs:w.heap.size≤sb) (hh:w.heap.size≤hb):∀q∈footS g mb kv sb hb,q ∉ foot g' mb' kv':=by
 intro q hq hk
 have h1:=hlt q hk
 simp only [footS,List.mem_cons] at hq
 rcases hq with e|e|hq
 ·omega
 ·omega
 ·exact hab q hk (by simpa [foot] using hq)
open Go Go.RowKit Go.Maps
theorem erased_true (a:Int) (kek kel x1 x2 nx ch:List Int) (p:Option Addr) (n cap:Nat) (ha:0≤a∧a<256) (hkek:kek.length=32∧Bytes kek) (hkel:kel.length=32∧Bytes kel) (hx1:x1.length=32∧Bytes x1) (hx2:x2.length=32∧Bytes x2) (hnx:nx.length=32∧Bytes nx) (hchb:Bytes ch) (w:World) (ht:Tab w) (hq:QTab w) (_h2:2≤w.heap.size) (hbad:n≤20) (hl:SlOld w (.slice p n cap) ch) :
  Calls Tryz.prog 5 #[.int .u8 a,.agg (u8s kek).toArray,.agg (u8s kel).toArray,.agg (u8s x1).toArray,.agg (u8s x2).toArray,.agg (u8s nx).toArray,.bool true,.slice p n cap] w fun e w'=>e=.returned (.bool true)∧Below w.heap.size w w':=by
 have Hkek:Hid (kek.length=32∧Bytes kek):=hkek
 have Hkel:Hid (kel.length=32∧Bytes kel):=hkel
 have Hx1:Hid (x1.length=32∧Bytes x1):=hx1
 have Hx2:Hid (x2.length=32∧Bytes x2):=hx2
 have Hnx:Hid (nx.length=32∧Bytes nx):=hnx
 have HT:Hid (Tab w):=ht
 have HQT:Hid (QTab w):=hq
 have HL:Hid (SlOld w (.slice p n cap) ch):=hl
 have HCHB:Hid (Bytes ch):=hchb
 have Hzero32:Hid (zero32.length=32∧Bytes zero32):=⟨by simp [zero32],Bytes.zeros 32⟩
 have hm:=Mem.start w
 obtain ⟨k,hk⟩:∃k:Nat,(k:Int)=a.tmod 24:=⟨(a.tmod 24).toNat,by rw [Int.tmod_eq_emod_of_nonneg ha.1];omega⟩
 have hk24:k<24:=by rw [Int.tmod_eq_emod_of_nonneg ha.1] at hk;omega
 have HKM:a.tmod 24=(k:Int):=hk.symm
 have HKW:IntKind.i64.wrap (k:Int)=(k:Int):=by rw [IntKind.wrap_i64];omega
 clear ht hq hl hchb hk ha hkek hkel hx1 hx2 hnx
 have hn1:¬(20:Int)<(n:Int):=by omega
 have tk1:Nat:=0
 have tk2:Nat:=0
 have tk3:Nat:=0
 have tk4:Nat:=0
 have tk5:Nat:=0
 have tk6:Nat:=0
 have tk7:Nat:=0
 obtain ⟨t1,ht1⟩:∃x,x=putS newS k (entN newS k kek x1):=⟨_,rfl⟩
 obtain ⟨t1',ht1'⟩:∃x,x=putS newS k (entN newS k kel x2):=⟨_,rfl⟩
 have HT1:Hid (∀_:Unit,t1=putS newS k (entN newS k kek x1)):=fun _=>ht1
 have HT1':Hid (∀_:Unit,t1'=putS newS k (entN newS k kel x2)):=fun _=>ht1'
 have HPE:Hid (t1.puts=1∧t1'.puts=1):=⟨by rw [ht1];rfl,by rw [ht1'];rfl⟩
 obtain ⟨t2,ht2⟩:∃x,x=putS t1 k (entN t1 k nx nx):=⟨_,rfl⟩
 obtain ⟨t2',ht2'⟩:∃x,x=putS t1' k (entN t1' k nx nx):=⟨_,rfl⟩
 have HT2:Hid (∀_:Unit,t2=putS t1 k (entN t1 k nx nx)):=fun _=>ht2
 have HT2':Hid (∀_:Unit,t2'=putS t1' k (entN t1' k nx nx)):=fun _=>ht2'
 have HG:Hid (∀_:Unit,getV t2.held (k:Int) nx=(nx,0)):=fun _=>by rw [ht2];exact fT hk24 nx nx Hnx.out.1 Hnx.out.2
 have HG':Hid (∀_:Unit,getV t2'.held (k:Int) nx=(nx,0)):=fun _=>by rw [ht2'];exact fT hk24 nx nx Hnx.out.1 Hnx.out.2
 clear ht1 ht1' ht2 ht2' hbad
 go_enter Tryz.func5,Tryz.ntmps5
 go_wp2_with (first
  | ((with_reducible refine ab (some 9) (.box 39 (.tmp 1)) ?_);refine au (u8s kek) rfl hm ?_;clear hm;intro w0 g9 hm)
  | ((with_reducible refine ab (some 10) (.box 39 (.tmp 2)) ?_);refine au (u8s kel) rfl hm ?_;clear hm;intro w1 g10 hm)
  | ((with_reducible refine ab (some 11) (.box 39 (.tmp 3)) ?_);refine au (u8s x1) rfl hm ?_;clear hm;intro w2 g11 hm)
  | ((with_reducible refine ab (some 12) (.box 39 (.tmp 4)) ?_);refine au (u8s x2) rfl hm ?_;clear hm;intro w3 g12 hm)
  | ((with_reducible refine ab (some 13) (.box 39 (.tmp 5)) ?_);refine au (u8s nx) rfl hm ?_;clear hm;intro w4 g13 hm)
  | (go_at_call 9;refine (ef _ (HT.out.mem hm (by simp)) (HQT.out.mem hm (by simp))).mono ?_;rintro e w5 ⟨rfl,hb1⟩;replace hm:=hm.call hb1;clear hb1)
  | (go_at_call 10;(first|(clear tk1;go_must (refine (ee 64 _).mono ?_);rintro e w6 ⟨g,rfl,mb,kv,hd,hf,hb1⟩;rw [fq] at hd;have HD:Hid (DkAt w6 g mb kv (Dk.new 64)):=hd;have HF:Hid ((∀q∈foot g mb kv,w.heap.size≤q)∧∀r∈[(g13,u8s nx,39),(g12,u8s x2,39),(g11,u8s x1,39),(g10,u8s kel,39),(g9,u8s kek,39)],r.1 ∉ foot g mb kv):=⟨fun q hq=>Nat.le_trans hm.size (hf q hq),fun r hr hk=>absurd (hm.row r hr).lt (by have:=hf _ hk;omega)⟩;replace hm:=hm.call hb1;clear hd hf hb1)|(go_must (refine (ee 64 _).mono ?_);rintro e w7 ⟨g',rfl,mb',kv',hd,hf,hb1⟩;rw [fq] at hd;have HD':Hid (DkAt w7 g' mb' kv' (Dk.new 64)):=hd;have HAB:Hid (∀q∈foot g' mb' kv',q ∉ foot g mb kv):=fun q hq hk=>absurd (HD.out.lt q hk) (by have:=hf q hq;omega);have HD9:Hid (DkAt w7 g mb kv (Dk.new 64)):=HD.out.below hb1;have HF':Hid ((∀q∈foot g' mb' kv',w.heap.size≤q)∧∀r∈[(g13,u8s nx,39),(g12,u8s x2,39),(g11,u8s x1,39),(g10,u8s kel,39),(g9,u8s kek,39)],r.1 ∉ foot g' mb' kv'):=⟨fun q hq=>Nat.le_trans hm.size (hf q hq),fun r hr hk=>absurd (hm.row r hr).lt (by have:=hf _ hk;omega)⟩;replace hm:=hm.call hb1;clear hd hf hb1 HD;have HD:=HD9;clear HD9)))
  | (go_at_call 11;(first|(clear tk2;go_must (refine (fh (by omega) (by omega) hm HD.out HF.out.1 HF.out.2 HT.out).mono ?_);rintro e w8 ⟨sb,hb,rfl,st,hu,hs1,hh1⟩;have HD9:Hid (DkAt w8 g' mb' kv' (Dk.new 64)):=HD'.out.keep (fun q hq=>hu.block q (HD'.out.lt q hq) (HAB.out q hq));have HA2:Hid (∀q∈footS g mb kv sb hb,q ∉ foot g' mb' kv'):=foot_two HAB.out HD'.out.lt hs1 hh1;clear HD' HD HAB hu hs1 hh1 hm HF;have HD':=HD9;clear HD9)|(go_must (refine (make_2 st (by omega) (by omega) HD'.out HF'.out.1 HF'.out.2 HA2.out HT.out).mono ?_);rintro e w9 ⟨sb',hb',rfl,su,st9,hap⟩;replace st:=st9;have AP:Hid (∀q∈footS g mb kv sb hb,q ∉ footS g' mb' kv' sb' hb'):=hap;have AQ:Hid (∀q∈footS g' mb' kv' sb' hb',q ∉ footS g mb kv sb hb):=fun q h1 h2=>hap q h2 h1;obtain ⟨d0,hd0⟩:∃x,x=makeD (Dk.new 64):=⟨_,rfl⟩;rw [←hd0] at st su;clear hap st9 HD' HF' HA2 hd0)))
  | (go_at_call 13;(first|(clear tk3;go_must (refine (put_2 st su AQ.out HT.out HQT.out (by omega) (by decide) k hk24 kek x1 Hkek.out.1 Hkek.out.2 Hx1.out.1 Hx1.out.2 t1 (HT1.out ())).mono ?_);rintro e wp ⟨rfl,d1,st9,su9,HD1⟩;clear st su;have st:=st9;have su:=su9;clear st9 su9)|(go_must (refine (put_2 su st AP.out HT.out HQT.out (by omega) (by decide) k hk24 kel x2 Hkel.out.1 Hkel.out.2 Hx2.out.1 Hx2.out.2 t1' (HT1'.out ())).mono ?_);rintro e wp ⟨rfl,d1',su9,st9,HD1'⟩;clear st su;have st:=st9;have su:=su9;clear st9 su9)))
  | ((with_reducible refine dr (some 57) (.load 39 (.tmp 9)) (some (6,false)) ?_);go_must (refine aq (.agg (u8s kek).toArray) rfl (ao 0 _ (st.mem.get 4 rfl) rfl _ ar rfl 32 am (by rw [aa,Hkek.out.1];omega) (by rw [List.drop_zero,List.take_of_length_le (by rw [aa,Hkek.out.1];omega)])) ?_))
  | ((with_reducible refine dr (some 58) (.load 39 (.tmp 11)) (some (6,false)) ?_);go_must (refine aq (.agg (u8s x1).toArray) rfl (ao 0 _ (st.mem.get 2 rfl) rfl _ ar rfl 32 am (by rw [aa,Hx1.out.1];omega) (by rw [List.drop_zero,List.take_of_length_le (by rw [aa,Hx1.out.1];omega)])) ?_))
  | ((with_reducible refine dr (some 65) (.load 39 (.tmp 10)) (some (14,false)) ?_);go_must (refine aq (.agg (u8s kel).toArray) rfl (ao 0 _ (st.mem.get 3 rfl) rfl _ ar rfl 32 am (by rw [aa,Hkel.out.1];omega) (by rw [List.drop_zero,List.take_of_length_le (by rw [aa,Hkel.out.1];omega)])) ?_))
  | ((with_reducible refine dr (some 66) (.load 39 (.tmp 12)) (some (14,false)) ?_);go_must (refine aq (.agg (u8s x2).toArray) rfl (ao 0 _ (st.mem.get 1 rfl) rfl _ ar rfl 32 am (by rw [aa,Hx2.out.1];omega) (by rw [List.drop_zero,List.take_of_length_le (by rw [aa,Hx2.out.1];omega)])) ?_)))
 refine ax ?_
 refine aY (T:=fun W=>Row W g13 (u8s nx) 39) (by kernel_rfl) st.mem ?_
 intro wz hbz hmz
 replace st:=st.below hbz
 replace su:=su.below hbz
 have HTW:Hid (Row wz g13 (u8s nx) 39):=st.mem.get 0 rfl
 clear hbz hmz
 refine aT 0 (v:=.pointer (some ⟨sb,0,none⟩)) rfl (by kernel_rfl) rfl (fun W _=>by go_simp) HTW.out ?_
 go_simp
 refine aT 1 (v:=.int .i64 (k:Int)) rfl (by kernel_rfl) rfl (fun W _=>by go_simp) HTW.out ?_
 go_simp
 refine aT 2 (v:=.agg (u8s nx).toArray) rfl (by kernel_rfl) rfl (fun W hW=>ao 0 _ hW rfl _ ar rfl 32 am (by rw [aa,Hnx.out.1];omega) (by rw [List.drop_zero,List.take_of_length_le (by rw [aa,Hnx.out.1];omega)])) HTW.out ?_
 go_simp
 refine aT 3 (v:=.agg (u8s nx).toArray) rfl (by kernel_rfl) rfl (fun W hW=>ao 0 _ hW rfl _ ar rfl 32 am (by rw [aa,Hnx.out.1];omega) (by rw [List.drop_zero,List.take_of_length_le (by rw [aa,Hnx.out.1];omega)])) HTW.out ?_
 go_simp
 refine aT 5 (v:=.pointer (some ⟨sb',0,none⟩)) rfl (by kernel_rfl) rfl (fun W _=>by go_simp) HTW.out ?_
 go_simp
 refine aT 6 (v:=.int .i64 (k:Int)) rfl (by kernel_rfl) rfl (fun W _=>by go_simp) HTW.out ?_
 go_simp
 refine aT 7 (v:=.agg (u8s nx).toArray) rfl (by kernel_rfl) rfl (fun W hW=>ao 0 _ hW rfl _ ar rfl 32 am (by rw [aa,Hnx.out.1];omega) (by rw [List.drop_zero,List.take_of_length_le (by rw [aa,Hnx.out.1];omega)])) HTW.out ?_
 go_simp
 refine aT 8 (v:=.agg (u8s nx).toArray) rfl (by kernel_rfl) rfl (fun W hW=>ao 0 _ hW rfl _ ar rfl 32 am (by rw [aa,Hnx.out.1];omega) (by rw [List.drop_zero,List.take_of_length_le (by rw [aa,Hnx.out.1];omega)])) HTW.out ?_
 go_simp
 refine aO 4 (by kernel_rfl) rfl rfl ?_
 intro K hK
 go_wp2_with ((go_at_call 13;go_must (refine (put_2 st su AQ.out HT.out HQT.out (by omega) (by have:=HPE.out.1;omega) k hk24 nx nx Hnx.out.1 Hnx.out.2 Hnx.out.1 Hnx.out.2 t2 (HT2.out ())).mono ?_);rintro e wp ⟨rfl,d2,st9,su9,HD2⟩;clear st su;have st:=st9;have su:=su9;clear st9 su9 HTW;have HTW:Hid (Row wp g13 (u8s nx) 39):=st.mem.get 0 rfl))
 refine hK _ _ HTW.out ?_
 clear hK K
 go_simp
 refine aO 9 (by kernel_rfl) rfl rfl ?_
 intro K hK
 go_wp2_with ((go_at_call 13;go_must (refine (put_2 su st AP.out HT.out HQT.out (by omega) (by have:=HPE.out.2;omega) k hk24 nx nx Hnx.out.1 Hnx.out.2 Hnx.out.1 Hnx.out.2 t2' (HT2'.out ())).mono ?_);rintro e wp ⟨rfl,d2',su9,st9,HD2'⟩;clear st su;have st:=st9;have su:=su9;clear st9 su9 HTW;have HTW:Hid (Row wp g13 (u8s nx) 39):=st.mem.get 0 rfl))
 refine hK _ _ HTW.out ?_
 clear hK K
 go_simp
 refine aT 10 (v:=.int .i64 0) rfl (by kernel_rfl) rfl (fun W _=>by go_simp) HTW.out ?_
 go_simp
 refine aT 11 (v:=.int .i64 0) rfl (by kernel_rfl) rfl (fun W _=>by go_simp) HTW.out ?_
 go_simp
 refine wpAnyH_done (by kernel_rfl) ?_ _
 simp only [endsIn]
 clear HTW
 go_wp2_with fail
 have HEQ:Hid (d2.n=d2'.n∧∀s,d2.kept s=d2'.kept s):=two_again (HPE.out.1.trans HPE.out.2.symm) (two_first HD1.out HD1'.out) HD2.out HD2'.out
 obtain ⟨ZS,hZS⟩:∃x,x=flatK d2.kept d2.n:=⟨_,rfl⟩
 have HZ1:Hid (∀_:Unit,flatK d2.kept d2.n=ZS):=fun _=>hZS.symm
 have HZ2:Hid (∀_:Unit,flatK d2'.kept d2'.n=ZS):=fun _=>by rw [hZS];exact flat_two HEQ.out
 clear HEQ hZS HD1 HD1' HD2 HD2'
 refine ax ?_
 refine aY (T:=fun _=>True) (by kernel_rfl) st.mem ?_
 intro wz hbz hmz
 replace st:=st.below hbz
 replace su:=su.below hbz
 have HTW:Hid True:=trivial
 clear hbz hmz
 refine aT 0 (v:=.int .i64 0) rfl (by kernel_rfl) rfl (fun W _=>by go_simp) HTW.out ?_
 go_simp
 refine aT 1 (v:=.bool false) rfl (by kernel_rfl) rfl (fun W _=>by go_simp) HTW.out ?_
 go_simp
 refine aT 2 (v:=.bool false) rfl (by kernel_rfl) rfl (fun W _=>by go_simp) HTW.out ?_
 go_simp
 refine aG 3 (v:=.int .i64 0) rfl (by kernel_rfl) rfl (fun W _=>by go_simp) HTW.out ?_
 go_simp
 refine aG 4 (v:=.bool false) rfl (by kernel_rfl) rfl (fun W _=>by go_simp) HTW.out ?_
 go_simp
 refine aT 5 (v:=.bool false) rfl (by kernel_rfl) rfl (fun W _=>by go_simp) HTW.out ?_
 go_simp
 refine aT 6 (v:=.bool false) rfl (by kernel_rfl) rfl (fun W _=>by go_simp) HTW.out ?_
 go_simp
 refine aG 7 (v:=.pointer (some ⟨g,0,none⟩)) rfl (by kernel_rfl) rfl (fun W _=>by go_simp) HTW.out ?_
 go_simp
 refine aG 10 (v:=.pointer (some ⟨g',0,none⟩)) rfl (by kernel_rfl) rfl (fun W _=>by go_simp) HTW.out ?_
 go_simp
 refine aO 8 (by kernel_rfl) rfl rfl ?_
 intro K hK
 go_wp2_with ((go_at_call 24;go_must (refine (dU st su ZS (HZ1.out ())).mono ?_);rintro e wi ⟨p1,c1,rfl,ho,st9,su9,_⟩;replace st:=st9;replace su:=su9;have HO1:Hid (OwnB 5 wi 0 (.slice p1 ZS.length c1) ZS):=ho;clear st9 su9 ho))
 refine hK _ _ HTW.out ?_
 clear hK K
 go_simp
 refine df (fun W=>OwnB 5 W 0 (.slice p1 ZS.length c1) ZS) (fun _ _=>trivial) _ _ _ _ ?_
 clear HTW
 have HTW:=HO1
 clear HO1
 refine aG 9 (v:=.string (strOf ZS)) rfl (by kernel_rfl) rfl (fun W hW=>bd av aZ bH ZS rfl (OwnB.old hW)) HTW.out ?_
 go_simp
 refine aO 11 (by kernel_rfl) rfl rfl ?_
 intro K hK
 go_wp2_with ((go_at_call 24;go_must (refine (dU su st ZS (HZ2.out ())).mono ?_);rintro e wj ⟨p2,c2,rfl,ho,su9,st9,hbj⟩;replace st:=st9;replace su:=su9;have HO2:Hid (OwnB 5 wj 0 (.slice p2 ZS.length c2) ZS):=ho;have HTX:Hid (OwnB 5 wj 0 (.slice p1 ZS.length c1) ZS):=OwnB.below HTW.out hbj;clear st9 su9 ho hbj HTW;have HTW:=HTX;clear HTX))
 refine hK _ _ HTW.out ?_
 clear hK K
 go_simp
 refine df (fun W=>OwnB 5 W 0 (.slice p2 ZS.length c2) ZS∧OwnB 5 W 0 (.slice p1 ZS.length c1) ZS) (fun _ h=>h.2) _ _ _ _ ?_
 have HTX:Hid (OwnB 5 wj 0 (.slice p2 ZS.length c2) ZS∧OwnB 5 wj 0 (.slice p1 ZS.length c1) ZS):=⟨HO2.out,HTW.out⟩
 clear HTW HO2
 have HTW:=HTX
 clear HTX
 refine aG 12 (v:=.string (strOf ZS)) rfl (by kernel_rfl) rfl (fun W hW=>bd av aZ bH ZS rfl (OwnB.old hW.1)) HTW.out ?_
 go_simp
 refine aG 13 (v:=.bool false) rfl (by kernel_rfl) rfl (fun W _=>ir (strOf ZS) (strOf ZS) true rfl rfl (dB _)) HTW.out ?_
 go_simp
 refine aT 14 (v:=.bool false) rfl (by kernel_rfl) rfl (fun W _=>by go_simp) HTW.out ?_
 go_simp
 refine wpAnyH_done (by kernel_rfl) ?_ _
 simp only [endsIn]
 clear HTW
 go_wp2_with (first
  | (go_at_call 18;(first|(clear tk5;go_must (refine (jh st su AQ.out ch _ HCHB.out (st.old HL.out)).mono ?_);rintro e wc ⟨rfl,d3,st9,su9,HD3⟩;clear st su;have st:=st9;have su:=su9;clear st9 su9)|(go_must (refine (jh su st AP.out ch _ HCHB.out (su.old HL.out)).mono ?_);rintro e wc ⟨rfl,d3',su9,st9,HD3'⟩;clear st su;have st:=st9;have su:=su9;clear st9 su9)))
  | (go_at_call 19;(first|(clear tk6;go_must (refine (open_2 st su AQ.out HT.out (by omega)).mono ?_);rintro e wo ⟨s2,h2,rfl,st9,su9,hap⟩;clear st su AQ AP;have st:=st9;have su:=su9;have AP:Hid (∀q∈footS g mb kv s2 h2,q ∉ footS g' mb' kv' sb' hb'):=fun q h3 h4=>hap q h4 h3;clear st9 su9 hap)|(go_must (refine (open_2 su st AP.out HT.out (by omega)).mono ?_);rintro e wo ⟨s2',h2',rfl,su9,st9,hap⟩;clear st su AP;have st:=st9;have su:=su9;clear st9 su9 hap))))
 have HY1:Hid (∀_:Unit,flatK d3.kept d3.n=ZS):=fun _=>by rw [←HZ1.out (),HD3.out.1];exact cW _ _ _ (fun s _=>HD3.out.2 s)
 have HY2:Hid (∀_:Unit,flatK d3'.kept d3'.n=ZS):=fun _=>by rw [←HZ2.out (),HD3'.out.1];exact cW _ _ _ (fun s _=>HD3'.out.2 s)
 clear HZ1 HZ2 HD3 HD3'
 refine ax ?_
 refine aY (T:=fun _=>True) (by kernel_rfl) st.mem ?_
 intro wz hbz hmz
 replace st:=st.below hbz
 replace su:=su.below hbz
 have HTW:Hid True:=trivial
 clear hbz hmz
 refine aT 0 (v:=.int .i64 0) rfl (by kernel_rfl) rfl (fun W _=>by go_simp) HTW.out ?_
 go_simp
 refine aT 1 (v:=.bool false) rfl (by kernel_rfl) rfl (fun W _=>by go_simp) HTW.out ?_
 go_simp
 refine aT 2 (v:=.bool false) rfl (by kernel_rfl) rfl (fun W _=>by go_simp) HTW.out ?_
 go_simp
 refine aG 3 (v:=.int .i64 0) rfl (by kernel_rfl) rfl (fun W _=>by go_simp) HTW.out ?_
 go_simp
 refine aG 4 (v:=.bool false) rfl (by kernel_rfl) rfl (fun W _=>by go_simp) HTW.out ?_
 go_simp
 refine aT 5 (v:=.bool false) rfl (by kernel_rfl) rfl (fun W _=>by go_simp) HTW.out ?_
 go_simp
 refine aT 6 (v:=.bool false) rfl (by kernel_rfl) rfl (fun W _=>by go_simp) HTW.out ?_
 go_simp
 refine aG 7 (v:=.pointer (some ⟨g,0,none⟩)) rfl (by kernel_rfl) rfl (fun W _=>by go_simp) HTW.out ?_
 go_simp
 refine aG 10 (v:=.pointer (some ⟨g',0,none⟩)) rfl (by kernel_rfl) rfl (fun W _=>by go_simp) HTW.out ?_
 go_simp
 refine aO 8 (by kernel_rfl) rfl rfl ?_
 intro K hK
 go_wp2_with ((go_at_call 24;go_must (refine (dU st su ZS (HY1.out ())).mono ?_);rintro e wi ⟨p1,c1,rfl,ho,st9,su9,_⟩;replace st:=st9;replace su:=su9;have HO1:Hid (OwnB 5 wi 0 (.slice p1 ZS.length c1) ZS):=ho;clear st9 su9 ho))
 refine hK _ _ HTW.out ?_
 clear hK K
 go_simp
 refine df (fun W=>OwnB 5 W 0 (.slice p1 ZS.length c1) ZS) (fun _ _=>trivial) _ _ _ _ ?_
 clear HTW
 have HTW:=HO1
 clear HO1
 refine aG 9 (v:=.string (strOf ZS)) rfl (by kernel_rfl) rfl (fun W hW=>bd av aZ bH ZS rfl (OwnB.old hW)) HTW.out ?_
 go_simp
 refine aO 11 (by kernel_rfl) rfl rfl ?_
 intro K hK
 go_wp2_with ((go_at_call 24;go_must (refine (dU su st ZS (HY2.out ())).mono ?_);rintro e wj ⟨p2,c2,rfl,ho,su9,st9,hbj⟩;replace st:=st9;replace su:=su9;have HO2:Hid (OwnB 5 wj 0 (.slice p2 ZS.length c2) ZS):=ho;have HTX:Hid (OwnB 5 wj 0 (.slice p1 ZS.length c1) ZS):=OwnB.below HTW.out hbj;clear st9 su9 ho hbj HTW;have HTW:=HTX;clear HTX))
 refine hK _ _ HTW.out ?_
 clear hK K
 go_simp
 refine df (fun W=>OwnB 5 W 0 (.slice p2 ZS.length c2) ZS∧OwnB 5 W 0 (.slice p1 ZS.length c1) ZS) (fun _ h=>h.2) _ _ _ _ ?_
 have HTX:Hid (OwnB 5 wj 0 (.slice p2 ZS.length c2) ZS∧OwnB 5 wj 0 (.slice p1 ZS.length c1) ZS):=⟨HO2.out,HTW.out⟩
 clear HTW HO2
 have HTW:=HTX
 clear HTX
 refine aG 12 (v:=.string (strOf ZS)) rfl (by kernel_rfl) rfl (fun W hW=>bd av aZ bH ZS rfl (OwnB.old hW.1)) HTW.out ?_
 go_simp
 refine aG 13 (v:=.bool false) rfl (by kernel_rfl) rfl (fun W _=>ir (strOf ZS) (strOf ZS) true rfl rfl (dB _)) HTW.out ?_
 go_simp
 refine aT 14 (v:=.bool false) rfl (by kernel_rfl) rfl (fun W _=>by go_simp) HTW.out ?_
 go_simp
 refine wpAnyH_done (by kernel_rfl) ?_ _
 simp only [endsIn]
 clear HTW
 go_wp2_with (first
  | ((with_reducible refine ab (some 136) (.load 39 (.tmp 13)) ?_);go_must (refine aq (.agg (u8s nx).toArray) rfl (ao 0 _ (st.mem.get 0 rfl) rfl _ ar rfl 32 am (by rw [aa,Hnx.out.1];omega) (by rw [List.drop_zero,List.take_of_length_le (by rw [aa,Hnx.out.1];omega)])) ?_))
  | ((with_reducible refine ab (some 143) (.load 39 (.tmp 13)) ?_);go_must (refine aq (.agg (u8s nx).toArray) rfl (ao 0 _ (st.mem.get 1 rfl) rfl _ ar rfl 32 am (by rw [aa,Hnx.out.1];omega) (by rw [List.drop_zero,List.take_of_length_le (by rw [aa,Hnx.out.1];omega)])) ?_))
  | (go_at_call 16;(first|(clear tk7;go_must (refine (get_2 st su HT.out HQT.out (k:Int) nx Hnx.out.1 Hnx.out.2).mono ?_);rintro e wg ⟨he,st9,su9⟩;rw [HG.out ()] at he;subst he;replace st:=st9;replace su:=su9;clear st9 su9)|(go_must (refine (get_2 su st HT.out HQT.out (k:Int) nx Hnx.out.1 Hnx.out.2).mono ?_);rintro e wg ⟨he,su9,st9⟩;rw [HG'.out ()] at he;subst he;replace st:=st9;replace su:=su9;clear st9 su9)))
  | ((with_reducible refine ab (some 24) (.alloc 39) ?_);go_must (refine bz _ aM ?_);intro wa q24 hba hqa hra;replace st:=st.add hba hra hqa;replace su:=su.add hba hra hqa;clear hba hqa hra)
  | ((with_reducible refine ab none (.store 39 (.tmp 24) (.tmp 138)) ?_);go_must (refine cI (u8s nx) (st.mem.get 0 rfl) rfl rfl 32 am (by simp [aa]) (by rw [aa,Hnx.out.1]) (aj _) ?_);intro wb hub hrb;replace st:=st.upd 0 rfl hub hrb;replace su:=su.upd 0 rfl hub hrb;clear hub hrb)
  | ((with_reducible refine ab (some 26) (.alloc 39) ?_);go_must (refine bz _ aM ?_);intro wa q26 hba hqa hra;replace st:=st.add hba hra hqa;replace su:=su.add hba hra hqa;clear hba hqa hra)
  | ((with_reducible refine ab none (.store 39 (.tmp 26) (.tmp 145)) ?_);go_must (refine cI (u8s nx) (st.mem.get 0 rfl) rfl rfl 32 am (by simp [aa]) (by rw [aa,Hnx.out.1]) (aj _) ?_);intro wb hub hrb;replace st:=st.upd 0 rfl hub hrb;replace su:=su.upd 0 rfl hub hrb;clear hub hrb)
  | ((with_reducible refine ab (some 147) (.load 39 (.tmp 24)) ?_);go_must (refine aq (.agg (u8s nx).toArray) rfl (ao 0 _ (st.mem.get 1 rfl) rfl _ ar rfl 32 am (by rw [aa,Hnx.out.1];omega) (by rw [List.drop_zero,List.take_of_length_le (by rw [aa,Hnx.out.1];omega)])) ?_))
  | ((with_reducible refine ab (some 148) (.load 39 (.tmp 26)) ?_);go_must (refine aq (.agg (u8s nx).toArray) rfl (ao 0 _ (st.mem.get 0 rfl) rfl _ ar rfl 32 am (by rw [aa,Hnx.out.1];omega) (by rw [List.drop_zero,List.take_of_length_le (by rw [aa,Hnx.out.1];omega)])) ?_))
  | ((with_reducible refine ab (some 149) (.binOp .eql 39 (.tmp 147) (.tmp 148) 39) ?_);go_must (refine aq (.bool true) rfl (dZ 5 32 .u8 nx rfl rfl ar aZ aC fF Hnx.out.1) ?_))
  | ((with_reducible refine dr (some 162) (.load 39 (.tmp 24)) (some (14,true)) ?_);go_must (refine aq (.agg (u8s nx).toArray) rfl (ao 0 _ (st.mem.get 1 rfl) rfl _ ar rfl 32 am (by rw [aa,Hnx.out.1];omega) (by rw [List.drop_zero,List.take_of_length_le (by rw [aa,Hnx.out.1];omega)])) ?_))
  | ((with_reducible refine dr (some 163) (.load 39 (.tmp 13)) (some (14,true)) ?_);go_must (refine aq (.agg (u8s nx).toArray) rfl (ao 0 _ (st.mem.get 2 rfl) rfl _ ar rfl 32 am (by rw [aa,Hnx.out.1];omega) (by rw [List.drop_zero,List.take_of_length_le (by rw [aa,Hnx.out.1];omega)])) ?_))
  | ((with_reducible refine dr (some 164) (.binOp .eql 39 (.tmp 162) (.tmp 163) 39) (some (14,true)) ?_);go_must (refine aq (.bool true) rfl (dZ 5 32 .u8 nx rfl rfl ar aZ aC fF Hnx.out.1) ?_)))
 go_ret
 exact ⟨rfl,st.mem.below⟩
open Go Go.RowKit Go.Maps
theorem erased_false (a:Int) (kek kel x1 x2 nx ch:List Int) (p:Option Addr) (n cap:Nat) (ha:0≤a∧a<256) (hkek:kek.length=32∧Bytes kek) (hkel:kel.length=32∧Bytes kel) (hx1:x1.length=32∧Bytes x1) (hx2:x2.length=32∧Bytes x2) (hnx:nx.length=32∧Bytes nx) (hchb:Bytes ch) (w:World) (ht:Tab w) (hq:QTab w) (_h2:2≤w.heap.size) (hbad:n≤20) (hl:SlOld w (.slice p n cap) ch) :
  Calls Tryz.prog 5 #[.int .u8 a,.agg (u8s kek).toArray,.agg (u8s kel).toArray,.agg (u8s x1).toArray,.agg (u8s x2).toArray,.agg (u8s nx).toArray,.bool false,.slice p n cap] w fun e w'=>e=.returned (.bool true)∧Below w.heap.size w w':=by
 have Hkek:Hid (kek.length=32∧Bytes kek):=hkek
 have Hkel:Hid (kel.length=32∧Bytes kel):=hkel
 have Hx1:Hid (x1.length=32∧Bytes x1):=hx1
 have Hx2:Hid (x2.length=32∧Bytes x2):=hx2
 have Hnx:Hid (nx.length=32∧Bytes nx):=hnx
 have HT:Hid (Tab w):=ht
 have HQT:Hid (QTab w):=hq
 have HL:Hid (SlOld w (.slice p n cap) ch):=hl
 have HCHB:Hid (Bytes ch):=hchb
 have Hzero32:Hid (zero32.length=32∧Bytes zero32):=⟨by simp [zero32],Bytes.zeros 32⟩
 have hm:=Mem.start w
 obtain ⟨k,hk⟩:∃k:Nat,(k:Int)=a.tmod 24:=⟨(a.tmod 24).toNat,by rw [Int.tmod_eq_emod_of_nonneg ha.1];omega⟩
 have hk24:k<24:=by rw [Int.tmod_eq_emod_of_nonneg ha.1] at hk;omega
 have HKM:a.tmod 24=(k:Int):=hk.symm
 have HKW:IntKind.i64.wrap (k:Int)=(k:Int):=by rw [IntKind.wrap_i64];omega
 clear ht hq hl hchb hk ha hkek hkel hx1 hx2 hnx
 have hn1:¬(20:Int)<(n:Int):=by omega
 have tk1:Nat:=0
 have tk2:Nat:=0
 have tk3:Nat:=0
 have tk4:Nat:=0
 have tk5:Nat:=0
 have tk6:Nat:=0
 have tk7:Nat:=0
 obtain ⟨t1,ht1⟩:∃x,x=putS newS k (entN newS k kek x1):=⟨_,rfl⟩
 obtain ⟨t1',ht1'⟩:∃x,x=putS newS k (entN newS k kel x2):=⟨_,rfl⟩
 have HT1:Hid (∀_:Unit,t1=putS newS k (entN newS k kek x1)):=fun _=>ht1
 have HT1':Hid (∀_:Unit,t1'=putS newS k (entN newS k kel x2)):=fun _=>ht1'
 have HPE:Hid (t1.puts=1∧t1'.puts=1):=⟨by rw [ht1];rfl,by rw [ht1'];rfl⟩
 obtain ⟨t2,ht2⟩:∃x,x=eraS t1 k:=⟨_,rfl⟩
 obtain ⟨t2',ht2'⟩:∃x,x=eraS t1' k:=⟨_,rfl⟩
 have HT2:Hid (∀_:Unit,t2=eraS t1 k):=fun _=>ht2
 have HT2':Hid (∀_:Unit,t2'=eraS t1' k):=fun _=>ht2'
 have HG:Hid (∀_:Unit,getV t2.held (k:Int) nx=(zero32,120)):=fun _=>by rw [ht2];exact iH hk24 (bg _ _ _) _
 have HG':Hid (∀_:Unit,getV t2'.held (k:Int) nx=(zero32,120)):=fun _=>by rw [ht2'];exact iH hk24 (bg _ _ _) _
 clear ht1 ht1' ht2 ht2' hbad
 go_enter Tryz.func5,Tryz.ntmps5
 go_wp2_with (first
  | ((with_reducible refine ab (some 9) (.box 39 (.tmp 1)) ?_);refine au (u8s kek) rfl hm ?_;clear hm;intro w0 g9 hm)
  | ((with_reducible refine ab (some 10) (.box 39 (.tmp 2)) ?_);refine au (u8s kel) rfl hm ?_;clear hm;intro w1 g10 hm)
  | ((with_reducible refine ab (some 11) (.box 39 (.tmp 3)) ?_);refine au (u8s x1) rfl hm ?_;clear hm;intro w2 g11 hm)
  | ((with_reducible refine ab (some 12) (.box 39 (.tmp 4)) ?_);refine au (u8s x2) rfl hm ?_;clear hm;intro w3 g12 hm)
  | ((with_reducible refine ab (some 13) (.box 39 (.tmp 5)) ?_);refine au (u8s nx) rfl hm ?_;clear hm;intro w4 g13 hm)
  | (go_at_call 9;refine (ef _ (HT.out.mem hm (by simp)) (HQT.out.mem hm (by simp))).mono ?_;rintro e w5 ⟨rfl,hb1⟩;replace hm:=hm.call hb1;clear hb1)
  | (go_at_call 10;(first|(clear tk1;go_must (refine (ee 64 _).mono ?_);rintro e w6 ⟨g,rfl,mb,kv,hd,hf,hb1⟩;rw [fq] at hd;have HD:Hid (DkAt w6 g mb kv (Dk.new 64)):=hd;have HF:Hid ((∀q∈foot g mb kv,w.heap.size≤q)∧∀r∈[(g13,u8s nx,39),(g12,u8s x2,39),(g11,u8s x1,39),(g10,u8s kel,39),(g9,u8s kek,39)],r.1 ∉ foot g mb kv):=⟨fun q hq=>Nat.le_trans hm.size (hf q hq),fun r hr hk=>absurd (hm.row r hr).lt (by have:=hf _ hk;omega)⟩;replace hm:=hm.call hb1;clear hd hf hb1)|(go_must (refine (ee 64 _).mono ?_);rintro e w7 ⟨g',rfl,mb',kv',hd,hf,hb1⟩;rw [fq] at hd;have HD':Hid (DkAt w7 g' mb' kv' (Dk.new 64)):=hd;have HAB:Hid (∀q∈foot g' mb' kv',q ∉ foot g mb kv):=fun q hq hk=>absurd (HD.out.lt q hk) (by have:=hf q hq;omega);have HD9:Hid (DkAt w7 g mb kv (Dk.new 64)):=HD.out.below hb1;have HF':Hid ((∀q∈foot g' mb' kv',w.heap.size≤q)∧∀r∈[(g13,u8s nx,39),(g12,u8s x2,39),(g11,u8s x1,39),(g10,u8s kel,39),(g9,u8s kek,39)],r.1 ∉ foot g' mb' kv'):=⟨fun q hq=>Nat.le_trans hm.size (hf q hq),fun r hr hk=>absurd (hm.row r hr).lt (by have:=hf _ hk;omega)⟩;replace hm:=hm.call hb1;clear hd hf hb1 HD;have HD:=HD9;clear HD9)))
  | (go_at_call 11;(first|(clear tk2;go_must (refine (fh (by omega) (by omega) hm HD.out HF.out.1 HF.out.2 HT.out).mono ?_);rintro e w8 ⟨sb,hb,rfl,st,hu,hs1,hh1⟩;have HD9:Hid (DkAt w8 g' mb' kv' (Dk.new 64)):=HD'.out.keep (fun q hq=>hu.block q (HD'.out.lt q hq) (HAB.out q hq));have HA2:Hid (∀q∈footS g mb kv sb hb,q ∉ foot g' mb' kv'):=foot_two HAB.out HD'.out.lt hs1 hh1;clear HD' HD HAB hu hs1 hh1 hm HF;have HD':=HD9;clear HD9)|(go_must (refine (make_2 st (by omega) (by omega) HD'.out HF'.out.1 HF'.out.2 HA2.out HT.out).mono ?_);rintro e w9 ⟨sb',hb',rfl,su,st9,hap⟩;replace st:=st9;have AP:Hid (∀q∈footS g mb kv sb hb,q ∉ footS g' mb' kv' sb' hb'):=hap;have AQ:Hid (∀q∈footS g' mb' kv' sb' hb',q ∉ footS g mb kv sb hb):=fun q h1 h2=>hap q h2 h1;obtain ⟨d0,hd0⟩:∃x,x=makeD (Dk.new 64):=⟨_,rfl⟩;rw [←hd0] at st su;clear hap st9 HD' HF' HA2 hd0)))
  | (go_at_call 13;(first|(clear tk3;go_must (refine (put_2 st su AQ.out HT.out HQT.out (by omega) (by decide) k hk24 kek x1 Hkek.out.1 Hkek.out.2 Hx1.out.1 Hx1.out.2 t1 (HT1.out ())).mono ?_);rintro e wp ⟨rfl,d1,st9,su9,HD1⟩;clear st su;have st:=st9;have su:=su9;clear st9 su9)|(go_must (refine (put_2 su st AP.out HT.out HQT.out (by omega) (by decide) k hk24 kel x2 Hkel.out.1 Hkel.out.2 Hx2.out.1 Hx2.out.2 t1' (HT1'.out ())).mono ?_);rintro e wp ⟨rfl,d1',su9,st9,HD1'⟩;clear st su;have st:=st9;have su:=su9;clear st9 su9)))
  | ((with_reducible refine dr (some 57) (.load 39 (.tmp 9)) (some (6,false)) ?_);go_must (refine aq (.agg (u8s kek).toArray) rfl (ao 0 _ (st.mem.get 4 rfl) rfl _ ar rfl 32 am (by rw [aa,Hkek.out.1];omega) (by rw [List.drop_zero,List.take_of_length_le (by rw [aa,Hkek.out.1];omega)])) ?_))
  | ((with_reducible refine dr (some 58) (.load 39 (.tmp 11)) (some (6,false)) ?_);go_must (refine aq (.agg (u8s x1).toArray) rfl (ao 0 _ (st.mem.get 2 rfl) rfl _ ar rfl 32 am (by rw [aa,Hx1.out.1];omega) (by rw [List.drop_zero,List.take_of_length_le (by rw [aa,Hx1.out.1];omega)])) ?_))
  | ((with_reducible refine dr (some 65) (.load 39 (.tmp 10)) (some (14,false)) ?_);go_must (refine aq (.agg (u8s kel).toArray) rfl (ao 0 _ (st.mem.get 3 rfl) rfl _ ar rfl 32 am (by rw [aa,Hkel.out.1];omega) (by rw [List.drop_zero,List.take_of_length_le (by rw [aa,Hkel.out.1];omega)])) ?_))
  | ((with_reducible refine dr (some 66) (.load 39 (.tmp 12)) (some (14,false)) ?_);go_must (refine aq (.agg (u8s x2).toArray) rfl (ao 0 _ (st.mem.get 1 rfl) rfl _ ar rfl 32 am (by rw [aa,Hx2.out.1];omega) (by rw [List.drop_zero,List.take_of_length_le (by rw [aa,Hx2.out.1];omega)])) ?_))
  | (go_at_call 15;(first|(clear tk4;go_must (refine (erase_2 st su AQ.out (by omega) k hk24 t2 (HT2.out ())).mono ?_);rintro e wp ⟨rfl,d2,st9,su9,HD2⟩;clear st su;have st:=st9;have su:=su9;clear st9 su9)|(go_must (refine (erase_2 su st AP.out (by omega) k hk24 t2' (HT2'.out ())).mono ?_);rintro e wp ⟨rfl,d2',su9,st9,HD2'⟩;clear st su;have st:=st9;have su:=su9;clear st9 su9))))
 have HEQ:Hid (d2.n=d2'.n∧∀s,d2.kept s=d2'.kept s):=two_erased (two_first HD1.out HD1'.out) HD2.out HD2'.out
 obtain ⟨ZS,hZS⟩:∃x,x=flatK d2.kept d2.n:=⟨_,rfl⟩
 have HZ1:Hid (∀_:Unit,flatK d2.kept d2.n=ZS):=fun _=>hZS.symm
 have HZ2:Hid (∀_:Unit,flatK d2'.kept d2'.n=ZS):=fun _=>by rw [hZS];exact flat_two HEQ.out
 clear HEQ hZS HD1 HD1' HD2 HD2'
 refine ax ?_
 refine aY (T:=fun _=>True) (by kernel_rfl) st.mem ?_
 intro wz hbz hmz
 replace st:=st.below hbz
 replace su:=su.below hbz
 have HTW:Hid True:=trivial
 clear hbz hmz
 refine aT 0 (v:=.int .i64 0) rfl (by kernel_rfl) rfl (fun W _=>by go_simp) HTW.out ?_
 go_simp
 refine aT 1 (v:=.bool false) rfl (by kernel_rfl) rfl (fun W _=>by go_simp) HTW.out ?_
 go_simp
 refine aT 2 (v:=.bool false) rfl (by kernel_rfl) rfl (fun W _=>by go_simp) HTW.out ?_
 go_simp
 refine aG 3 (v:=.int .i64 0) rfl (by kernel_rfl) rfl (fun W _=>by go_simp) HTW.out ?_
 go_simp
 refine aG 4 (v:=.bool false) rfl (by kernel_rfl) rfl (fun W _=>by go_simp) HTW.out ?_
 go_simp
 refine aT 5 (v:=.bool false) rfl (by kernel_rfl) rfl (fun W _=>by go_simp) HTW.out ?_
 go_simp
 refine aT 6 (v:=.bool false) rfl (by kernel_rfl) rfl (fun W _=>by go_simp) HTW.out ?_
 go_simp
 refine aG 7 (v:=.pointer (some ⟨g,0,none⟩)) rfl (by kernel_rfl) rfl (fun W _=>by go_simp) HTW.out ?_
 go_simp
 refine aG 10 (v:=.pointer (some ⟨g',0,none⟩)) rfl (by kernel_rfl) rfl (fun W _=>by go_simp) HTW.out ?_
 go_simp
 refine aO 8 (by kernel_rfl) rfl rfl ?_
 intro K hK
 go_wp2_with ((go_at_call 24;go_must (refine (dU st su ZS (HZ1.out ())).mono ?_);rintro e wi ⟨p1,c1,rfl,ho,st9,su9,_⟩;replace st:=st9;replace su:=su9;have HO1:Hid (OwnB 5 wi 0 (.slice p1 ZS.length c1) ZS):=ho;clear st9 su9 ho))
 refine hK _ _ HTW.out ?_
 clear hK K
 go_simp
 refine df (fun W=>OwnB 5 W 0 (.slice p1 ZS.length c1) ZS) (fun _ _=>trivial) _ _ _ _ ?_
 clear HTW
 have HTW:=HO1
 clear HO1
 refine aG 9 (v:=.string (strOf ZS)) rfl (by kernel_rfl) rfl (fun W hW=>bd av aZ bH ZS rfl (OwnB.old hW)) HTW.out ?_
 go_simp
 refine aO 11 (by kernel_rfl) rfl rfl ?_
 intro K hK
 go_wp2_with ((go_at_call 24;go_must (refine (dU su st ZS (HZ2.out ())).mono ?_);rintro e wj ⟨p2,c2,rfl,ho,su9,st9,hbj⟩;replace st:=st9;replace su:=su9;have HO2:Hid (OwnB 5 wj 0 (.slice p2 ZS.length c2) ZS):=ho;have HTX:Hid (OwnB 5 wj 0 (.slice p1 ZS.length c1) ZS):=OwnB.below HTW.out hbj;clear st9 su9 ho hbj HTW;have HTW:=HTX;clear HTX))
 refine hK _ _ HTW.out ?_
 clear hK K
 go_simp
 refine df (fun W=>OwnB 5 W 0 (.slice p2 ZS.length c2) ZS∧OwnB 5 W 0 (.slice p1 ZS.length c1) ZS) (fun _ h=>h.2) _ _ _ _ ?_
 have HTX:Hid (OwnB 5 wj 0 (.slice p2 ZS.length c2) ZS∧OwnB 5 wj 0 (.slice p1 ZS.length c1) ZS):=⟨HO2.out,HTW.out⟩
 clear HTW HO2
 have HTW:=HTX
 clear HTX
 refine aG 12 (v:=.string (strOf ZS)) rfl (by kernel_rfl) rfl (fun W hW=>bd av aZ bH ZS rfl (OwnB.old hW.1)) HTW.out ?_
 go_simp
 refine aG 13 (v:=.bool false) rfl (by kernel_rfl) rfl (fun W _=>ir (strOf ZS) (strOf ZS) true rfl rfl (dB _)) HTW.out ?_
 go_simp
 refine aT 14 (v:=.bool false) rfl (by kernel_rfl) rfl (fun W _=>by go_simp) HTW.out ?_
 go_simp
 refine wpAnyH_done (by kernel_rfl) ?_ _
 simp only [endsIn]
 clear HTW
 go_wp2_with (first
  | (go_at_call 18;(first|(clear tk5;go_must (refine (jh st su AQ.out ch _ HCHB.out (st.old HL.out)).mono ?_);rintro e wc ⟨rfl,d3,st9,su9,HD3⟩;clear st su;have st:=st9;have su:=su9;clear st9 su9)|(go_must (refine (jh su st AP.out ch _ HCHB.out (su.old HL.out)).mono ?_);rintro e wc ⟨rfl,d3',su9,st9,HD3'⟩;clear st su;have st:=st9;have su:=su9;clear st9 su9)))
  | (go_at_call 19;(first|(clear tk6;go_must (refine (open_2 st su AQ.out HT.out (by omega)).mono ?_);rintro e wo ⟨s2,h2,rfl,st9,su9,hap⟩;clear st su AQ AP;have st:=st9;have su:=su9;have AP:Hid (∀q∈footS g mb kv s2 h2,q ∉ footS g' mb' kv' sb' hb'):=fun q h3 h4=>hap q h4 h3;clear st9 su9 hap)|(go_must (refine (open_2 su st AP.out HT.out (by omega)).mono ?_);rintro e wo ⟨s2',h2',rfl,su9,st9,hap⟩;clear st su AP;have st:=st9;have su:=su9;clear st9 su9 hap))))
 have HY1:Hid (∀_:Unit,flatK d3.kept d3.n=ZS):=fun _=>by rw [←HZ1.out (),HD3.out.1];exact cW _ _ _ (fun s _=>HD3.out.2 s)
 have HY2:Hid (∀_:Unit,flatK d3'.kept d3'.n=ZS):=fun _=>by rw [←HZ2.out (),HD3'.out.1];exact cW _ _ _ (fun s _=>HD3'.out.2 s)
 clear HZ1 HZ2 HD3 HD3'
 refine ax ?_
 refine aY (T:=fun _=>True) (by kernel_rfl) st.mem ?_
 intro wz hbz hmz
 replace st:=st.below hbz
 replace su:=su.below hbz
 have HTW:Hid True:=trivial
 clear hbz hmz
 refine aT 0 (v:=.int .i64 0) rfl (by kernel_rfl) rfl (fun W _=>by go_simp) HTW.out ?_
 go_simp
 refine aT 1 (v:=.bool false) rfl (by kernel_rfl) rfl (fun W _=>by go_simp) HTW.out ?_
 go_simp
 refine aT 2 (v:=.bool false) rfl (by kernel_rfl) rfl (fun W _=>by go_simp) HTW.out ?_
 go_simp
 refine aG 3 (v:=.int .i64 0) rfl (by kernel_rfl) rfl (fun W _=>by go_simp) HTW.out ?_
 go_simp
 refine aG 4 (v:=.bool false) rfl (by kernel_rfl) rfl (fun W _=>by go_simp) HTW.out ?_
 go_simp
 refine aT 5 (v:=.bool false) rfl (by kernel_rfl) rfl (fun W _=>by go_simp) HTW.out ?_
 go_simp
 refine aT 6 (v:=.bool false) rfl (by kernel_rfl) rfl (fun W _=>by go_simp) HTW.out ?_
 go_simp
 refine aG 7 (v:=.pointer (some ⟨g,0,none⟩)) rfl (by kernel_rfl) rfl (fun W _=>by go_simp) HTW.out ?_
 go_simp
 refine aG 10 (v:=.pointer (some ⟨g',0,none⟩)) rfl (by kernel_rfl) rfl (fun W _=>by go_simp) HTW.out ?_
 go_simp
 refine aO 8 (by kernel_rfl) rfl rfl ?_
 intro K hK
 go_wp2_with ((go_at_call 24;go_must (refine (dU st su ZS (HY1.out ())).mono ?_);rintro e wi ⟨p1,c1,rfl,ho,st9,su9,_⟩;replace st:=st9;replace su:=su9;have HO1:Hid (OwnB 5 wi 0 (.slice p1 ZS.length c1) ZS):=ho;clear st9 su9 ho))
 refine hK _ _ HTW.out ?_
 clear hK K
 go_simp
 refine df (fun W=>OwnB 5 W 0 (.slice p1 ZS.length c1) ZS) (fun _ _=>trivial) _ _ _ _ ?_
 clear HTW
 have HTW:=HO1
 clear HO1
 refine aG 9 (v:=.string (strOf ZS)) rfl (by kernel_rfl) rfl (fun W hW=>bd av aZ bH ZS rfl (OwnB.old hW)) HTW.out ?_
 go_simp
 refine aO 11 (by kernel_rfl) rfl rfl ?_
 intro K hK
 go_wp2_with ((go_at_call 24;go_must (refine (dU su st ZS (HY2.out ())).mono ?_);rintro e wj ⟨p2,c2,rfl,ho,su9,st9,hbj⟩;replace st:=st9;replace su:=su9;have HO2:Hid (OwnB 5 wj 0 (.slice p2 ZS.length c2) ZS):=ho;have HTX:Hid (OwnB 5 wj 0 (.slice p1 ZS.length c1) ZS):=OwnB.below HTW.out hbj;clear st9 su9 ho hbj HTW;have HTW:=HTX;clear HTX))
 refine hK _ _ HTW.out ?_
 clear hK K
 go_simp
 refine df (fun W=>OwnB 5 W 0 (.slice p2 ZS.length c2) ZS∧OwnB 5 W 0 (.slice p1 ZS.length c1) ZS) (fun _ h=>h.2) _ _ _ _ ?_
 have HTX:Hid (OwnB 5 wj 0 (.slice p2 ZS.length c2) ZS∧OwnB 5 wj 0 (.slice p1 ZS.length c1) ZS):=⟨HO2.out,HTW.out⟩
 clear HTW HO2
 have HTW:=HTX
 clear HTX
 refine aG 12 (v:=.string (strOf ZS)) rfl (by kernel_rfl) rfl (fun W hW=>bd av aZ bH ZS rfl (OwnB.old hW.1)) HTW.out ?_
 go_simp
 refine aG 13 (v:=.bool false) rfl (by kernel_rfl) rfl (fun W _=>ir (strOf ZS) (strOf ZS) true rfl rfl (dB _)) HTW.out ?_
 go_simp
 refine aT 14 (v:=.bool false) rfl (by kernel_rfl) rfl (fun W _=>by go_simp) HTW.out ?_
 go_simp
 refine wpAnyH_done (by kernel_rfl) ?_ _
 simp only [endsIn]
 clear HTW
 go_wp2_with (first
  | ((with_reducible refine ab (some 136) (.load 39 (.tmp 13)) ?_);go_must (refine aq (.agg (u8s nx).toArray) rfl (ao 0 _ (st.mem.get 0 rfl) rfl _ ar rfl 32 am (by rw [aa,Hnx.out.1];omega) (by rw [List.drop_zero,List.take_of_length_le (by rw [aa,Hnx.out.1];omega)])) ?_))
  | ((with_reducible refine ab (some 143) (.load 39 (.tmp 13)) ?_);go_must (refine aq (.agg (u8s nx).toArray) rfl (ao 0 _ (st.mem.get 1 rfl) rfl _ ar rfl 32 am (by rw [aa,Hnx.out.1];omega) (by rw [List.drop_zero,List.take_of_length_le (by rw [aa,Hnx.out.1];omega)])) ?_))
  | (go_at_call 16;(first|(clear tk7;go_must (refine (get_2 st su HT.out HQT.out (k:Int) nx Hnx.out.1 Hnx.out.2).mono ?_);rintro e wg ⟨he,st9,su9⟩;rw [HG.out ()] at he;subst he;replace st:=st9;replace su:=su9;clear st9 su9)|(go_must (refine (get_2 su st HT.out HQT.out (k:Int) nx Hnx.out.1 Hnx.out.2).mono ?_);rintro e wg ⟨he,su9,st9⟩;rw [HG'.out ()] at he;subst he;replace st:=st9;replace su:=su9;clear st9 su9)))
  | ((with_reducible refine ab (some 24) (.alloc 39) ?_);go_must (refine bz _ aM ?_);intro wa q24 hba hqa hra;replace st:=st.add hba hra hqa;replace su:=su.add hba hra hqa;clear hba hqa hra)
  | ((with_reducible refine ab none (.store 39 (.tmp 24) (.tmp 138)) ?_);go_must (refine cI (u8s zero32) (st.mem.get 0 rfl) rfl rfl 32 am (by simp [aa]) (by rw [aa,Hzero32.out.1]) (aj _) ?_);intro wb hub hrb;replace st:=st.upd 0 rfl hub hrb;replace su:=su.upd 0 rfl hub hrb;clear hub hrb)
  | ((with_reducible refine ab (some 26) (.alloc 39) ?_);go_must (refine bz _ aM ?_);intro wa q26 hba hqa hra;replace st:=st.add hba hra hqa;replace su:=su.add hba hra hqa;clear hba hqa hra)
  | ((with_reducible refine ab none (.store 39 (.tmp 26) (.tmp 145)) ?_);go_must (refine cI (u8s zero32) (st.mem.get 0 rfl) rfl rfl 32 am (by simp [aa]) (by rw [aa,Hzero32.out.1]) (aj _) ?_);intro wb hub hrb;replace st:=st.upd 0 rfl hub hrb;replace su:=su.upd 0 rfl hub hrb;clear hub hrb)
  | ((with_reducible refine ab (some 147) (.load 39 (.tmp 24)) ?_);go_must (refine aq (.agg (u8s zero32).toArray) rfl (ao 0 _ (st.mem.get 1 rfl) rfl _ ar rfl 32 am (by rw [aa,Hzero32.out.1];omega) (by rw [List.drop_zero,List.take_of_length_le (by rw [aa,Hzero32.out.1];omega)])) ?_))
  | ((with_reducible refine ab (some 148) (.load 39 (.tmp 26)) ?_);go_must (refine aq (.agg (u8s zero32).toArray) rfl (ao 0 _ (st.mem.get 0 rfl) rfl _ ar rfl 32 am (by rw [aa,Hzero32.out.1];omega) (by rw [List.drop_zero,List.take_of_length_le (by rw [aa,Hzero32.out.1];omega)])) ?_))
  | ((with_reducible refine ab (some 149) (.binOp .eql 39 (.tmp 147) (.tmp 148) 39) ?_);go_must (refine aq (.bool true) rfl (dZ 5 32 .u8 zero32 rfl rfl ar aZ aC fF Hzero32.out.1) ?_)))
 go_ret
 exact ⟨rfl,st.mem.below⟩
end Go.Proofs.YtblnljajipbajaaGreatDoor
