import Derived.Test.YtnllomcajijbjaaGreatDoorQp19
import Derived.Test.YtnllomcajijbjaaGreatDoorQp18
set_option maxRecDepth 100000
set_option maxHeartbeats 4000000
namespace Go.Proofs.YtnllomcajijbjaaGreatDoor
open Go Go.RowKit Go.Maps Go.Shelf
def entN (t:Slt) (k:Nat) (kek key:List Int):Ent:=(t.puts+1,sealOf kek (nonceOf (k:Int) ((t.puts+1:Nat):Int)) labWrap key)
theorem iI {t:Slt} {k:Nat} {kek key:List Int} (hp:t.puts<200) (hl:key.length=32) (hb:Bytes key):EntOk (entN t k kek key) :=
 ⟨by show 0<t.puts+1;omega,by show t.puts+1≤200;omega,by show (sealOf _ _ _ _).length=48;rw [fS,hl],sealOf_bytes _ _ _ hb⟩
def putPh (t:Slt) (k:Nat) (N:Ent) (j:Nat):Nat→Option (List Int) :=
 if j=0 then ph2 ((t.puts+1) % 2) (cntC (t.puts+1)) (2+k) (unE ((t.held k).getD noEnt)) true true else ph1 (2+k) (mkC k N) true
def putR (d:Dk) (t:Slt) (k:Nat) (N:Ent):Dk×Bool:=kps d (lsOf (putPh t k N) d.n 2)
def putS (t:Slt) (k:Nat) (N:Ent):Slt:=⟨upf t.held k (some N),t.puts+1,t.dead⟩
theorem unE_bytes {x:Ent} (h:Bytes x.2):Bytes (unE x):=h.append (Bytes.zeros 16)
theorem iP {t:Slt} (h:SltOk t) (k:Nat):Bytes ((t.held k).getD noEnt).2:=by
 cases hx:t.held k with
 | none=>exact Bytes.zeros 48
 | some x=>exact (h.held k x hx).2.bytes
theorem ph1_ok {n k:Nat} {v:List Int} (hk:k<n) (hl:v.length=64) (hb:Bytes v) (f:Bool):PhOk n (ph1 k v f):=⟨fun i l hi=>by
 unfold ph1 at hi
 split at hi
 ·rename_i hh
  simp only [Option.some.injEq] at hi
  subst hi
  exact ⟨by omega,hl,hb⟩
 ·cases hi⟩
theorem ph2_ok {n k1 k2:Nat} {v1 v2:List Int} (h1:k1<n) (h2:k2<n) (hl1:v1.length=64) (hb1:Bytes v1) (hl2:v2.length=64) (hb2:Bytes v2) (f1 f2:Bool):PhOk n (ph2 k1 v1 k2 v2 f1 f2):=⟨fun i l hi=>by
 unfold ph2 at hi
 split at hi
 ·rename_i hh
  simp only [Option.some.injEq] at hi
  subst hi
  exact ⟨by omega,hl1,hb1⟩
 ·split at hi
  ·rename_i hh
   simp only [Option.some.injEq] at hi
   subst hi
   exact ⟨by omega,hl2,hb2⟩
  ·cases hi⟩
theorem eB {t:Slt} {k n:Nat} {N:Ent} (hok:SltOk t) (hN:EntOk N) (hk:k<24) (hn:64≤n) (j:Nat):PhOk n (putPh t k N j):=by
 unfold putPh
 split
 ·exact ph2_ok (by omega) (by omega) (ei _) (cntC_bytes _) (d8 (hok.len k)) (unE_bytes (iP hok k)) _ _
 ·exact ph1_ok (by omega) (gf hN.len) (mkC_bytes hN.bytes) _
/-- keep, of two phases. -/
theorem gw (g mb:Nat) (kv:Value) (d:Dk) (k0:Nat) (p:Nat→Nat→Option (List Int)) (hk0:k0≤1000000) (hn:d.n≤200) (hp:∀j,j<2→PhOk d.n (p j)) (hnu:d.Nm k0) (B:Nat) (hB:∀q∈foot g mb kv,q<B) (w:World) (mA mB bs:Nat) (hd:DkAt w g mb kv d) (hbs:B≤bs) (hr:Row w bs [.map (some mA),.map (some mB)] 55) (hA:PhM w mA (p 0)) (hAB:B≤mA) (hPB:PhM w mB (p 1)) (hBB:B≤mB) :
  Calls Tryz.prog 22 #[.pointer (some ⟨g,0,none⟩),.slice (some ⟨bs,0,none⟩) 2 2] w fun e w'=>e=.returned (.int .i64 (kcode (kps d (lsOf p d.n 2)).2))∧DkAt w' g mb kv (kps d (lsOf p d.n 2)).1∧UpdS (foot g mb kv) w w' :=
 jw g mb kv d 2 k0 bs (fun j=>if j=0 then mA else mB) p (by omega) hk0 hn hp hnu w hd (fun h=>by have:=hB _ h;omega) hr.lt
  (fun j hj=>by rcases (by omega:j=0∨j=1) with rfl|rfl<;>(rw [hr.cell];rfl))
  (fun j hj=>by
   rcases (by omega:j=0∨j=1) with rfl|rfl
   ·exact ⟨hA,fun h=>by have h9:mA∈foot g mb kv:=h;have:=hB _ h9;omega⟩
   ·exact ⟨hPB,fun h=>by have h9:mB∈foot g mb kv:=h;have:=hB _ h9;omega⟩)
theorem put_cut (g mb:Nat) (kv:Value) (sb hb:Nat) (d:Dk) (t:Slt) (k:Nat) (hk:k<24) (kek key:List Int) (k0:Nat) (hkl:kek.length=32) (hkb:Bytes kek) (hyl:key.length=32) (hyb:Bytes key) (hdd:t.dead=false) (hpu:t.puts<200) (hn:64≤d.n) (hn2:d.n≤200) (hnm:d.Nm k0) (hk0:k0≤1000000) (w:World) (ht:Tab w) (hq:QTab w) (h:SlAt w g mb kv sb hb d t) (hr2:(putR d t k (entN t k kek key)).2=false) :
  Calls Tryz.prog 8 #[.pointer (some ⟨sb,0,none⟩),.int .i64 (k:Int),.agg (u8s kek).toArray,.agg (u8s key).toArray] w fun e w'=>e=.returned (.int .i64 61)∧SlAt w' g mb kv sb hb (putR d t k (entN t k kek key)).1 {t with dead:=true}∧UpdS (footS g mb kv sb hb) w w':=by
 have HA:Hid (SlAt w g mb kv sb hb d t):=h
 have HT:Hid (Tab w):=ht
 have HQT:Hid (QTab w):=hq
 have HKL:Hid (kek.length=32):=hkl
 have HKU:Hid ((u8s kek).length=32):=by show _=_;rw [ab,hkl]
 have HKB:Hid (Bytes kek):=hkb
 have HYL:Hid (key.length=32):=hyl
 have HYU:Hid ((u8s key).length=32):=by show _=_;rw [ab,hyl]
 have HYB:Hid (Bytes key):=hyb
 have HDD:Hid (t.dead=false):=hdd
 have HN1:Hid (64≤d.n):=hn
 have HN2:Hid (d.n≤200):=hn2
 have HNM:Hid (d.Nm k0):=hnm
 have HRF:Hid (refI t (k:Int)=0):=by
  show _=_
  unfold refI okI
  rw [if_neg (by rw [hdd];simp),if_pos (decide_eq_true (by omega))]
 obtain ⟨p,hp⟩:∃p,p=t.puts+1:=⟨_,rfl⟩
 have hp2:p≤200:=by omega
 have HP:Hid (∀_:Unit,t.puts+1=p):=fun _=>hp.symm
 have HPC:Hid (∀_:Unit,(t.puts:Int)=(p:Int) - 1):=fun _=>by omega
 have HW1:IntKind.u64.wrap ((t.puts:Int)+1)=(p:Int):=by rw [show (t.puts:Int)+1=(p:Int) by omega];exact fx p (by omega)
 have HWK:IntKind.u32.wrap (k:Int)=(k:Int):=wrapUi k hk
 obtain ⟨S,hS⟩:∃S,S=sealOf kek (nonceOf (k:Int) (p:Int)) labWrap key:=⟨_,rfl⟩
 have HS:Hid (∀_:Unit,sealOf kek (nonceOf (k:Int) (p:Int)) labWrap key=S):=fun _=>hS.symm
 obtain ⟨N,hN⟩:∃N:Ent,N=(p,S):=⟨_,rfl⟩
 have HNN:Hid (∀_:Unit,entN t k kek key=N):=fun _=>by rw [hN,hS,hp];rfl
 have HNO:Hid (EntOk N):=by rw [←HNN.out ()];exact iI hpu hyl hyb
 have HEL:Hid ((entL N).length=49):=aI HNO.out.len
 have HBE:Hid (Tryz.prog.built 67 [(0,.int .u64 (p:Int)),(1,.agg (u8s S).toArray)]=some (entL N).toArray):=by
  have h9:=HNO.out.len
  rw [hN] at h9 ⊢
  exact gP p S h9
 obtain ⟨X,hX⟩:∃X,X=(t.held k).getD noEnt:=⟨_,rfl⟩
 have HX:Hid (∀_:Unit,(t.held k).getD noEnt=X):=fun _=>hX.symm
 have HXL:Hid (X.2.length=48):=by show _=_;rw [hX];exact h.ok.len k
 obtain ⟨R,hR⟩:∃R,R=putR d t k N:=⟨_,rfl⟩
 have HR:Hid (∀_:Unit,putR d t k N=R):=fun _=>hR.symm
 have HPH0:Hid (∀_:Unit,putPh t k N 0=ph2 (p % 2) (cntC p) (2+k) (unE X) true true):=fun _=>by rw [hp,hX];rfl
 have HPH1:Hid (∀_:Unit,putPh t k N 1=ph1 (2+k) (mkC k N) true):=fun _=>rfl
 have hm:=Mem.start w
 rw [HNN.out (),←hR] at hr2 ⊢
 have HCT:Hid (kcode R.2=61):=by show _=_;rw [hr2];rfl
 clear hr2 h ht hq hkl hkb hyl hyb hdd hn hn2 hnm hp hS hN hX hR
 go_enter Tryz.func8,Tryz.ntmps8
 go_wp2_with (first
  | ((with_reducible refine aa (some 6) (.box 39 (.tmp 2)) ?_);refine aB (u8s kek) rfl hm ?_;clear hm;intro w1 g6 hm)
  | ((with_reducible refine aa (some 7) (.box 39 (.tmp 3)) ?_);refine aB (u8s key) rfl hm ?_;clear hm;intro w2 g7 hm)
  | (go_at_call 23;refine (cV g mb kv sb hb d t (k:Int) _ (HA.out.below hm.below)).mono ?_;rintro e w3 ⟨he,hw3⟩;rw [HRF.out] at he;subst he;replace hw3:=hw3.symm;subst hw3)
  | ((with_reducible refine aa (some 22) (.load 59 (.tmp 21)) ?_);go_must (refine aQ (.int .u64 (t.puts:Int)) ((SlAt.cell (HA.out.below hm.below) 2).trans rfl) rfl gI ?_))
  | ((with_reducible refine aa (some 25) (.load 39 (.tmp 6)) ?_);refine ay 1 hm rfl rfl _ aS rfl 32 az (HKU.out) ?_)
  | ((with_reducible refine aa (some 29) (.load 39 (.tmp 7)) ?_);refine ay 0 hm rfl rfl _ aS rfl 32 az (HYU.out) ?_)
  | (go_at_call 24;refine (wrap_any kek key (k:Int) (p:Int) HKL.out HYL.out HKB.out HYB.out (by omega) _ (Tab.mem HT.out hm (by simp)) (QTab.mem HQT.out hm (by simp))).mono ?_;rintro e w4 ⟨he,hb4⟩;rw [HS.out ()] at he;subst he;replace hm:=hm.call hb4;clear hb4)
  | ((with_reducible refine aa (some 31) (.build 67 #[(0,.tmp 24),(1,.tmp 30)]) ?_);go_must (refine aM (entL N) _ rfl HBE.out ?_))
  | ((with_reducible refine aa (some 11) (.alloc 67) ?_);refine aj _ bF hm ?_;clear hm;intro w5 g11 hm)
  | ((with_reducible refine aa none (.store 67 (.tmp 11) (.tmp 31)) ?_);refine ap 0 (entL N) hm rfl rfl rfl 49 bY (aI (by simp [noEnt])) HEL.out (cx _) ?_;clear hm;intro w6 hm))
 have HG11:Hid (g11 ∉ foot g mb kv∧w.heap.size≤g11):=by
  have hf:=hm.fresh _ (List.mem_cons_self ..)
  simp only [List.not_mem_nil,false_or] at hf
  exact ⟨fun h=>by have:=HA.out.dk.lt _ h;omega,hf⟩
 refine au ?_
 refine av (T:=fun W=>(∃d2,SlAt W g mb kv sb hb d2 t)∧Row W g11 (entL N) 67) (by kernel_rfl) hm ?_
 intro wc hbw hmw
 have HR1:Hid (SlAt wc g mb kv sb hb d t):=HA.out.below hmw.below
 have HBW:Hid (Below w.heap.size w wc):=hmw.below
 have HRW:Hid (Row wc g11 (entL N) 67):=hmw.get 0 rfl
 have HW:Hid ((∃d2,SlAt wc g mb kv sb hb d2 t)∧Row wc g11 (entL N) 67):=⟨⟨d,HR1.out⟩,HRW.out⟩
 clear hm hbw hmw
 refine aT 0 (v:=.pointer (some ⟨sb,0,none⟩)) rfl (by kernel_rfl) rfl (fun W _=>by go_simp) HW.out ?_
 go_simp
 refine aT 1 (v:=.pointer (some ⟨sb,0,none⟩)) rfl (by kernel_rfl) rfl (fun W _=>by go_simp) HW.out ?_
 go_simp
 refine aT 2 (v:=.pointer (some ⟨sb,0,none⟩)) rfl (by kernel_rfl) rfl (fun W _=>by go_simp) HW.out ?_
 go_simp
 refine aT 3 (v:=.pointer (some ⟨g,0,none⟩)) rfl (by kernel_rfl) rfl (fun W hW=>by obtain ⟨⟨d2,h2⟩,_⟩:=hW;exact bv ((SlAt.cell h2 0).trans rfl) rfl ag_dkp) HW.out ?_
 go_simp
 refine aT 5 (v:=.int .u64 (p:Int)) rfl (by kernel_rfl) rfl (fun W _=>by go_simp) HW.out ?_
 go_simp
 refine aT 7 (v:=.int .u64 (p:Int)) rfl (by kernel_rfl) rfl (fun W _=>by go_simp) HW.out ?_
 go_simp
 refine aT 10 (v:=.int .i64 (k:Int)) rfl (by kernel_rfl) rfl (fun W _=>by go_simp) HW.out ?_
 go_simp
 refine aT 12 (v:=.pointer (some ⟨sb,0,none⟩)) rfl (by kernel_rfl) rfl (fun W _=>by go_simp) HW.out ?_
 go_simp
 refine aT 13 (v:=.pointer (some ⟨sb,0,none⟩)) rfl (by kernel_rfl) rfl (fun W _=>by go_simp) HW.out ?_
 go_simp
 refine aT 14 (v:=.pointer (some ⟨sb,1,none⟩)) rfl (by kernel_rfl) rfl (fun W _=>by go_simp) HW.out ?_
 go_simp
 refine aT 15 (v:=.map (some hb)) rfl (by kernel_rfl) rfl (fun W hW=>by obtain ⟨⟨d2,h2⟩,_⟩:=hW;exact bv ((SlAt.cell h2 1).trans rfl) rfl cj) HW.out ?_
 go_simp
 refine aT 16 (v:=.int .i64 (k:Int)) rfl (by kernel_rfl) rfl (fun W _=>by go_simp) HW.out ?_
 go_simp
 refine aT 17 (v:=.agg (entL X).toArray) rfl (by kernel_rfl) rfl (fun W hW=>by obtain ⟨⟨d2,h2⟩,_⟩:=hW;have h9:=SlAt.look1 h2 k (by omega);rw [HX.out ()] at h9;exact bG h9 rfl rfl) HW.out ?_
 go_simp
 refine aT 22 (v:=.int .i64 (k:Int)) rfl (by kernel_rfl) rfl (fun W _=>by go_simp) HW.out ?_
 go_simp
 refine aT 24 (v:=.agg (entL N).toArray) rfl (by kernel_rfl) rfl (fun W hW=>bJ 0 _ hW.2 rfl _ Tryz.underlying67 rfl 49 bY (by rw [HEL.out];omega) (by rw [List.drop_zero,List.take_of_length_le (by rw [HEL.out];omega)])) HW.out ?_
 go_simp
 refine aT 25 (v:=.int .i64 (k:Int)) rfl (by kernel_rfl) rfl (fun W _=>by go_simp) HW.out ?_
 go_simp
 refine PutI_dag rfl rfl rfl rfl rfl rfl rfl rfl rfl rfl rfl rfl rfl rfl rfl rfl rfl (by kernel_rfl) (by kernel_rfl) (by kernel_rfl) (by kernel_rfl) (by kernel_rfl) (by kernel_rfl) (by kernel_rfl) (by kernel_rfl) (by kernel_rfl) _ rfl wc g mb kv sb hb d R.1 t p k X N 61 rfl rfl rfl rfl rfl rfl rfl rfl (by omega) hk HXL.out HNO.out.len (HT.out.below HBW.out) (fun q hq=>HA.out.two q (by simp [footS,hq])) (fun w9 mA mB bs hdk hup hbs hrow hpA hgA hpB hgB=>by have h9:=gw g mb kv d k0 (putPh t k N) hk0 HN2.out (fun j _=>eB HA.out.ok HNO.out hk HN1.out j) HNM.out wc.heap.size (fun q hq=>HR1.out.dk.lt q hq) w9 mA mB bs hdk hbs hrow (by rw [HPH0.out ()];exact hpA) hgA (by rw [HPH1.out ()];exact hpB) hgB;rw [show kps d (lsOf (putPh t k N) d.n 2)=R from HR.out (),HCT.out] at h9;exact h9) (fun w9 d9 hs9 hu9=>⟨⟨d9,hs9⟩,hu9.row HRW.out HG11.out.1⟩) _ _ rfl (Nat.le_of_ble_eq_true (by kernel_rfl)) (by kernel_rfl) (by kernel_rfl) _ (UpdS.refl _ _) HR1.out HR1.out ?_
 intro w7 mA mB bs hs7 hu7
 have HS7:Hid (SlAt w7 g mb kv sb hb R.1 t):=hs7
 have HU7:Hid (UpdS (foot g mb kv) w w7):=(UpdS.of_below HBW.out).trans hu7
 have HR7:Hid (Row w7 g11 (entL N) 67):=hu7.row HRW.out HG11.out.1
 clear hs7 hu7 HW HRW
 simp only [laidL]
 have HFS:Hid (∀q∈foot g mb kv,q∈footS g mb kv sb hb):=fun q hq=>by simp [footS,hq]
 go_wp2_with (first
  | (go_at_call 27;refine (died_any g mb kv sb hb R.1 t 61 _ HS7.out).mono ?_;rintro e w8 ⟨rfl,hs8,hu8⟩;have HS8:Hid (SlAt w8 g mb kv sb hb R.1 {t with dead:=true}):=hs8;have HU8:Hid (UpdS (footS g mb kv sb hb) w w8):=(HU7.out.mono HFS.out).trans (UpdS.of_upd hu8 (by simp [footS]));clear hs8 hu8))
 go_ret
 exact ⟨rfl,HS8.out,HU8.out⟩
theorem put_good (g mb:Nat) (kv:Value) (sb hb:Nat) (d:Dk) (t:Slt) (k:Nat) (hk:k<24) (kek key:List Int) (k0:Nat) (hkl:kek.length=32) (hkb:Bytes kek) (hyl:key.length=32) (hyb:Bytes key) (hdd:t.dead=false) (hpu:t.puts<200) (hn:64≤d.n) (hn2:d.n≤200) (hnm:d.Nm k0) (hk0:k0≤1000000) (w:World) (ht:Tab w) (hq:QTab w) (h:SlAt w g mb kv sb hb d t) (hr2:(putR d t k (entN t k kek key)).2=true) :
  Calls Tryz.prog 8 #[.pointer (some ⟨sb,0,none⟩),.int .i64 (k:Int),.agg (u8s kek).toArray,.agg (u8s key).toArray] w fun e w'=>e=.returned (.int .i64 0)∧SlAt w' g mb kv sb hb (putR d t k (entN t k kek key)).1 (putS t k (entN t k kek key))∧UpdS (footS g mb kv sb hb) w w':=by
 have HA:Hid (SlAt w g mb kv sb hb d t):=h
 have HT:Hid (Tab w):=ht
 have HQT:Hid (QTab w):=hq
 have HKL:Hid (kek.length=32):=hkl
 have HKU:Hid ((u8s kek).length=32):=by show _=_;rw [ab,hkl]
 have HKB:Hid (Bytes kek):=hkb
 have HYL:Hid (key.length=32):=hyl
 have HYU:Hid ((u8s key).length=32):=by show _=_;rw [ab,hyl]
 have HYB:Hid (Bytes key):=hyb
 have HDD:Hid (t.dead=false):=hdd
 have HN1:Hid (64≤d.n):=hn
 have HN2:Hid (d.n≤200):=hn2
 have HNM:Hid (d.Nm k0):=hnm
 have HRF:Hid (refI t (k:Int)=0):=by
  show _=_
  unfold refI okI
  rw [if_neg (by rw [hdd];simp),if_pos (decide_eq_true (by omega))]
 obtain ⟨p,hp⟩:∃p,p=t.puts+1:=⟨_,rfl⟩
 have hp2:p≤200:=by omega
 have HP:Hid (∀_:Unit,t.puts+1=p):=fun _=>hp.symm
 have HPC:Hid (∀_:Unit,(t.puts:Int)=(p:Int) - 1):=fun _=>by omega
 have HW1:IntKind.u64.wrap ((t.puts:Int)+1)=(p:Int):=by rw [show (t.puts:Int)+1=(p:Int) by omega];exact fx p (by omega)
 have HWK:IntKind.u32.wrap (k:Int)=(k:Int):=wrapUi k hk
 obtain ⟨S,hS⟩:∃S,S=sealOf kek (nonceOf (k:Int) (p:Int)) labWrap key:=⟨_,rfl⟩
 have HS:Hid (∀_:Unit,sealOf kek (nonceOf (k:Int) (p:Int)) labWrap key=S):=fun _=>hS.symm
 obtain ⟨N,hN⟩:∃N:Ent,N=(p,S):=⟨_,rfl⟩
 have HNN:Hid (∀_:Unit,entN t k kek key=N):=fun _=>by rw [hN,hS,hp];rfl
 have HNO:Hid (EntOk N):=by rw [←HNN.out ()];exact iI hpu hyl hyb
 have HEL:Hid ((entL N).length=49):=aI HNO.out.len
 have HBE:Hid (Tryz.prog.built 67 [(0,.int .u64 (p:Int)),(1,.agg (u8s S).toArray)]=some (entL N).toArray):=by
  have h9:=HNO.out.len
  rw [hN] at h9 ⊢
  exact gP p S h9
 obtain ⟨X,hX⟩:∃X,X=(t.held k).getD noEnt:=⟨_,rfl⟩
 have HX:Hid (∀_:Unit,(t.held k).getD noEnt=X):=fun _=>hX.symm
 have HXL:Hid (X.2.length=48):=by show _=_;rw [hX];exact h.ok.len k
 obtain ⟨R,hR⟩:∃R,R=putR d t k N:=⟨_,rfl⟩
 have HR:Hid (∀_:Unit,putR d t k N=R):=fun _=>hR.symm
 have HPH0:Hid (∀_:Unit,putPh t k N 0=ph2 (p % 2) (cntC p) (2+k) (unE X) true true):=fun _=>by rw [hp,hX];rfl
 have HPH1:Hid (∀_:Unit,putPh t k N 1=ph1 (2+k) (mkC k N) true):=fun _=>rfl
 have hm:=Mem.start w
 rw [HNN.out (),←hR] at hr2 ⊢
 have HCT:Hid (kcode R.2=0):=by show _=_;rw [hr2];rfl
 clear hr2 h ht hq hkl hkb hyl hyb hdd hn hn2 hnm hp hS hN hX hR
 go_enter Tryz.func8,Tryz.ntmps8
 go_wp2_with (first
  | ((with_reducible refine aa (some 6) (.box 39 (.tmp 2)) ?_);refine aB (u8s kek) rfl hm ?_;clear hm;intro w1 g6 hm)
  | ((with_reducible refine aa (some 7) (.box 39 (.tmp 3)) ?_);refine aB (u8s key) rfl hm ?_;clear hm;intro w2 g7 hm)
  | (go_at_call 23;refine (cV g mb kv sb hb d t (k:Int) _ (HA.out.below hm.below)).mono ?_;rintro e w3 ⟨he,hw3⟩;rw [HRF.out] at he;subst he;replace hw3:=hw3.symm;subst hw3)
  | ((with_reducible refine aa (some 22) (.load 59 (.tmp 21)) ?_);go_must (refine aQ (.int .u64 (t.puts:Int)) ((SlAt.cell (HA.out.below hm.below) 2).trans rfl) rfl gI ?_))
  | ((with_reducible refine aa (some 25) (.load 39 (.tmp 6)) ?_);refine ay 1 hm rfl rfl _ aS rfl 32 az (HKU.out) ?_)
  | ((with_reducible refine aa (some 29) (.load 39 (.tmp 7)) ?_);refine ay 0 hm rfl rfl _ aS rfl 32 az (HYU.out) ?_)
  | (go_at_call 24;refine (wrap_any kek key (k:Int) (p:Int) HKL.out HYL.out HKB.out HYB.out (by omega) _ (Tab.mem HT.out hm (by simp)) (QTab.mem HQT.out hm (by simp))).mono ?_;rintro e w4 ⟨he,hb4⟩;rw [HS.out ()] at he;subst he;replace hm:=hm.call hb4;clear hb4)
  | ((with_reducible refine aa (some 31) (.build 67 #[(0,.tmp 24),(1,.tmp 30)]) ?_);go_must (refine aM (entL N) _ rfl HBE.out ?_))
  | ((with_reducible refine aa (some 11) (.alloc 67) ?_);refine aj _ bF hm ?_;clear hm;intro w5 g11 hm)
  | ((with_reducible refine aa none (.store 67 (.tmp 11) (.tmp 31)) ?_);refine ap 0 (entL N) hm rfl rfl rfl 49 bY (aI (by simp [noEnt])) HEL.out (cx _) ?_;clear hm;intro w6 hm))
 have HG11:Hid (g11 ∉ foot g mb kv∧w.heap.size≤g11):=by
  have hf:=hm.fresh _ (List.mem_cons_self ..)
  simp only [List.not_mem_nil,false_or] at hf
  exact ⟨fun h=>by have:=HA.out.dk.lt _ h;omega,hf⟩
 refine au ?_
 refine av (T:=fun W=>(∃d2,SlAt W g mb kv sb hb d2 t)∧Row W g11 (entL N) 67) (by kernel_rfl) hm ?_
 intro wc hbw hmw
 have HR1:Hid (SlAt wc g mb kv sb hb d t):=HA.out.below hmw.below
 have HBW:Hid (Below w.heap.size w wc):=hmw.below
 have HRW:Hid (Row wc g11 (entL N) 67):=hmw.get 0 rfl
 have HW:Hid ((∃d2,SlAt wc g mb kv sb hb d2 t)∧Row wc g11 (entL N) 67):=⟨⟨d,HR1.out⟩,HRW.out⟩
 clear hm hbw hmw
 refine aT 0 (v:=.pointer (some ⟨sb,0,none⟩)) rfl (by kernel_rfl) rfl (fun W _=>by go_simp) HW.out ?_
 go_simp
 refine aT 1 (v:=.pointer (some ⟨sb,0,none⟩)) rfl (by kernel_rfl) rfl (fun W _=>by go_simp) HW.out ?_
 go_simp
 refine aT 2 (v:=.pointer (some ⟨sb,0,none⟩)) rfl (by kernel_rfl) rfl (fun W _=>by go_simp) HW.out ?_
 go_simp
 refine aT 3 (v:=.pointer (some ⟨g,0,none⟩)) rfl (by kernel_rfl) rfl (fun W hW=>by obtain ⟨⟨d2,h2⟩,_⟩:=hW;exact bv ((SlAt.cell h2 0).trans rfl) rfl ag_dkp) HW.out ?_
 go_simp
 refine aT 5 (v:=.int .u64 (p:Int)) rfl (by kernel_rfl) rfl (fun W _=>by go_simp) HW.out ?_
 go_simp
 refine aT 7 (v:=.int .u64 (p:Int)) rfl (by kernel_rfl) rfl (fun W _=>by go_simp) HW.out ?_
 go_simp
 refine aT 10 (v:=.int .i64 (k:Int)) rfl (by kernel_rfl) rfl (fun W _=>by go_simp) HW.out ?_
 go_simp
 refine aT 12 (v:=.pointer (some ⟨sb,0,none⟩)) rfl (by kernel_rfl) rfl (fun W _=>by go_simp) HW.out ?_
 go_simp
 refine aT 13 (v:=.pointer (some ⟨sb,0,none⟩)) rfl (by kernel_rfl) rfl (fun W _=>by go_simp) HW.out ?_
 go_simp
 refine aT 14 (v:=.pointer (some ⟨sb,1,none⟩)) rfl (by kernel_rfl) rfl (fun W _=>by go_simp) HW.out ?_
 go_simp
 refine aT 15 (v:=.map (some hb)) rfl (by kernel_rfl) rfl (fun W hW=>by obtain ⟨⟨d2,h2⟩,_⟩:=hW;exact bv ((SlAt.cell h2 1).trans rfl) rfl cj) HW.out ?_
 go_simp
 refine aT 16 (v:=.int .i64 (k:Int)) rfl (by kernel_rfl) rfl (fun W _=>by go_simp) HW.out ?_
 go_simp
 refine aT 17 (v:=.agg (entL X).toArray) rfl (by kernel_rfl) rfl (fun W hW=>by obtain ⟨⟨d2,h2⟩,_⟩:=hW;have h9:=SlAt.look1 h2 k (by omega);rw [HX.out ()] at h9;exact bG h9 rfl rfl) HW.out ?_
 go_simp
 refine aT 22 (v:=.int .i64 (k:Int)) rfl (by kernel_rfl) rfl (fun W _=>by go_simp) HW.out ?_
 go_simp
 refine aT 24 (v:=.agg (entL N).toArray) rfl (by kernel_rfl) rfl (fun W hW=>bJ 0 _ hW.2 rfl _ Tryz.underlying67 rfl 49 bY (by rw [HEL.out];omega) (by rw [List.drop_zero,List.take_of_length_le (by rw [HEL.out];omega)])) HW.out ?_
 go_simp
 refine aT 25 (v:=.int .i64 (k:Int)) rfl (by kernel_rfl) rfl (fun W _=>by go_simp) HW.out ?_
 go_simp
 refine PutI_dag rfl rfl rfl rfl rfl rfl rfl rfl rfl rfl rfl rfl rfl rfl rfl rfl rfl (by kernel_rfl) (by kernel_rfl) (by kernel_rfl) (by kernel_rfl) (by kernel_rfl) (by kernel_rfl) (by kernel_rfl) (by kernel_rfl) (by kernel_rfl) _ rfl wc g mb kv sb hb d R.1 t p k X N 0 rfl rfl rfl rfl rfl rfl rfl rfl (by omega) hk HXL.out HNO.out.len (HT.out.below HBW.out) (fun q hq=>HA.out.two q (by simp [footS,hq])) (fun w9 mA mB bs hdk hup hbs hrow hpA hgA hpB hgB=>by have h9:=gw g mb kv d k0 (putPh t k N) hk0 HN2.out (fun j _=>eB HA.out.ok HNO.out hk HN1.out j) HNM.out wc.heap.size (fun q hq=>HR1.out.dk.lt q hq) w9 mA mB bs hdk hbs hrow (by rw [HPH0.out ()];exact hpA) hgA (by rw [HPH1.out ()];exact hpB) hgB;rw [show kps d (lsOf (putPh t k N) d.n 2)=R from HR.out (),HCT.out] at h9;exact h9) (fun w9 d9 hs9 hu9=>⟨⟨d9,hs9⟩,hu9.row HRW.out HG11.out.1⟩) _ _ rfl (Nat.le_of_ble_eq_true (by kernel_rfl)) (by kernel_rfl) (by kernel_rfl) _ (UpdS.refl _ _) HR1.out HR1.out ?_
 intro w7 mA mB bs hs7 hu7
 have HS7:Hid (SlAt w7 g mb kv sb hb R.1 t):=hs7
 have HU7:Hid (UpdS (foot g mb kv) w w7):=(UpdS.of_below HBW.out).trans hu7
 have HR7:Hid (Row w7 g11 (entL N) 67):=hu7.row HRW.out HG11.out.1
 clear hs7 hu7 HW HRW
 simp only [laidL]
 have HFS:Hid (∀q∈foot g mb kv,q∈footS g mb kv sb hb):=fun q hq=>by simp [footS,hq]
 have hm:=Mem.enter HS7.out.row
 go_wp2_with (first
  | ((with_reducible refine aa none (.store 59 (.tmp 68) (.tmp 66)) ?_);go_must (refine bm 0 2 (.int .u64 (p:Int)) hm rfl rfl rfl sz_u64 (by simp) rfl rfl ?_);clear hm;intro w8 hm))
 have HR8:Hid (Row w8 sb [.pointer (some ⟨g,0,none⟩),.map (some hb),.int .u64 (p:Int),.bool t.dead] 62):=hm.get 0 rfl
 have HUS:Hid (Upd sb w7 w8):=hm.toUpd
 have HGS:Hid (g11≠sb):=by
  have h8:=HG11.out.2
  have h9:=HA.out.lt sb (by simp [footS])
  show g11≠sb
  omega
 have HW8:Hid (w8.cell? ⟨sb,1,none⟩=some (.map (some hb))∧Row w8 g11 (entL N) 67):=⟨by rw [HR8.out.cell];rfl,HUS.out.row HR7.out HGS.out⟩
 clear hm
 have hm:=Mem.start w8
 refine au ?_
 refine av (T:=fun W=>W.cell? ⟨sb,1,none⟩=some (.map (some hb))∧Row W g11 (entL N) 67) (by kernel_rfl) hm ?_
 intro w9 hbw hmw
 have HB9:Hid (Below w8.heap.size w8 w9):=hbw
 have HR9:Hid (Row w9 sb [.pointer (some ⟨g,0,none⟩),.map (some hb),.int .u64 (p:Int),.bool t.dead] 62):=Row.bel HR8.out hbw
 have HW:Hid (w9.cell? ⟨sb,1,none⟩=some (.map (some hb))∧Row w9 g11 (entL N) 67):=⟨by rw [HR9.out.cell];rfl,Row.bel HW8.out.2 hbw⟩
 clear hm hbw hmw
 refine aT 0 (v:=.pointer (some ⟨sb,0,none⟩)) rfl (by kernel_rfl) rfl (fun W _=>by go_simp) HW.out ?_
 go_simp
 refine aT 1 (v:=.pointer (some ⟨sb,0,none⟩)) rfl (by kernel_rfl) rfl (fun W _=>by go_simp) HW.out ?_
 go_simp
 refine aT 2 (v:=.pointer (some ⟨sb,1,none⟩)) rfl (by kernel_rfl) rfl (fun W _=>by go_simp) HW.out ?_
 go_simp
 refine aT 3 (v:=.map (some hb)) rfl (by kernel_rfl) rfl (fun W hW=>bv hW.1 rfl cj) HW.out ?_
 go_simp
 refine aT 4 (v:=.int .i64 (k:Int)) rfl (by kernel_rfl) rfl (fun W _=>by go_simp) HW.out ?_
 go_simp
 refine aT 5 (v:=.agg (entL N).toArray) rfl (by kernel_rfl) rfl (fun W hW=>bJ 0 _ hW.2 rfl _ Tryz.underlying67 rfl 49 bY (by rw [HEL.out];omega) (by rw [List.drop_zero,List.take_of_length_le (by rw [HEL.out];omega)])) HW.out ?_
 go_simp
 refine aO 6 (by kernel_rfl) rfl rfl ?_
 intro K hK
 obtain ⟨q,hq,hkm⟩:=HS7.out.map
 have hk9:=(hkm.upd HUS.out HS7.out.nsh).below HB9.out
 obtain ⟨es,cc,hmap⟩:=hk9.isMap
 go_must (refine wpl_kmPut hk9 cg eb (by have:=HS7.out.ok.puts;omega) (dF k (by omega)) rfl rfl rfl ?_)
 intro wa hka hua
 refine wpList_nil ?_
 have HRA:Hid (Row wa sb [.pointer (some ⟨g,0,none⟩),.map (some hb),.int .u64 (p:Int),.bool t.dead] 62):=hua.row HR9.out (bK HR9.out hmap)
 have HSA:Hid (SlAt wa g mb kv sb hb R.1 (putS t k N)):=by
  refine ⟨?_,?_,⟨q+1,by show q+1≤t.puts+1+24;omega,hka.same (hvK_put _ _ _)⟩,⟨fun i x hx=>?_,?_⟩,HS7.out.ns,HS7.out.nh,HS7.out.two⟩
  ·have h1:DkAt w8 g mb kv R.1:=HS7.out.dk.keep (fun q hq=>HUS.out.block q (HS7.out.dk.lt q hq) (fun e=>HS7.out.ns (e▸hq)))
   have h2:=h1.below HB9.out
   exact h2.keep (fun q hq=>hua.block q (h2.lt q hq) (fun e=>HS7.out.nh (e▸hq)))
  ·have h9:=HRA.out
   show Row wa sb [_,_,.int .u64 ((t.puts+1:Nat):Int),_] _
   rw [HP.out ()]
   exact h9
  ·by_cases he:i=k
   ·rw [he]
    rw [he,show (putS t k N).held k=some N from bo _ _ _] at hx
    simp only [Option.some.injEq] at hx
    subst hx
    exact ⟨hk,HNO.out⟩
   ·rw [show (putS t k N).held i=t.held i from aR _ _ he] at hx
    exact HS7.out.ok.held i x hx
  ·show t.puts+1≤200
   rw [HP.out ()]
   omega
 have HUA:Hid (UpdS (footS g mb kv sb hb) w wa):=(((HU7.out.mono HFS.out).trans (UpdS.of_upd HUS.out (by simp [footS]))).trans (UpdS.of_below HB9.out)).trans (UpdS.of_upd hua (by simp [footS]))
 refine hK _ _ ⟨by rw [HRA.out.cell];rfl,hua.row HW.out.2 (bK HW.out.2 hmap)⟩ ?_
 clear hK K
 go_simp
 refine wpAnyH_done (by kernel_rfl) ?_ _
 simp only [endsIn]
 go_wp2_with fail
 go_ret
 exact ⟨rfl,HSA.out,HUA.out⟩
theorem put_no (g mb:Nat) (kv:Value) (sb hb:Nat) (d:Dk) (t:Slt) (i:Int) (kek key:List Int) (hr:refI t i≠0) (w:World) (h:SlAt w g mb kv sb hb d t) :
  Calls Tryz.prog 8 #[.pointer (some ⟨sb,0,none⟩),.int .i64 i,.agg (u8s kek).toArray,.agg (u8s key).toArray] w fun e w'=>e=.returned (.int .i64 (refI t i))∧Below w.heap.size w w':=by
 have HA:Hid (SlAt w g mb kv sb hb d t):=h
 obtain ⟨r,hr0⟩:∃r,r=refI t i:=⟨_,rfl⟩
 have HRF:Hid (∀_:Unit,refI t i=r):=fun _=>hr0.symm
 rw [←hr0] at hr ⊢
 have hm:=Mem.start w
 clear h hr0
 go_enter Tryz.func8,Tryz.ntmps8
 go_wp2_with (first
  | ((with_reducible refine aa (some 6) (.box 39 (.tmp 2)) ?_);refine aB (u8s kek) rfl hm ?_;clear hm;intro w1 g6 hm)
  | ((with_reducible refine aa (some 7) (.box 39 (.tmp 3)) ?_);refine aB (u8s key) rfl hm ?_;clear hm;intro w2 g7 hm)
  | (go_at_call 23;refine (cV g mb kv sb hb d t i _ (HA.out.below hm.below)).mono ?_;rintro e w3 ⟨he,hw3⟩;rw [HRF.out ()] at he;subst he;replace hw3:=hw3.symm;subst hw3))
 go_ret
 exact ⟨rfl,hm.below⟩
open Go Go.RowKit Go.Maps Go.Shelf
def eraPh (t:Slt) (k:Nat) (j:Nat):Nat→Option (List Int):=if j=0 then ph1 (2+k) (unE ((t.held k).getD noEnt)) true else ph1 (2+k) zeroK true
def eraR (d:Dk) (t:Slt) (k:Nat):Dk×Bool:=kps d (lsOf (eraPh t k) d.n 2)
def eraS (t:Slt) (k:Nat):Slt:=⟨upf t.held k none,t.puts,t.dead⟩
theorem eA {t:Slt} {k n:Nat} (hok:SltOk t) (hk:k<24) (hn:64≤n) (j:Nat):PhOk n (eraPh t k j):=by
 unfold eraPh
 split
 ·exact ph1_ok (by omega) (d8 (hok.len k)) (unE_bytes (iP hok k)) _
 ·exact ph1_ok (by omega) aL ce _
theorem erase_cut (g mb:Nat) (kv:Value) (sb hb:Nat) (d:Dk) (t:Slt) (k:Nat) (hk:k<24) (k0:Nat) (hdd:t.dead=false) (hn:64≤d.n) (hn2:d.n≤200) (hnm:d.Nm k0) (hk0:k0≤1000000) (w:World) (h:SlAt w g mb kv sb hb d t) (hr2:(eraR d t k).2=false) :
  Calls Tryz.prog 10 #[.pointer (some ⟨sb,0,none⟩),.int .i64 (k:Int)] w fun e w'=>e=.returned (.int .i64 61)∧SlAt w' g mb kv sb hb (eraR d t k).1 {t with dead:=true}∧UpdS (footS g mb kv sb hb) w w':=by
 have HA:Hid (SlAt w g mb kv sb hb d t):=h
 have HN1:Hid (64≤d.n):=hn
 have HN2:Hid (d.n≤200):=hn2
 have HNM:Hid (d.Nm k0):=hnm
 have HRF:Hid (refI t (k:Int)=0):=by
  show _=_
  unfold refI okI
  rw [if_neg (by rw [hdd];simp),if_pos (decide_eq_true (by omega))]
 obtain ⟨X,hX⟩:∃X,X=(t.held k).getD noEnt:=⟨_,rfl⟩
 have HX:Hid (∀_:Unit,(t.held k).getD noEnt=X):=fun _=>hX.symm
 have HXL:Hid (X.2.length=48):=by show _=_;rw [hX];exact h.ok.len k
 obtain ⟨R,hR⟩:∃R,R=eraR d t k:=⟨_,rfl⟩
 have HR:Hid (∀_:Unit,eraR d t k=R):=fun _=>hR.symm
 have HPH0:Hid (∀_:Unit,eraPh t k 0=ph1 (2+k) (unE X) true):=fun _=>by rw [hX];rfl
 have HPH1:Hid (∀_:Unit,eraPh t k 1=ph1 (2+k) zeroK true):=fun _=>rfl
 rw [←hR] at hr2 ⊢
 have HCT:Hid (kcode R.2=61):=by show _=_;rw [hr2];rfl
 have hm:=Mem.start w
 clear hr2 h hdd hn hn2 hnm hX hR
 go_enter Tryz.func10,Tryz.ntmps10
 go_wp2_with (first
  | (go_at_call 23;refine (cV g mb kv sb hb d t (k:Int) _ HA.out).mono ?_;rintro e w3 ⟨he,hw3⟩;rw [HRF.out] at he;subst he;replace hw3:=hw3.symm;subst hw3))
 refine au ?_
 refine av (T:=fun W=>∃d2,SlAt W g mb kv sb hb d2 t) (by kernel_rfl) hm ?_
 intro wc hbw hmw
 have HR1:Hid (SlAt wc g mb kv sb hb d t):=HA.out.below hmw.below
 have HBW:Hid (Below w.heap.size w wc):=hmw.below
 have HW:Hid (∃d2,SlAt wc g mb kv sb hb d2 t):=⟨d,HR1.out⟩
 clear hm hbw hmw
 refine aT 0 (v:=.pointer (some ⟨sb,0,none⟩)) rfl (by kernel_rfl) rfl (fun W _=>by go_simp) HW.out ?_
 go_simp
 refine aT 1 (v:=.pointer (some ⟨sb,0,none⟩)) rfl (by kernel_rfl) rfl (fun W _=>by go_simp) HW.out ?_
 go_simp
 refine aT 2 (v:=.pointer (some ⟨sb,0,none⟩)) rfl (by kernel_rfl) rfl (fun W _=>by go_simp) HW.out ?_
 go_simp
 refine aT 3 (v:=.pointer (some ⟨g,0,none⟩)) rfl (by kernel_rfl) rfl (fun W hW=>by obtain ⟨d2,h2⟩:=hW;exact bv ((SlAt.cell h2 0).trans rfl) rfl ag_dkp) HW.out ?_
 go_simp
 refine aT 5 (v:=.int .i64 (k:Int)) rfl (by kernel_rfl) rfl (fun W _=>by go_simp) HW.out ?_
 go_simp
 refine aT 7 (v:=.pointer (some ⟨sb,0,none⟩)) rfl (by kernel_rfl) rfl (fun W _=>by go_simp) HW.out ?_
 go_simp
 refine aT 8 (v:=.pointer (some ⟨sb,0,none⟩)) rfl (by kernel_rfl) rfl (fun W _=>by go_simp) HW.out ?_
 go_simp
 refine aT 9 (v:=.pointer (some ⟨sb,1,none⟩)) rfl (by kernel_rfl) rfl (fun W _=>by go_simp) HW.out ?_
 go_simp
 refine aT 10 (v:=.map (some hb)) rfl (by kernel_rfl) rfl (fun W hW=>by obtain ⟨d2,h2⟩:=hW;exact bv ((SlAt.cell h2 1).trans rfl) rfl cj) HW.out ?_
 go_simp
 refine aT 11 (v:=.int .i64 (k:Int)) rfl (by kernel_rfl) rfl (fun W _=>by go_simp) HW.out ?_
 go_simp
 refine aT 12 (v:=.agg (entL X).toArray) rfl (by kernel_rfl) rfl (fun W hW=>by obtain ⟨d2,h2⟩:=hW;have h9:=SlAt.look1 h2 k (by omega);rw [HX.out ()] at h9;exact bG h9 rfl rfl) HW.out ?_
 go_simp
 refine aT 17 (v:=.int .i64 (k:Int)) rfl (by kernel_rfl) rfl (fun W _=>by go_simp) HW.out ?_
 go_simp
 refine aT 19 (v:=.agg (u8s zeroK).toArray) rfl (by kernel_rfl) rfl (fun W hW=>gE (u8s zeroK) [] (by simp) cY) HW.out ?_
 go_simp
 refine EraI_dag rfl rfl rfl rfl rfl rfl rfl rfl rfl rfl rfl rfl rfl (by kernel_rfl) (by kernel_rfl) (by kernel_rfl) (by kernel_rfl) (by kernel_rfl) (by kernel_rfl) (by kernel_rfl) (by kernel_rfl) _ rfl wc g mb kv sb hb d R.1 t k X 61 rfl rfl rfl rfl hk HXL.out rfl (fun w9 mA mB bs hdk hup hbs hrow hpA hgA hpB hgB=>by have h9:=gw g mb kv d k0 (eraPh t k) hk0 HN2.out (fun j _=>eA HA.out.ok hk HN1.out j) HNM.out wc.heap.size (fun q hq=>HR1.out.dk.lt q hq) w9 mA mB bs hdk hbs hrow (by rw [HPH0.out ()];exact hpA) hgA (by rw [HPH1.out ()];exact hpB) hgB;rw [show kps d (lsOf (eraPh t k) d.n 2)=R from HR.out (),HCT.out] at h9;exact h9) (fun w9 d9 hs9 hu9=>⟨d9,hs9⟩) _ _ rfl (Nat.le_of_ble_eq_true (by kernel_rfl)) (by kernel_rfl) (by kernel_rfl) _ (UpdS.refl _ _) HR1.out HR1.out ?_
 intro w7 mA mB bs hs7 hu7
 have HS7:Hid (SlAt w7 g mb kv sb hb R.1 t):=hs7
 have HU7:Hid (UpdS (foot g mb kv) w w7):=(UpdS.of_below HBW.out).trans hu7
 clear hs7 hu7 HW
 simp only [laidL]
 have HFS:Hid (∀q∈foot g mb kv,q∈footS g mb kv sb hb):=fun q hq=>by simp [footS,hq]
 go_wp2_with (first
  | (go_at_call 27;refine (died_any g mb kv sb hb R.1 t 61 _ HS7.out).mono ?_;rintro e w8 ⟨rfl,hs8,hu8⟩;have HS8:Hid (SlAt w8 g mb kv sb hb R.1 {t with dead:=true}):=hs8;have HU8:Hid (UpdS (footS g mb kv sb hb) w w8):=(HU7.out.mono HFS.out).trans (UpdS.of_upd hu8 (by simp [footS]));clear hs8 hu8))
 go_ret
 exact ⟨rfl,HS8.out,HU8.out⟩
theorem jo (g mb:Nat) (kv:Value) (sb hb:Nat) (d:Dk) (t:Slt) (k:Nat) (hk:k<24) (k0:Nat) (hdd:t.dead=false) (hn:64≤d.n) (hn2:d.n≤200) (hnm:d.Nm k0) (hk0:k0≤1000000) (w:World) (h:SlAt w g mb kv sb hb d t) (hr2:(eraR d t k).2=true) :
  Calls Tryz.prog 10 #[.pointer (some ⟨sb,0,none⟩),.int .i64 (k:Int)] w fun e w'=>e=.returned (.int .i64 0)∧SlAt w' g mb kv sb hb (eraR d t k).1 (eraS t k)∧UpdS (footS g mb kv sb hb) w w':=by
 have HA:Hid (SlAt w g mb kv sb hb d t):=h
 have HN1:Hid (64≤d.n):=hn
 have HN2:Hid (d.n≤200):=hn2
 have HNM:Hid (d.Nm k0):=hnm
 have HRF:Hid (refI t (k:Int)=0):=by
  show _=_
  unfold refI okI
  rw [if_neg (by rw [hdd];simp),if_pos (decide_eq_true (by omega))]
 obtain ⟨X,hX⟩:∃X,X=(t.held k).getD noEnt:=⟨_,rfl⟩
 have HX:Hid (∀_:Unit,(t.held k).getD noEnt=X):=fun _=>hX.symm
 have HXL:Hid (X.2.length=48):=by show _=_;rw [hX];exact h.ok.len k
 obtain ⟨R,hR⟩:∃R,R=eraR d t k:=⟨_,rfl⟩
 have HR:Hid (∀_:Unit,eraR d t k=R):=fun _=>hR.symm
 have HPH0:Hid (∀_:Unit,eraPh t k 0=ph1 (2+k) (unE X) true):=fun _=>by rw [hX];rfl
 have HPH1:Hid (∀_:Unit,eraPh t k 1=ph1 (2+k) zeroK true):=fun _=>rfl
 rw [←hR] at hr2 ⊢
 have HCT:Hid (kcode R.2=0):=by show _=_;rw [hr2];rfl
 have hm:=Mem.start w
 clear hr2 h hdd hn hn2 hnm hX hR
 go_enter Tryz.func10,Tryz.ntmps10
 go_wp2_with (first
  | (go_at_call 23;refine (cV g mb kv sb hb d t (k:Int) _ HA.out).mono ?_;rintro e w3 ⟨he,hw3⟩;rw [HRF.out] at he;subst he;replace hw3:=hw3.symm;subst hw3))
 refine au ?_
 refine av (T:=fun W=>∃d2,SlAt W g mb kv sb hb d2 t) (by kernel_rfl) hm ?_
 intro wc hbw hmw
 have HR1:Hid (SlAt wc g mb kv sb hb d t):=HA.out.below hmw.below
 have HBW:Hid (Below w.heap.size w wc):=hmw.below
 have HW:Hid (∃d2,SlAt wc g mb kv sb hb d2 t):=⟨d,HR1.out⟩
 clear hm hbw hmw
 refine aT 0 (v:=.pointer (some ⟨sb,0,none⟩)) rfl (by kernel_rfl) rfl (fun W _=>by go_simp) HW.out ?_
 go_simp
 refine aT 1 (v:=.pointer (some ⟨sb,0,none⟩)) rfl (by kernel_rfl) rfl (fun W _=>by go_simp) HW.out ?_
 go_simp
 refine aT 2 (v:=.pointer (some ⟨sb,0,none⟩)) rfl (by kernel_rfl) rfl (fun W _=>by go_simp) HW.out ?_
 go_simp
 refine aT 3 (v:=.pointer (some ⟨g,0,none⟩)) rfl (by kernel_rfl) rfl (fun W hW=>by obtain ⟨d2,h2⟩:=hW;exact bv ((SlAt.cell h2 0).trans rfl) rfl ag_dkp) HW.out ?_
 go_simp
 refine aT 5 (v:=.int .i64 (k:Int)) rfl (by kernel_rfl) rfl (fun W _=>by go_simp) HW.out ?_
 go_simp
 refine aT 7 (v:=.pointer (some ⟨sb,0,none⟩)) rfl (by kernel_rfl) rfl (fun W _=>by go_simp) HW.out ?_
 go_simp
 refine aT 8 (v:=.pointer (some ⟨sb,0,none⟩)) rfl (by kernel_rfl) rfl (fun W _=>by go_simp) HW.out ?_
 go_simp
 refine aT 9 (v:=.pointer (some ⟨sb,1,none⟩)) rfl (by kernel_rfl) rfl (fun W _=>by go_simp) HW.out ?_
 go_simp
 refine aT 10 (v:=.map (some hb)) rfl (by kernel_rfl) rfl (fun W hW=>by obtain ⟨d2,h2⟩:=hW;exact bv ((SlAt.cell h2 1).trans rfl) rfl cj) HW.out ?_
 go_simp
 refine aT 11 (v:=.int .i64 (k:Int)) rfl (by kernel_rfl) rfl (fun W _=>by go_simp) HW.out ?_
 go_simp
 refine aT 12 (v:=.agg (entL X).toArray) rfl (by kernel_rfl) rfl (fun W hW=>by obtain ⟨d2,h2⟩:=hW;have h9:=SlAt.look1 h2 k (by omega);rw [HX.out ()] at h9;exact bG h9 rfl rfl) HW.out ?_
 go_simp
 refine aT 17 (v:=.int .i64 (k:Int)) rfl (by kernel_rfl) rfl (fun W _=>by go_simp) HW.out ?_
 go_simp
 refine aT 19 (v:=.agg (u8s zeroK).toArray) rfl (by kernel_rfl) rfl (fun W hW=>gE (u8s zeroK) [] (by simp) cY) HW.out ?_
 go_simp
 refine EraI_dag rfl rfl rfl rfl rfl rfl rfl rfl rfl rfl rfl rfl rfl (by kernel_rfl) (by kernel_rfl) (by kernel_rfl) (by kernel_rfl) (by kernel_rfl) (by kernel_rfl) (by kernel_rfl) (by kernel_rfl) _ rfl wc g mb kv sb hb d R.1 t k X 0 rfl rfl rfl rfl hk HXL.out rfl (fun w9 mA mB bs hdk hup hbs hrow hpA hgA hpB hgB=>by have h9:=gw g mb kv d k0 (eraPh t k) hk0 HN2.out (fun j _=>eA HA.out.ok hk HN1.out j) HNM.out wc.heap.size (fun q hq=>HR1.out.dk.lt q hq) w9 mA mB bs hdk hbs hrow (by rw [HPH0.out ()];exact hpA) hgA (by rw [HPH1.out ()];exact hpB) hgB;rw [show kps d (lsOf (eraPh t k) d.n 2)=R from HR.out (),HCT.out] at h9;exact h9) (fun w9 d9 hs9 hu9=>⟨d9,hs9⟩) _ _ rfl (Nat.le_of_ble_eq_true (by kernel_rfl)) (by kernel_rfl) (by kernel_rfl) _ (UpdS.refl _ _) HR1.out HR1.out ?_
 intro w7 mA mB bs hs7 hu7
 have HS7:Hid (SlAt w7 g mb kv sb hb R.1 t):=hs7
 have HU7:Hid (UpdS (foot g mb kv) w w7):=(UpdS.of_below HBW.out).trans hu7
 clear hs7 hu7 HW
 simp only [laidL]
 have HFS:Hid (∀q∈foot g mb kv,q∈footS g mb kv sb hb):=fun q hq=>by simp [footS,hq]
 obtain ⟨q,hq,hkm⟩:=HS7.out.map
 have HKM:Hid (KM Tryz.prog 3 w7 hb q (hvK t.held)):=hkm
 have HQ:Hid (q≤t.puts+24):=hq
 clear hq hkm
 go_wp2_with (first
  | ((with_reducible refine aa (some 43) (.load 60 (.tmp 42)) ?_);go_must (refine aQ (.map (some hb)) ((SlAt.cell HS7.out 1).trans rfl) rfl cj ?_))
  | ((with_reducible refine aa none (.call {callee:=.builtin .delete,args:=#[.tmp 43,.tmp 44],argTypes:=#[60,3]}) ?_);go_must (refine wpl_kmDel HKM.out cg eb (dF k (by omega)) rfl rfl ?_);intro w8 hk8 hu8;have HK8:Hid (KM Tryz.prog 3 w8 hb q (hvK (upf t.held k none))):=hk8.same (hvK_del _ _);have HU8:Hid (Upd hb w7 w8):=hu8;clear hk8 hu8))
 go_ret
 refine ⟨rfl,⟨?_,?_,⟨q,HQ.out,HK8.out⟩,⟨fun i x hx=>?_,HS7.out.ok.puts⟩,HS7.out.ns,HS7.out.nh,HS7.out.two⟩,(HU7.out.mono HFS.out).trans (UpdS.of_upd HU8.out (by simp [footS]))⟩
 ·exact HS7.out.dk.keep (fun q hq=>HU8.out.block q (HS7.out.dk.lt q hq) (fun e=>HS7.out.nh (e▸hq)))
 ·exact HU8.out.row HS7.out.row HS7.out.nsh
 ·by_cases he:i=k
  ·rw [he,show (eraS t k).held k=none from bo _ _ _] at hx
   cases hx
  ·rw [show (eraS t k).held i=t.held i from aR _ _ he] at hx
   exact HS7.out.ok.held i x hx
theorem erase_no (g mb:Nat) (kv:Value) (sb hb:Nat) (d:Dk) (t:Slt) (i:Int) (hr:refI t i≠0) (w:World) (h:SlAt w g mb kv sb hb d t) :
  Calls Tryz.prog 10 #[.pointer (some ⟨sb,0,none⟩),.int .i64 i] w fun e w'=>e=.returned (.int .i64 (refI t i))∧w'=w:=by
 have HA:Hid (SlAt w g mb kv sb hb d t):=h
 obtain ⟨r,hr0⟩:∃r,r=refI t i:=⟨_,rfl⟩
 have HRF:Hid (∀_:Unit,refI t i=r):=fun _=>hr0.symm
 rw [←hr0] at hr ⊢
 clear h hr0
 go_enter Tryz.func10,Tryz.ntmps10
 go_wp2_with (first
  | (go_at_call 23;refine (cV g mb kv sb hb d t i _ HA.out).mono ?_;rintro e w3 ⟨he,hw3⟩;rw [HRF.out ()] at he;subst he;replace hw3:=hw3.symm;subst hw3))
 go_ret
 exact ⟨rfl,rfl⟩
end Go.Proofs.YtnllomcajijbjaaGreatDoor
