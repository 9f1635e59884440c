import Derived.Test.YtlpnafdkhoimhaaGreatDoorQr25
import Derived.Test.YtlpnafdkhoimhaaGreatDoorQr24
import Derived.Test.YtlpnafdkhoimhaaGreatDoorQr22
set_option maxRecDepth 100000
set_option maxHeartbeats 4000000
namespace Go.Proofs.YtlpnafdkhoimhaaGreatDoor
open Go Go.RowKit Go.Maps Go.Shelf
def entN (t:Slt) (k:Nat) (kek key:List Int):Ent:=(t.puts+1,sealOf kek (nonceOf (k:Int) ((t.puts+1:Nat):Int)) labWrap key)
theorem entN_ok {t:Slt} {k:Nat} {kek key:List Int} (hp:t.puts<200) (hl:key.length=32) (hb:Bytes key):EntOk (entN t k kek key) :=
 ⟨by show 0<t.puts+1;omega,by show t.puts+1≤200;omega,by show (sealOf _ _ _ _).length=48;rw [gH,hl],sealOf_bytes _ _ _ hb⟩
def putPh (t:Slt) (k:Nat) (N:Ent) (j:Nat):Nat→Option (List Int) :=
 if j=0 then ph2 ((t.puts+1) % 2) (cntC (t.puts+1)) (2+k) (unE ((t.held k).getD noEnt)) true true else ph1 (2+k) (mkC k N) true
def putR (d:Dk) (t:Slt) (k:Nat) (N:Ent):Dk×Bool:=kps d (lsOf (putPh t k N) d.n 2)
def putS (t:Slt) (k:Nat) (N:Ent):Slt:=⟨upf t.held k (some N),t.puts+1,t.dead⟩
theorem unE_bytes {x:Ent} (h:Bytes x.2):Bytes (unE x):=h.append (Bytes.zeros 16)
theorem ll {t:Slt} (h:SltOk t) (k:Nat):Bytes ((t.held k).getD noEnt).2:=by
 cases hx:t.held k with
 | none=>exact Bytes.zeros 48
 | some x=>exact (h.held k x hx).2.bytes
theorem ph1_ok {n k:Nat} {v:List Int} (hk:k<n) (hl:v.length=64) (hb:Bytes v) (f:Bool):PhOk n (ph1 k v f):=⟨fun i l hi=>by
 unfold ph1 at hi
 split at hi
 ·rename_i hh
  simp only [Option.some.injEq] at hi
  subst hi
  exact ⟨by omega,hl,hb⟩
 ·cases hi⟩
theorem ph2_ok {n k1 k2:Nat} {v1 v2:List Int} (h1:k1<n) (h2:k2<n) (hl1:v1.length=64) (hb1:Bytes v1) (hl2:v2.length=64) (hb2:Bytes v2) (f1 f2:Bool):PhOk n (ph2 k1 v1 k2 v2 f1 f2):=⟨fun i l hi=>by
 unfold ph2 at hi
 split at hi
 ·rename_i hh
  simp only [Option.some.injEq] at hi
  subst hi
  exact ⟨by omega,hl1,hb1⟩
 ·split at hi
  ·rename_i hh
   simp only [Option.some.injEq] at hi
   subst hi
   exact ⟨by omega,hl2,hb2⟩
  ·cases hi⟩
theorem kx {t:Slt} {k n:Nat} {N:Ent} (hok:SltOk t) (hN:EntOk N) (hk:k<24) (hn:64≤n) (j:Nat):PhOk n (putPh t k N j):=by
 unfold putPh
 split
 ·exact ph2_ok (by omega) (by omega) (jF _) (cntC_bytes _) (eB (hok.len k)) (unE_bytes (ll hok k)) _ _
 ·exact ph1_ok (by omega) (j6 hN.len) (mkC_bytes hN.bytes) _
/-- keep, of two phases. -/
theorem keep_two (g mb:Nat) (kv:Value) (d:Dk) (k0:Nat) (p:Nat→Nat→Option (List Int)) (hk0:k0≤1000000) (hn:d.n≤200) (hp:∀j,j<2→PhOk d.n (p j)) (hnu:d.Nm k0) (B:Nat) (hB:∀q∈foot g mb kv,q<B) (w:World) (mA mB bs:Nat) (hd:DkAt w g mb kv d) (hbs:B≤bs) (hr:Row w bs [.map (some mA),.map (some mB)] 101) (hA:PhM w mA (p 0)) (hAB:B≤mA) (hPB:PhM w mB (p 1)) (hBB:B≤mB) :
  Calls Tryz.prog 50 #[.pointer (some ⟨g,0,none⟩),.slice (some ⟨bs,0,none⟩) 2 2] w fun e w'=>e=.returned (.int .i64 (kcode (kps d (lsOf p d.n 2)).2))∧DkAt w' g mb kv (kps d (lsOf p d.n 2)).1∧UpdS (foot g mb kv) w w' :=
 j9 g mb kv d 2 k0 bs (fun j=>if j=0 then mA else mB) p (by omega) hk0 hn hp hnu w hd (fun h=>by have:=hB _ h;omega) hr.lt
  (fun j hj=>by rcases (by omega:j=0∨j=1) with rfl|rfl<;>(rw [hr.cell];rfl))
  (fun j hj=>by
   rcases (by omega:j=0∨j=1) with rfl|rfl
   ·exact ⟨hA,fun h=>by have h9:mA∈foot g mb kv:=h;have:=hB _ h9;omega⟩
   ·exact ⟨hPB,fun h=>by have h9:mB∈foot g mb kv:=h;have:=hB _ h9;omega⟩)
theorem put_good (g mb:Nat) (kv:Value) (sb hb:Nat) (d:Dk) (t:Slt) (k:Nat) (hk:k<24) (kek key:List Int) (k0:Nat) (hkl:kek.length=32) (hkb:Bytes kek) (hyl:key.length=32) (hyb:Bytes key) (hdd:t.dead=false) (hpu:t.puts<200) (hn:64≤d.n) (hn2:d.n≤200) (hnm:d.Nm k0) (hk0:k0≤1000000) (w:World) (ht:Tab w) (hq:QTab w) (h:SlAt w g mb kv sb hb d t) (hr2:(putR d t k (entN t k kek key)).2=true) :
  Calls Tryz.prog 42 #[.pointer (some ⟨sb,0,none⟩),.int .i64 (k:Int),.agg (u8s kek).toArray,.agg (u8s key).toArray] w fun e w'=>e=.returned (.int .i64 0)∧SlAt w' g mb kv sb hb (putR d t k (entN t k kek key)).1 (putS t k (entN t k kek key))∧UpdS (footS g mb kv sb hb) w w':=by
 have HA:Hid (SlAt w g mb kv sb hb d t):=h
 have HT:Hid (Tab w):=ht
 have HQT:Hid (QTab w):=hq
 have HKL:Hid (kek.length=32):=hkl
 have HKU:Hid ((u8s kek).length=32):=by show _=_;rw [aa,hkl]
 have HKB:Hid (Bytes kek):=hkb
 have HYL:Hid (key.length=32):=hyl
 have HYU:Hid ((u8s key).length=32):=by show _=_;rw [aa,hyl]
 have HYB:Hid (Bytes key):=hyb
 have HDD:Hid (t.dead=false):=hdd
 have HN1:Hid (64≤d.n):=hn
 have HN2:Hid (d.n≤200):=hn2
 have HNM:Hid (d.Nm k0):=hnm
 have HRF:Hid (refI t (k:Int)=0):=by
  show _=_
  unfold refI okI
  rw [if_neg (by rw [hdd];simp),if_pos (decide_eq_true (by omega))]
 obtain ⟨p,hp⟩:∃p,p=t.puts+1:=⟨_,rfl⟩
 have hp2:p≤200:=by omega
 have HP:Hid (∀_:Unit,t.puts+1=p):=fun _=>hp.symm
 have HPC:Hid (∀_:Unit,(t.puts:Int)=(p:Int) - 1):=fun _=>by omega
 have HW1:IntKind.u64.wrap ((t.puts:Int)+1)=(p:Int):=by rw [show (t.puts:Int)+1=(p:Int) by omega];exact jr p (by omega)
 have HWK:IntKind.u32.wrap (k:Int)=(k:Int):=wrapUi k hk
 obtain ⟨S,hS⟩:∃S,S=sealOf kek (nonceOf (k:Int) (p:Int)) labWrap key:=⟨_,rfl⟩
 have HS:Hid (∀_:Unit,sealOf kek (nonceOf (k:Int) (p:Int)) labWrap key=S):=fun _=>hS.symm
 obtain ⟨N,hN⟩:∃N:Ent,N=(p,S):=⟨_,rfl⟩
 have HNN:Hid (∀_:Unit,entN t k kek key=N):=fun _=>by rw [hN,hS,hp];rfl
 have HNO:Hid (EntOk N):=by rw [←HNN.out ()];exact entN_ok hpu hyl hyb
 have HEL:Hid ((entL N).length=49):=a6 HNO.out.len
 have HBE:Hid (Tryz.prog.built 111 [(0,.int .u64 (p:Int)),(1,.agg (u8s S).toArray)]=some (entL N).toArray):=by
  have h9:=HNO.out.len
  rw [hN] at h9 ⊢
  exact built_ent p S h9
 obtain ⟨X,hX⟩:∃X,X=(t.held k).getD noEnt:=⟨_,rfl⟩
 have HX:Hid (∀_:Unit,(t.held k).getD noEnt=X):=fun _=>hX.symm
 have HXL:Hid (X.2.length=48):=by show _=_;rw [hX];exact h.ok.len k
 obtain ⟨R,hR⟩:∃R,R=putR d t k N:=⟨_,rfl⟩
 have HR:Hid (∀_:Unit,putR d t k N=R):=fun _=>hR.symm
 have HPH0:Hid (∀_:Unit,putPh t k N 0=ph2 (p % 2) (cntC p) (2+k) (unE X) true true):=fun _=>by rw [hp,hX];rfl
 have HPH1:Hid (∀_:Unit,putPh t k N 1=ph1 (2+k) (mkC k N) true):=fun _=>rfl
 have hm:=Mem.start w
 rw [HNN.out (),←hR] at hr2 ⊢
 have HCT:Hid (kcode R.2=0):=by show _=_;rw [hr2];rfl
 clear hr2 h ht hq hkl hkb hyl hyb hdd hn hn2 hnm hp hS hN hX hR
 go_enter Tryz.func42,Tryz.ntmps42
 go_wp2_with (first
  | ((with_reducible refine ae (some 6) (.box 43 (.tmp 2)) ?_);refine az (u8s kek) rfl hm ?_;clear hm;intro w1 g6 hm)
  | ((with_reducible refine ae (some 7) (.box 43 (.tmp 3)) ?_);refine az (u8s key) rfl hm ?_;clear hm;intro w2 g7 hm)
  | (go_at_call 75;refine (fH g mb kv sb hb d t (k:Int) _ (HA.out.below hm.below)).mono ?_;rintro e w3 ⟨he,hw3⟩;rw [HRF.out] at he;subst he;replace hw3:=hw3.symm;subst hw3)
  | ((with_reducible refine ae (some 22) (.load 32 (.tmp 21)) ?_);go_must (refine bx (.int .u64 (t.puts:Int)) ((SlAt.cell (HA.out.below hm.below) 2).trans rfl) rfl ag_u64 ?_))
  | ((with_reducible refine ae (some 25) (.load 43 (.tmp 6)) ?_);refine av 1 hm rfl rfl _ aw rfl 32 aq (HKU.out) ?_)
  | ((with_reducible refine ae (some 29) (.load 43 (.tmp 7)) ?_);refine av 0 hm rfl rfl _ aw rfl 32 aq (HYU.out) ?_)
  | (go_at_call 76;refine (wrap_any kek key (k:Int) (p:Int) HKL.out HYL.out HKB.out HYB.out (by omega) _ (Tab.mem HT.out hm (by simp)) (QTab.mem HQT.out hm (by simp))).mono ?_;rintro e w4 ⟨he,hb4⟩;rw [HS.out ()] at he;subst he;replace hm:=hm.call hb4;clear hb4)
  | ((with_reducible refine ae (some 31) (.build 111 #[(0,.tmp 24),(1,.tmp 30)]) ?_);go_must (refine ay (entL N) _ rfl HBE.out ?_))
  | ((with_reducible refine ae (some 11) (.alloc 111) ?_);refine ag _ b8 hm ?_;clear hm;intro w5 g11 hm)
  | ((with_reducible refine ae none (.store 111 (.tmp 11) (.tmp 31)) ?_);refine ah 0 (entL N) hm rfl rfl rfl 49 cO (a6 (by simp [noEnt])) HEL.out (dq _) ?_;clear hm;intro w6 hm))
 have HG11:Hid (g11 ∉ foot g mb kv∧w.heap.size≤g11):=by
  have hf:=hm.fresh _ (List.mem_cons_self ..)
  simp only [List.not_mem_nil,false_or] at hf
  exact ⟨fun h=>by have:=HA.out.dk.lt _ h;omega,hf⟩
 refine aA ?_
 refine aC (T:=fun W=>(∃d2,SlAt W g mb kv sb hb d2 t)∧Row W g11 (entL N) 111) (by kernel_rfl) hm ?_
 intro wc hbw hmw
 have HR1:Hid (SlAt wc g mb kv sb hb d t):=HA.out.below hmw.below
 have HBW:Hid (Below w.heap.size w wc):=hmw.below
 have HRW:Hid (Row wc g11 (entL N) 111):=hmw.get 0 rfl
 have HW:Hid ((∃d2,SlAt wc g mb kv sb hb d2 t)∧Row wc g11 (entL N) 111):=⟨⟨d,HR1.out⟩,HRW.out⟩
 clear hm hbw hmw
 refine aT 0 (v:=.pointer (some ⟨sb,0,none⟩)) rfl (by kernel_rfl) rfl (fun W _=>by go_simp) HW.out ?_
 go_simp
 refine aT 1 (v:=.pointer (some ⟨sb,0,none⟩)) rfl (by kernel_rfl) rfl (fun W _=>by go_simp) HW.out ?_
 go_simp
 refine aT 2 (v:=.pointer (some ⟨sb,0,none⟩)) rfl (by kernel_rfl) rfl (fun W _=>by go_simp) HW.out ?_
 go_simp
 refine aT 3 (v:=.pointer (some ⟨g,0,none⟩)) rfl (by kernel_rfl) rfl (fun W hW=>by obtain ⟨⟨d2,h2⟩,_⟩:=hW;exact dL ((SlAt.cell h2 0).trans rfl) rfl ag_dkp) HW.out ?_
 go_simp
 refine aT 5 (v:=.int .u64 (p:Int)) rfl (by kernel_rfl) rfl (fun W _=>by go_simp) HW.out ?_
 go_simp
 refine aT 7 (v:=.int .u64 (p:Int)) rfl (by kernel_rfl) rfl (fun W _=>by go_simp) HW.out ?_
 go_simp
 refine aT 10 (v:=.int .i64 (k:Int)) rfl (by kernel_rfl) rfl (fun W _=>by go_simp) HW.out ?_
 go_simp
 refine aT 12 (v:=.pointer (some ⟨sb,0,none⟩)) rfl (by kernel_rfl) rfl (fun W _=>by go_simp) HW.out ?_
 go_simp
 refine aT 13 (v:=.pointer (some ⟨sb,0,none⟩)) rfl (by kernel_rfl) rfl (fun W _=>by go_simp) HW.out ?_
 go_simp
 refine aT 14 (v:=.pointer (some ⟨sb,1,none⟩)) rfl (by kernel_rfl) rfl (fun W _=>by go_simp) HW.out ?_
 go_simp
 refine aT 15 (v:=.map (some hb)) rfl (by kernel_rfl) rfl (fun W hW=>by obtain ⟨⟨d2,h2⟩,_⟩:=hW;exact dL ((SlAt.cell h2 1).trans rfl) rfl dh) HW.out ?_
 go_simp
 refine aT 16 (v:=.int .i64 (k:Int)) rfl (by kernel_rfl) rfl (fun W _=>by go_simp) HW.out ?_
 go_simp
 refine aT 17 (v:=.agg (entL X).toArray) rfl (by kernel_rfl) rfl (fun W hW=>by obtain ⟨⟨d2,h2⟩,_⟩:=hW;have h9:=SlAt.look1 h2 k (by omega);rw [HX.out ()] at h9;exact bi h9 rfl rfl) HW.out ?_
 go_simp
 refine aT 22 (v:=.int .i64 (k:Int)) rfl (by kernel_rfl) rfl (fun W _=>by go_simp) HW.out ?_
 go_simp
 refine aT 24 (v:=.agg (entL N).toArray) rfl (by kernel_rfl) rfl (fun W hW=>bT 0 _ hW.2 rfl _ Tryz.underlying111 rfl 49 cO (by rw [HEL.out];omega) (by rw [List.drop_zero,List.take_of_length_le (by rw [HEL.out];omega)])) HW.out ?_
 go_simp
 refine aT 25 (v:=.int .i64 (k:Int)) rfl (by kernel_rfl) rfl (fun W _=>by go_simp) HW.out ?_
 go_simp
 refine PutI_dag rfl rfl rfl rfl rfl rfl rfl rfl rfl rfl rfl rfl rfl rfl rfl rfl rfl (by kernel_rfl) (by kernel_rfl) (by kernel_rfl) (by kernel_rfl) (by kernel_rfl) (by kernel_rfl) (by kernel_rfl) (by kernel_rfl) (by kernel_rfl) _ rfl wc g mb kv sb hb d R.1 t p k X N 0 rfl rfl rfl rfl rfl rfl rfl rfl (by omega) hk HXL.out HNO.out.len (HT.out.below HBW.out) (fun q hq=>HA.out.two q (by simp [footS,hq])) (fun w9 mA mB bs hdk hup hbs hrow hpA hgA hpB hgB=>by have h9:=keep_two g mb kv d k0 (putPh t k N) hk0 HN2.out (fun j _=>kx HA.out.ok HNO.out hk HN1.out j) HNM.out wc.heap.size (fun q hq=>HR1.out.dk.lt q hq) w9 mA mB bs hdk hbs hrow (by rw [HPH0.out ()];exact hpA) hgA (by rw [HPH1.out ()];exact hpB) hgB;rw [show kps d (lsOf (putPh t k N) d.n 2)=R from HR.out (),HCT.out] at h9;exact h9) (fun w9 d9 hs9 hu9=>⟨⟨d9,hs9⟩,hu9.row HRW.out HG11.out.1⟩) _ _ rfl (Nat.le_of_ble_eq_true (by kernel_rfl)) (by kernel_rfl) (by kernel_rfl) _ (UpdS.refl _ _) HR1.out HR1.out ?_
 intro w7 mA mB bs hs7 hu7
 have HS7:Hid (SlAt w7 g mb kv sb hb R.1 t):=hs7
 have HU7:Hid (UpdS (foot g mb kv) w w7):=(UpdS.of_below HBW.out).trans hu7
 have HR7:Hid (Row w7 g11 (entL N) 111):=hu7.row HRW.out HG11.out.1
 clear hs7 hu7 HW HRW
 simp only [laidL]
 have HFS:Hid (∀q∈foot g mb kv,q∈footS g mb kv sb hb):=fun q hq=>by simp [footS,hq]
 have hm:=Mem.enter HS7.out.row
 go_wp2_with (first
  | ((with_reducible refine ae none (.store 32 (.tmp 68) (.tmp 66)) ?_);go_must (refine bj 0 2 (.int .u64 (p:Int)) hm rfl rfl rfl sz_u64 (by simp) rfl rfl ?_);clear hm;intro w8 hm))
 have HR8:Hid (Row w8 sb [.pointer (some ⟨g,0,none⟩),.map (some hb),.int .u64 (p:Int),.bool t.dead] 107):=hm.get 0 rfl
 have HUS:Hid (Upd sb w7 w8):=hm.toUpd
 have HGS:Hid (g11≠sb):=by
  have h8:=HG11.out.2
  have h9:=HA.out.lt sb (by simp [footS])
  show g11≠sb
  omega
 have HW8:Hid (w8.cell? ⟨sb,1,none⟩=some (.map (some hb))∧Row w8 g11 (entL N) 111):=⟨by rw [HR8.out.cell];rfl,HUS.out.row HR7.out HGS.out⟩
 clear hm
 have hm:=Mem.start w8
 refine aA ?_
 refine aC (T:=fun W=>W.cell? ⟨sb,1,none⟩=some (.map (some hb))∧Row W g11 (entL N) 111) (by kernel_rfl) hm ?_
 intro w9 hbw hmw
 have HB9:Hid (Below w8.heap.size w8 w9):=hbw
 have HR9:Hid (Row w9 sb [.pointer (some ⟨g,0,none⟩),.map (some hb),.int .u64 (p:Int),.bool t.dead] 107):=Row.bel HR8.out hbw
 have HW:Hid (w9.cell? ⟨sb,1,none⟩=some (.map (some hb))∧Row w9 g11 (entL N) 111):=⟨by rw [HR9.out.cell];rfl,Row.bel HW8.out.2 hbw⟩
 clear hm hbw hmw
 refine aT 0 (v:=.pointer (some ⟨sb,0,none⟩)) rfl (by kernel_rfl) rfl (fun W _=>by go_simp) HW.out ?_
 go_simp
 refine aT 1 (v:=.pointer (some ⟨sb,0,none⟩)) rfl (by kernel_rfl) rfl (fun W _=>by go_simp) HW.out ?_
 go_simp
 refine aT 2 (v:=.pointer (some ⟨sb,1,none⟩)) rfl (by kernel_rfl) rfl (fun W _=>by go_simp) HW.out ?_
 go_simp
 refine aT 3 (v:=.map (some hb)) rfl (by kernel_rfl) rfl (fun W hW=>dL hW.1 rfl dh) HW.out ?_
 go_simp
 refine aT 4 (v:=.int .i64 (k:Int)) rfl (by kernel_rfl) rfl (fun W _=>by go_simp) HW.out ?_
 go_simp
 refine aT 5 (v:=.agg (entL N).toArray) rfl (by kernel_rfl) rfl (fun W hW=>bT 0 _ hW.2 rfl _ Tryz.underlying111 rfl 49 cO (by rw [HEL.out];omega) (by rw [List.drop_zero,List.take_of_length_le (by rw [HEL.out];omega)])) HW.out ?_
 go_simp
 refine aO 6 (by kernel_rfl) rfl rfl ?_
 intro K hK
 obtain ⟨q,hq,hkm⟩:=HS7.out.map
 have hk9:=(hkm.upd HUS.out HS7.out.nsh).below HB9.out
 obtain ⟨es,cc,hmap⟩:=hk9.isMap
 go_must (refine ge hk9 cB eQ (by have:=HS7.out.ok.puts;omega) (dX k (by omega)) rfl rfl rfl ?_)
 intro wa hka hua
 refine wpList_nil ?_
 have HRA:Hid (Row wa sb [.pointer (some ⟨g,0,none⟩),.map (some hb),.int .u64 (p:Int),.bool t.dead] 107):=hua.row HR9.out (bR HR9.out hmap)
 have HSA:Hid (SlAt wa g mb kv sb hb R.1 (putS t k N)):=by
  refine ⟨?_,?_,⟨q+1,by show q+1≤t.puts+1+24;omega,hka.same (hvK_put _ _ _)⟩,⟨fun i x hx=>?_,?_⟩,HS7.out.ns,HS7.out.nh,HS7.out.two⟩
  ·have h1:DkAt w8 g mb kv R.1:=HS7.out.dk.keep (fun q hq=>HUS.out.block q (HS7.out.dk.lt q hq) (fun e=>HS7.out.ns (e▸hq)))
   have h2:=h1.below HB9.out
   exact h2.keep (fun q hq=>hua.block q (h2.lt q hq) (fun e=>HS7.out.nh (e▸hq)))
  ·have h9:=HRA.out
   show Row wa sb [_,_,.int .u64 ((t.puts+1:Nat):Int),_] _
   rw [HP.out ()]
   exact h9
  ·by_cases he:i=k
   ·rw [he]
    rw [he,show (putS t k N).held k=some N from bo _ _ _] at hx
    simp only [Option.some.injEq] at hx
    subst hx
    exact ⟨hk,HNO.out⟩
   ·rw [show (putS t k N).held i=t.held i from aN _ _ he] at hx
    exact HS7.out.ok.held i x hx
  ·show t.puts+1≤200
   rw [HP.out ()]
   omega
 have HUA:Hid (UpdS (footS g mb kv sb hb) w wa):=(((HU7.out.mono HFS.out).trans (UpdS.of_upd HUS.out (by simp [footS]))).trans (UpdS.of_below HB9.out)).trans (UpdS.of_upd hua (by simp [footS]))
 refine hK _ _ ⟨by rw [HRA.out.cell];rfl,hua.row HW.out.2 (bR HW.out.2 hmap)⟩ ?_
 clear hK K
 go_simp
 refine wpAnyH_done (by kernel_rfl) ?_ _
 simp only [endsIn]
 go_wp2_with fail
 go_ret
 exact ⟨rfl,HSA.out,HUA.out⟩
open Go Go.RowKit Go.Maps Go.Shelf
def eraPh (t:Slt) (k:Nat) (j:Nat):Nat→Option (List Int):=if j=0 then ph1 (2+k) (unE ((t.held k).getD noEnt)) true else ph1 (2+k) zeroK true
def eraR (d:Dk) (t:Slt) (k:Nat):Dk×Bool:=kps d (lsOf (eraPh t k) d.n 2)
def eraS (t:Slt) (k:Nat):Slt:=⟨upf t.held k none,t.puts,t.dead⟩
theorem kS {t:Slt} {k n:Nat} (hok:SltOk t) (hk:k<24) (hn:64≤n) (j:Nat):PhOk n (eraPh t k j):=by
 unfold eraPh
 split
 ·exact ph1_ok (by omega) (eB (hok.len k)) (unE_bytes (ll hok k)) _
 ·exact ph1_ok (by omega) aS cz _
theorem erase_good (g mb:Nat) (kv:Value) (sb hb:Nat) (d:Dk) (t:Slt) (k:Nat) (hk:k<24) (k0:Nat) (hdd:t.dead=false) (hn:64≤d.n) (hn2:d.n≤200) (hnm:d.Nm k0) (hk0:k0≤1000000) (w:World) (h:SlAt w g mb kv sb hb d t) (hr2:(eraR d t k).2=true) :
  Calls Tryz.prog 44 #[.pointer (some ⟨sb,0,none⟩),.int .i64 (k:Int)] w fun e w'=>e=.returned (.int .i64 0)∧SlAt w' g mb kv sb hb (eraR d t k).1 (eraS t k)∧UpdS (footS g mb kv sb hb) w w':=by
 have HA:Hid (SlAt w g mb kv sb hb d t):=h
 have HN1:Hid (64≤d.n):=hn
 have HN2:Hid (d.n≤200):=hn2
 have HNM:Hid (d.Nm k0):=hnm
 have HRF:Hid (refI t (k:Int)=0):=by
  show _=_
  unfold refI okI
  rw [if_neg (by rw [hdd];simp),if_pos (decide_eq_true (by omega))]
 obtain ⟨X,hX⟩:∃X,X=(t.held k).getD noEnt:=⟨_,rfl⟩
 have HX:Hid (∀_:Unit,(t.held k).getD noEnt=X):=fun _=>hX.symm
 have HXL:Hid (X.2.length=48):=by show _=_;rw [hX];exact h.ok.len k
 obtain ⟨R,hR⟩:∃R,R=eraR d t k:=⟨_,rfl⟩
 have HR:Hid (∀_:Unit,eraR d t k=R):=fun _=>hR.symm
 have HPH0:Hid (∀_:Unit,eraPh t k 0=ph1 (2+k) (unE X) true):=fun _=>by rw [hX];rfl
 have HPH1:Hid (∀_:Unit,eraPh t k 1=ph1 (2+k) zeroK true):=fun _=>rfl
 rw [←hR] at hr2 ⊢
 have HCT:Hid (kcode R.2=0):=by show _=_;rw [hr2];rfl
 have hm:=Mem.start w
 clear hr2 h hdd hn hn2 hnm hX hR
 go_enter Tryz.func44,Tryz.ntmps44
 go_wp2_with (first
  | (go_at_call 75;refine (fH g mb kv sb hb d t (k:Int) _ HA.out).mono ?_;rintro e w3 ⟨he,hw3⟩;rw [HRF.out] at he;subst he;replace hw3:=hw3.symm;subst hw3))
 refine aA ?_
 refine aC (T:=fun W=>∃d2,SlAt W g mb kv sb hb d2 t) (by kernel_rfl) hm ?_
 intro wc hbw hmw
 have HR1:Hid (SlAt wc g mb kv sb hb d t):=HA.out.below hmw.below
 have HBW:Hid (Below w.heap.size w wc):=hmw.below
 have HW:Hid (∃d2,SlAt wc g mb kv sb hb d2 t):=⟨d,HR1.out⟩
 clear hm hbw hmw
 refine aT 0 (v:=.pointer (some ⟨sb,0,none⟩)) rfl (by kernel_rfl) rfl (fun W _=>by go_simp) HW.out ?_
 go_simp
 refine aT 1 (v:=.pointer (some ⟨sb,0,none⟩)) rfl (by kernel_rfl) rfl (fun W _=>by go_simp) HW.out ?_
 go_simp
 refine aT 2 (v:=.pointer (some ⟨sb,0,none⟩)) rfl (by kernel_rfl) rfl (fun W _=>by go_simp) HW.out ?_
 go_simp
 refine aT 3 (v:=.pointer (some ⟨g,0,none⟩)) rfl (by kernel_rfl) rfl (fun W hW=>by obtain ⟨d2,h2⟩:=hW;exact dL ((SlAt.cell h2 0).trans rfl) rfl ag_dkp) HW.out ?_
 go_simp
 refine aT 5 (v:=.int .i64 (k:Int)) rfl (by kernel_rfl) rfl (fun W _=>by go_simp) HW.out ?_
 go_simp
 refine aT 7 (v:=.pointer (some ⟨sb,0,none⟩)) rfl (by kernel_rfl) rfl (fun W _=>by go_simp) HW.out ?_
 go_simp
 refine aT 8 (v:=.pointer (some ⟨sb,0,none⟩)) rfl (by kernel_rfl) rfl (fun W _=>by go_simp) HW.out ?_
 go_simp
 refine aT 9 (v:=.pointer (some ⟨sb,1,none⟩)) rfl (by kernel_rfl) rfl (fun W _=>by go_simp) HW.out ?_
 go_simp
 refine aT 10 (v:=.map (some hb)) rfl (by kernel_rfl) rfl (fun W hW=>by obtain ⟨d2,h2⟩:=hW;exact dL ((SlAt.cell h2 1).trans rfl) rfl dh) HW.out ?_
 go_simp
 refine aT 11 (v:=.int .i64 (k:Int)) rfl (by kernel_rfl) rfl (fun W _=>by go_simp) HW.out ?_
 go_simp
 refine aT 12 (v:=.agg (entL X).toArray) rfl (by kernel_rfl) rfl (fun W hW=>by obtain ⟨d2,h2⟩:=hW;have h9:=SlAt.look1 h2 k (by omega);rw [HX.out ()] at h9;exact bi h9 rfl rfl) HW.out ?_
 go_simp
 refine aT 17 (v:=.int .i64 (k:Int)) rfl (by kernel_rfl) rfl (fun W _=>by go_simp) HW.out ?_
 go_simp
 refine aT 19 (v:=.agg (u8s zeroK).toArray) rfl (by kernel_rfl) rfl (fun W hW=>kJ (u8s zeroK) [] (by simp) dF) HW.out ?_
 go_simp
 refine EraI_dag rfl rfl rfl rfl rfl rfl rfl rfl rfl rfl rfl rfl rfl (by kernel_rfl) (by kernel_rfl) (by kernel_rfl) (by kernel_rfl) (by kernel_rfl) (by kernel_rfl) (by kernel_rfl) (by kernel_rfl) _ rfl wc g mb kv sb hb d R.1 t k X 0 rfl rfl rfl rfl hk HXL.out rfl (fun w9 mA mB bs hdk hup hbs hrow hpA hgA hpB hgB=>by have h9:=keep_two g mb kv d k0 (eraPh t k) hk0 HN2.out (fun j _=>kS HA.out.ok hk HN1.out j) HNM.out wc.heap.size (fun q hq=>HR1.out.dk.lt q hq) w9 mA mB bs hdk hbs hrow (by rw [HPH0.out ()];exact hpA) hgA (by rw [HPH1.out ()];exact hpB) hgB;rw [show kps d (lsOf (eraPh t k) d.n 2)=R from HR.out (),HCT.out] at h9;exact h9) (fun w9 d9 hs9 hu9=>⟨d9,hs9⟩) _ _ rfl (Nat.le_of_ble_eq_true (by kernel_rfl)) (by kernel_rfl) (by kernel_rfl) _ (UpdS.refl _ _) HR1.out HR1.out ?_
 intro w7 mA mB bs hs7 hu7
 have HS7:Hid (SlAt w7 g mb kv sb hb R.1 t):=hs7
 have HU7:Hid (UpdS (foot g mb kv) w w7):=(UpdS.of_below HBW.out).trans hu7
 clear hs7 hu7 HW
 simp only [laidL]
 have HFS:Hid (∀q∈foot g mb kv,q∈footS g mb kv sb hb):=fun q hq=>by simp [footS,hq]
 obtain ⟨q,hq,hkm⟩:=HS7.out.map
 have HKM:Hid (KM Tryz.prog 3 w7 hb q (hvK t.held)):=hkm
 have HQ:Hid (q≤t.puts+24):=hq
 clear hq hkm
 go_wp2_with (first
  | ((with_reducible refine ae (some 43) (.load 105 (.tmp 42)) ?_);go_must (refine bx (.map (some hb)) ((SlAt.cell HS7.out 1).trans rfl) rfl dh ?_))
  | ((with_reducible refine ae none (.call {callee:=.builtin .delete,args:=#[.tmp 43,.tmp 44],argTypes:=#[105,3]}) ?_);go_must (refine wpl_kmDel HKM.out cB eQ (dX k (by omega)) rfl rfl ?_);intro w8 hk8 hu8;have HK8:Hid (KM Tryz.prog 3 w8 hb q (hvK (upf t.held k none))):=hk8.same (hvK_del _ _);have HU8:Hid (Upd hb w7 w8):=hu8;clear hk8 hu8))
 go_ret
 refine ⟨rfl,⟨?_,?_,⟨q,HQ.out,HK8.out⟩,⟨fun i x hx=>?_,HS7.out.ok.puts⟩,HS7.out.ns,HS7.out.nh,HS7.out.two⟩,(HU7.out.mono HFS.out).trans (UpdS.of_upd HU8.out (by simp [footS]))⟩
 ·exact HS7.out.dk.keep (fun q hq=>HU8.out.block q (HS7.out.dk.lt q hq) (fun e=>HS7.out.nh (e▸hq)))
 ·exact HU8.out.row HS7.out.row HS7.out.nsh
 ·by_cases he:i=k
  ·rw [he,show (eraS t k).held k=none from bo _ _ _] at hx
   cases hx
  ·rw [show (eraS t k).held i=t.held i from aN _ _ he] at hx
   exact HS7.out.ok.held i x hx
theorem erase_no (g mb:Nat) (kv:Value) (sb hb:Nat) (d:Dk) (t:Slt) (i:Int) (hr:refI t i≠0) (w:World) (h:SlAt w g mb kv sb hb d t) :
  Calls Tryz.prog 44 #[.pointer (some ⟨sb,0,none⟩),.int .i64 i] w fun e w'=>e=.returned (.int .i64 (refI t i))∧w'=w:=by
 have HA:Hid (SlAt w g mb kv sb hb d t):=h
 obtain ⟨r,hr0⟩:∃r,r=refI t i:=⟨_,rfl⟩
 have HRF:Hid (∀_:Unit,refI t i=r):=fun _=>hr0.symm
 rw [←hr0] at hr ⊢
 clear h hr0
 go_enter Tryz.func44,Tryz.ntmps44
 go_wp2_with (first
  | (go_at_call 75;refine (fH g mb kv sb hb d t i _ HA.out).mono ?_;rintro e w3 ⟨he,hw3⟩;rw [HRF.out ()] at he;subst he;replace hw3:=hw3.symm;subst hw3))
 go_ret
 exact ⟨rfl,rfl⟩
open Go Go.RowKit Go.Maps
def z7:List Int:=List.replicate 7 0
structure Inv (d:Dk) (t:Slt):Prop where
 ok:SltOk t
 dead:t.dead=false
 n:64≤d.n
 n2:d.n≤200
 pend:∀s,d.pend s=none
 slot:∀i,i<24→d.kept (2+i)=slC i (t.held i)
 z7:∀a,a<2→(d.kept a).take 7=z7
 cle:∀a n,a<2→numOf a ((d.kept a).take 16)=some n→n≤t.puts∧n % 2=a
 cnt:0<t.puts→numOf (t.puts % 2) ((d.kept (t.puts % 2)).take 16)=some t.puts
 zero:t.puts=0→∀i,t.held i=none
theorem Inv.now {d:Dk} {t:Slt} (h:Inv d t) (s:Nat):d.now s=d.kept s:=by simp [Dk.now,h.pend s]
theorem phL_in {p:Nat→Option (List Int)} {n s:Nat} {c:List Int} (hs:s<n) (h:p s=some c):(s,c)∈phL p n:=by
 unfold phL
 exact List.mem_map.2 ⟨s,(i7 p n s).2 ⟨hs,by rw [h];rfl⟩,by rw [h];rfl⟩
theorem fm (p:Nat→Option (List Int)) (n:Nat):((phL p n).map Prod.fst).Nodup:=by rw [phL_keys];exact pensP_nodup p n
theorem phL_out {p:Nat→Option (List Int)} {n s:Nat} (h:p s=none):s ∉ (phL p n).map Prod.fst:=by
 rw [phL_keys,i7,h]
 simp
theorem Kept.at_ {d d':Dk} {p:Nat→Option (List Int)} (h:Kept d (phL p d.n) d') (hp:PhOk d.n p) (s:Nat):d'.kept s=(p s).getD (d.now s):=by
 cases hs:p s with
 | none=>exact h.none s (phL_out hs)
 | some c=>exact h.some (s,c) (phL_in (hp.at_ s c hs).1 hs)
theorem kP {d:Dk} (h:∀s,d.pend s=none) (s:Nat):d.now s=d.kept s:=by simp [Dk.now,h s]
/-- Two phases that were kept. -/
theorem two_good {d:Dk} {p:Nat→Nat→Option (List Int)} (hp0:PhOk d.n (p 0)) (hp1:PhOk d.n (p 1)) (h:(kps d (lsOf p d.n 2)).2=true) :
  (kps d (lsOf p d.n 2)).1.n=d.n∧(∀s,(kps d (lsOf p d.n 2)).1.pend s=none)∧∀s,(kps d (lsOf p d.n 2)).1.kept s=(p 1 s).getD ((p 0 s).getD (d.now s)):=by
 have e:lsOf p d.n 2=[phL (p 0) d.n,phL (p 1) d.n]:=rfl
 rw [e] at h ⊢
 cases h0:(phs d (phL (p 0) d.n)).2 with
 | false=>rw [fk h0,h0] at h;cases h
 | true =>
  rw [dC h0] at h ⊢
  have k0:=(fO d _ (fm (p 0) d.n)).1 h0
  generalize (phs d (phL (p 0) d.n)).1=d1 at *
  rw [←k0.n] at h ⊢ hp1
  cases h1:(phs d1 (phL (p 1) d1.n)).2 with
  | false=>rw [fk h1,h1] at h;cases h
  | true =>
   rw [dC h1]
   have k1:=(fO d1 _ (fm (p 1) d1.n)).1 h1
   refine ⟨k1.n,k1.pend,fun s=>?_⟩
   show (phs d1 (phL (p 1) d1.n)).1.kept s=_
   rw [k1.at_ hp1 s,kP k0.pend,k0.at_ hp0 s]
theorem putPh_zero (t:Slt) (k:Nat) (N:Ent) (s:Nat):putPh t k N 0 s=if s=(t.puts+1) % 2 then some (cntC (t.puts+1)) else if s=2+k then some (unC (t.held k)) else none:=by
 show (if true=true∧s=(t.puts+1) % 2 then some (cntC (t.puts+1)) else if true=true∧s=2+k then some (unE ((t.held k).getD noEnt)) else none)=_
 rw [←unC_get]
 simp
theorem putPh_one (t:Slt) (k:Nat) (N:Ent) (s:Nat):putPh t k N 1 s=if s=2+k then some (mkC k N) else none:=by
 show (if true=true∧s=2+k then some (mkC k N) else none)=_
 simp
theorem putS_ok {t:Slt} {k:Nat} {N:Ent} (h:SltOk t) (hp:t.puts<200) (hk:k<24) (hN:EntOk N):SltOk (putS t k N):=by
 refine ⟨fun i x hx=>?_,by show t.puts+1≤200;omega⟩
 by_cases he:i=k
 ·subst he
  rw [show (putS t i N).held i=some N from bo _ _ _] at hx
  simp only [Option.some.injEq] at hx
  subst hx
  exact ⟨hk,hN⟩
 ·rw [show (putS t k N).held i=t.held i from aN _ _ he] at hx
  exact h.held i x hx
theorem put_inv {d:Dk} {t:Slt} {k:Nat} {N:Ent} (h:Inv d t) (hp:t.puts<200) (hk:k<24) (hN:EntOk N) (hr:(putR d t k N).2=true):Inv (putR d t k N).1 (putS t k N)∧(putR d t k N).1.n=d.n:=by
 obtain ⟨e1,e2,e3⟩:=two_good (kx h.ok hN hk h.n 0) (kx h.ok hN hk h.n 1) hr
 change (putR d t k N).1.n=d.n at e1
 change ∀s,(putR d t k N).1.pend s=none at e2
 have e4:∀s,(putR d t k N).1.kept s=if s=2+k then mkC k N else if s=(t.puts+1) % 2 then cntC (t.puts+1) else d.kept s:=by
  intro s
  have:=e3 s
  change (putR d t k N).1.kept s=_ at this
  rw [this,putPh_one,putPh_zero,h.now]
  by_cases h1:s=2+k
  ·simp only [if_pos h1,Option.getD_some]
  ·by_cases h2:s=(t.puts+1) % 2
   ·simp only [if_neg h1,if_pos h2,Option.getD_some,Option.getD_none]
   ·simp only [if_neg h1,if_neg h2,Option.getD_none]
 refine ⟨⟨putS_ok h.ok hp hk hN,h.dead,by rw [e1];exact h.n,by rw [e1];exact h.n2,e2,fun i hi=>?_,fun a ha=>?_,fun a n ha hn=>?_,fun _=>?_,fun h0=>absurd h0 (by show ¬t.puts+1=0;omega)⟩,e1⟩
 ·rw [e4]
  by_cases he:i=k
  ·subst he
   rw [if_pos rfl,show (putS t i N).held i=some N from bo _ _ _]
   rfl
  ·rw [if_neg (by omega),if_neg (by omega),show (putS t k N).held i=t.held i from aN _ _ he]
   exact h.slot i hi
 ·rw [e4,if_neg (by omega)]
  by_cases h2:a=(t.puts+1) % 2
  ·rw [if_pos h2];exact cntC_7 _ (by omega)
  ·rw [if_neg h2];exact h.z7 a ha
 ·rw [e4,if_neg (by omega)] at hn
  show n≤t.puts+1∧_
  by_cases h2:a=(t.puts+1) % 2
  ·rw [if_pos h2,h2,cntC_num _ (by omega) (by omega)] at hn
   simp only [Option.some.injEq] at hn
   omega
  ·rw [if_neg h2] at hn
   have:=h.cle a n ha hn
   omega
 ·show numOf ((t.puts+1) % 2) _=some (t.puts+1)
  have e9:=e4 ((t.puts+1) % 2)
  rw [if_neg (by omega),if_pos rfl] at e9
  rw [show (putR d t k N).1.kept ((putS t k N).puts % 2)=cntC (t.puts+1) from e9]
  exact cntC_num _ (by omega) (by omega)
theorem eraPh_zero (t:Slt) (k:Nat) (s:Nat):eraPh t k 0 s=if s=2+k then some (unC (t.held k)) else none:=by
 show (if true=true∧s=2+k then some (unE ((t.held k).getD noEnt)) else none)=_
 rw [←unC_get]
 simp
theorem eraPh_one (t:Slt) (k:Nat) (s:Nat):eraPh t k 1 s=if s=2+k then some zeroK else none:=by
 show (if true=true∧s=2+k then some zeroK else none)=_
 simp
theorem eraS_ok {t:Slt} {k:Nat} (h:SltOk t):SltOk (eraS t k):=by
 refine ⟨fun i x hx=>?_,h.puts⟩
 by_cases he:i=k
 ·subst he
  rw [show (eraS t i).held i=none from bo _ _ _] at hx
  cases hx
 ·rw [show (eraS t k).held i=t.held i from aN _ _ he] at hx
  exact h.held i x hx
theorem erase_inv {d:Dk} {t:Slt} {k:Nat} (h:Inv d t) (hk:k<24) (hr:(eraR d t k).2=true):Inv (eraR d t k).1 (eraS t k)∧(eraR d t k).1.n=d.n:=by
 obtain ⟨e1,e2,e3⟩:=two_good (kS h.ok hk h.n 0) (kS h.ok hk h.n 1) hr
 change (eraR d t k).1.n=d.n at e1
 change ∀s,(eraR d t k).1.pend s=none at e2
 have e4:∀s,(eraR d t k).1.kept s=if s=2+k then zeroK else d.kept s:=by
  intro s
  have:=e3 s
  change (eraR d t k).1.kept s=_ at this
  rw [this,eraPh_one,eraPh_zero,h.now]
  by_cases h1:s=2+k
  ·simp only [if_pos h1,Option.getD_some]
  ·simp only [if_neg h1,Option.getD_none]
 refine ⟨⟨eraS_ok h.ok,h.dead,by rw [e1];exact h.n,by rw [e1];exact h.n2,e2,fun i hi=>?_,fun a ha=>?_,fun a n ha hn=>?_,fun h0=>?_,fun h0 i=>?_⟩,e1⟩
 ·rw [e4]
  by_cases he:i=k
  ·subst he
   rw [if_pos rfl,show (eraS t i).held i=none from bo _ _ _]
   rfl
  ·rw [if_neg (by omega),show (eraS t k).held i=t.held i from aN _ _ he]
   exact h.slot i hi
 ·rw [e4,if_neg (by omega)];exact h.z7 a ha
 ·rw [e4,if_neg (by omega)] at hn;exact h.cle a n ha hn
 ·rw [e4,if_neg (by show ¬t.puts % 2=2+k;omega)];exact h.cnt h0
 ·by_cases he:i=k
  ·subst he;exact bo _ _ _
  ·rw [show (eraS t k).held i=t.held i from aN _ _ he];exact h.zero h0 i
theorem kps_three {d:Dk} {p:Nat→Nat→Option (List Int)} (hl:d.left=0) (ho:d.off=false) (hp:∀j,j<3→PhOk d.n (p j)) :
  (kps d (lsOf p d.n 3)).1.n=d.n∧(∀s,(kps d (lsOf p d.n 3)).1.pend s=none)∧∀s,(kps d (lsOf p d.n 3)).1.kept s=(p 2 s).getD ((p 1 s).getD ((p 0 s).getD (d.now s))):=by
 have e:lsOf p d.n 3=[phL (p 0) d.n,phL (p 1) d.n,phL (p 2) d.n]:=rfl
 have h0:=hp 0 (by omega)
 have h1:=hp 1 (by omega)
 have h2:=hp 2 (by omega)
 obtain ⟨a0,b0,c0⟩:=fV (phL (p 0) d.n) d hl ho
 have k0:=(fO d _ (fm (p 0) d.n)).1 a0
 rw [e,dC a0]
 generalize (phs d (phL (p 0) d.n)).1=d1 at *
 obtain ⟨a1,b1,c1⟩:=fV (phL (p 1) d.n) d1 b0 c0
 have k1:=(fO d1 _ (fm (p 1) d.n)).1 a1
 rw [dC a1]
 have k1a:∀s,(phs d1 (phL (p 1) d.n)).1.kept s=(p 1 s).getD (d1.now s):=fun s=>by
  have hh:=k1
  rw [←k0.n] at hh h1 ⊢
  exact hh.at_ h1 s
 generalize (phs d1 (phL (p 1) d.n)).1=d2 at *
 obtain ⟨a2,b2,c2⟩:=fV (phL (p 2) d.n) d2 b1 c1
 have k2:=(fO d2 _ (fm (p 2) d.n)).1 a2
 rw [dC a2]
 have k2a:∀s,(phs d2 (phL (p 2) d.n)).1.kept s=(p 2 s).getD (d2.now s):=fun s=>by
  have hh:=k2
  have e9:d2.n=d.n:=k1.n.trans k0.n
  rw [←e9] at hh h2 ⊢
  exact hh.at_ h2 s
 refine ⟨k2.n.trans (k1.n.trans k0.n),k2.pend,fun s=>?_⟩
 show (phs d2 (phL (p 2) d.n)).1.kept s=_
 rw [k2a,kP k1.pend,k1a,kP k0.pend,k0.at_ h0 s]
theorem mkPh_ok {t:Slt} {n:Nat} (h:SltOk t) (hn:64≤n) (j:Nat):PhOk n (mkPh t j):=by
 match j with
 | 0=>exact mkA_ok (by omega) hn h.ent
 | 1=>exact mkB_ok hn
 | _+2=>exact mkQ_ok (by omega) hn
theorem make_inv {d:Dk} (hl:d.left=0) (ho:d.off=false) (hn:64≤d.n) (hn2:d.n≤200) (hok:SltOk (loadS d)):Inv (makeD d) newS∧(makeD d).n=d.n∧∀s,s<26→(makeD d).kept s=zeroK:=by
 obtain ⟨e1,e2,e3⟩:=kps_three hl ho (fun j _=>mkPh_ok hok hn j)
 change (makeD d).n=d.n at e1
 change ∀s,(makeD d).pend s=none at e2
 have e4:∀s,s<26→(makeD d).kept s=zeroK:=by
  intro s hs
  have:=e3 s
  change (makeD d).kept s=_ at this
  rw [this]
  show (mkQ ((loadS d).puts % 2) s).getD ((mkB 24 s).getD ((mkA (((loadS d).puts+1) % 2) (loadS d).held 24 s).getD _))=zeroK
  unfold mkQ mkB mkA
  by_cases h1:s=(loadS d).puts % 2
  ·rw [if_pos h1];rfl
  ·rw [if_neg h1]
   by_cases h2:2≤s∧s<2+24
   ·rw [if_pos h2];rfl
   ·rw [if_neg h2,if_pos (by omega)];rfl
 refine ⟨⟨newS_ok,rfl,by rw [e1];exact hn,by rw [e1];exact hn2,e2,fun i hi=>e4 _ (by omega),fun a ha=>by rw [e4 a (by omega)];rfl,fun a n ha hh=>?_,fun h=>absurd h (by show ¬0<0;omega),fun _ _=>rfl⟩,e1,e4⟩
 rw [e4 a (by omega),ef a (by rfl)] at hh
 cases hh
theorem inv_cnt {d:Dk} {t:Slt} (h:Inv d t):cntOf d=t.puts:=by
 unfold cntOf
 rw [h.now,h.now]
 have b:∀a,a<2→(numOf a ((d.kept a).take 16)).getD 0≤t.puts:=by
  intro a ha
  cases hh:numOf a ((d.kept a).take 16) with
  | none=>exact Nat.zero_le _
  | some n=>exact (h.cle a n ha hh).1
 have b0:=b 0 (by omega)
 have b1:=b 1 (by omega)
 rcases Nat.eq_zero_or_pos t.puts with h0|h0
 ·omega
 ·have hc:=h.cnt h0
  rcases (by omega:t.puts % 2=0∨t.puts % 2=1) with e|e<;>(rw [e] at hc;rw [hc,Option.getD_some];omega)
theorem inv_load {d:Dk} {t:Slt} (h:Inv d t):loadS d=t:=by
 obtain ⟨held,puts,dead⟩:=t
 have e1:(fun i=>if i<24 then entOf i (d.now (2+i)) else none)=held:=by
  funext i
  by_cases hi:i<24
  ·rw [if_pos hi,h.now,h.slot i hi]
   exact entOf_sl i (h.ok.ent i)
  ·rw [if_neg hi]
   cases hx:held i with
   | none=>rfl
   | some x=>exact absurd (h.ok.held i x hx).1 hi
 have e2:=inv_cnt h
 have e3:dead=false:=h.dead
 unfold loadS
 rw [e1,e2,e3]
theorem inv_left {d:Dk} {t:Slt} (h:Inv d t):leftP d 24=fun _=>none:=by
 funext s
 unfold leftP
 by_cases hs:2≤s∧s<2+24∧leftAt d (s - 2)=true
 ·exfalso
  obtain ⟨i,rfl⟩:∃i,s=2+i:=⟨s - 2,by omega⟩
  have hh:=hs.2.2
  rw [Nat.add_sub_cancel_left] at hh
  unfold leftAt at hh
  rw [h.now,h.slot i (by omega)] at hh
  simp only [Bool.and_eq_true,decide_eq_true_eq] at hh
  obtain ⟨⟨h1,_⟩,h3⟩:=hh
  rw [entOf_sl i (h.ok.ent _)] at h1
  cases hx:t.held i with
  | none=>rw [hx] at h3;exact h3 rfl
  | some x=>rw [hx] at h1;cases h1
 ·rw [if_neg hs]
theorem inv_open {d:Dk} {t:Slt} (h:Inv d t):openD d=d:=by
 unfold openD
 rw [inv_left h,if_pos]
 have:pensP (fun _=>none) d.n=[]:=by unfold pensP;simp
 rw [this]
 rfl
theorem crash_kept (d:Dk) (cs:List Int) (s:Nat):(d.crash cs).kept s=d.kept s∨∃l c,d.pend s=some l∧(d.crash cs).kept s=tornOf (d.kept s) l c:=by
 show d.keptAt cs (d.rank d.n) s=_∨∃l c,_∧d.keptAt cs (d.rank d.n) s=_
 unfold Dk.keptAt
 cases hp:d.pend s with
 | none=>exact Or.inl rfl
 | some l =>
  simp only
  split
  ·exact Or.inr ⟨l,_,rfl,rfl⟩
  ·exact Or.inl rfl
theorem inv_crash {d:Dk} {t:Slt} (h:Inv d t) (cs:List Int):Inv (d.crash cs) t∧(d.crash cs).kept=d.kept:=by
 have e:(d.crash cs).kept=d.kept:=by
  funext s
  rcases crash_kept d cs s with h1|⟨l,c,h1,_⟩
  ·exact h1
  ·rw [h.pend s] at h1;cases h1
 refine ⟨⟨h.ok,h.dead,h.n,h.n2,fun _=>rfl,fun i hi=>by rw [e];exact h.slot i hi,fun a ha=>by rw [e];exact h.z7 a ha,fun a n ha hn=>by rw [e] at hn;exact h.cle a n ha hn,fun h0=>by rw [e];exact h.cnt h0,h.zero⟩,e⟩
structure Cm (d:Dk) (k:Nat):Prop where
 left:d.left=0
 off:d.off=false
 nm:d.Nm k
theorem Cm.mono {d:Dk} {k m:Nat} (h:Cm d k) (hk:k≤m):Cm d m:=⟨h.left,h.off,h.nm.mono hk⟩
theorem kps_nm:∀(ls:List (List (Nat×List Int))) (d:Dk) (k m:Nat),d.Nm k→(∀l∈ls,l.length≤m)→(kps d ls).1.Nm (k+ls.length * (m+1))
 | [],d,k,m,h,_=>h.mono (by simp)
 | l::ls,d,k,m,h,hm=>by
  have h1:=phs_nm l d k h
  have hl:=hm l (List.mem_cons_self ..)
  have hmul:(ls.length+1) * (m+1)=ls.length * (m+1)+(m+1):=by rw [Nat.add_mul,Nat.one_mul]
  cases hp:(phs d l).2 with
  | true =>
   rw [dC hp]
   exact (kps_nm ls _ _ m h1 (fun x hx=>hm x (List.mem_cons_of_mem _ hx))).mono (by rw [List.length_cons,hmul];omega)
  | false =>
   rw [fk hp]
   exact h1.mono (by rw [List.length_cons,hmul];omega)
theorem lsOf_len (p:Nat→Nat→Option (List Int)) (n K:Nat):∀l∈lsOf p n K,l.length≤n:=by
 intro l hl
 obtain ⟨j,_,rfl⟩:=List.mem_map.1 hl
 rw [kD]
 exact iM _ _
theorem kps_cm {d:Dk} {k:Nat} (h:Cm d k) (p:Nat→Nat→Option (List Int)) (K:Nat) (hn:d.n≤200) (hK:K≤3):Cm (kps d (lsOf p d.n K)).1 (k+1000)∧(kps d (lsOf p d.n K)).2=true:=by
 obtain ⟨a,b,c⟩:=k8 (lsOf p d.n K) d h.left h.off
 refine ⟨⟨b,c,(kps_nm _ d k 200 h.nm (fun l hl=>Nat.le_trans (lsOf_len p d.n K l hl) hn)).mono ?_⟩,a⟩
 rw [jO]
 have:=Nat.mul_le_mul_right 201 hK
 omega
theorem cm_put {d:Dk} {k:Nat} (h:Cm d k) (hn:d.n≤200) (t:Slt) (i:Nat) (N:Ent):Cm (putR d t i N).1 (k+1000)∧(putR d t i N).2=true:=kps_cm h _ 2 hn (by omega)
theorem cm_era {d:Dk} {k:Nat} (h:Cm d k) (hn:d.n≤200) (t:Slt) (i:Nat):Cm (eraR d t i).1 (k+1000)∧(eraR d t i).2=true:=kps_cm h _ 2 hn (by omega)
theorem cm_make {d:Dk} {k:Nat} (h:Cm d k) (hn:d.n≤200):Cm (makeD d) (k+1000):=(kps_cm h _ 3 hn (by omega)).1
theorem cm_crash {d:Dk} {k:Nat} (h:d.Nm k) (cs:List Int):Cm (d.crash cs) k:=⟨rfl,rfl,⟨h.s0,h.s1,by show (0:Int)≤0;omega,by show (0:Int)≤1000;omega⟩⟩
theorem cm_new (n:Nat):Cm (Dk.new n) 0:=⟨rfl,rfl,⟨by show (0:Int)≤0;omega,by show (0:Int)≤0;omega,by show (0:Int)≤0;omega,by show (0:Int)≤1000;omega⟩⟩
theorem new_load (n:Nat):loadS (Dk.new n)=newS:=by
 have e1:(fun i=>if i<24 then entOf i ((Dk.new n).now (2+i)) else none)=fun _=>none:=by
  funext i
  by_cases hi:i<24
  ·rw [if_pos hi];exact kE i
  ·rw [if_neg hi]
 have e2:cntOf (Dk.new n)=0:=by
  unfold cntOf
  rw [show (Dk.new n).now 0=zeroK from rfl,show (Dk.new n).now 1=zeroK from rfl,ef 0 rfl,ef 1 rfl]
  rfl
 unfold loadS
 rw [e1,e2]
 rfl
open Go Go.RowKit Go.Maps
def keyB (n:Int):List Int:=n::(List.replicate 30 0++[200])
def kS1:List Int:=[1,0,0,0,0,0,0,0,0,0,0,0,0,0,0,0,0,0,0,0,0,0,0,0,0,0,0,0,0,0,0,200]
def kS2:List Int:=[2,0,0,0,0,0,0,0,0,0,0,0,0,0,0,0,0,0,0,0,0,0,0,0,0,0,0,0,0,0,0,200]
def nonS:List Int:=[0,0,0,3,0,0,0,0,0,0,0,1]
def eKS:List Int:=[173,122,182,108,159,226,191,94,81,212,205,155,168,170,235,51,42,127,130,182,38,176,160,255,59,46,45,92,106,55,77,132]
def mKS1:List Int:=[136,213,223,54,127,242,11,253,160,50,159,168,219,105,85,94,39,185,80,6,248,232,198,237,182,173,14,233,90,209,160,120]
def mKS2:List Int:=[68,140,228,117,224,54,40,239,216,130,114,36,75,244,207,236,228,123,173,170,194,176,10,59,104,156,204,202,87,61,248,158]
def msgDE:List Int:=[101,110,99,0,0,0,0,1]
def innDE:List Int:=[56,190,214,18,210,124,58,84,199,45,24,220,139,200,166,121,255,222,97,225,45,58,97,15,171,8,42,132,134,139,29,29]
def msgDM:List Int:=[109,97,99,0,0,0,0,1]
def innDM:List Int:=[18,189,190,57,73,241,102,79,147,82,156,166,204,164,109,225,6,172,114,171,189,41,164,167,66,96,22,111,119,44,98,27]
def msgDN:List Int:=[109,97,99,0,0,0,0,1]
def innDN:List Int:=[128,69,49,108,224,82,82,80,232,221,233,9,219,234,31,211,20,154,210,253,38,97,117,146,28,33,113,130,217,75,228,216]
def blkS:List Int:=[66,53,156,60,34,17,204,245,187,113,102,221,202,155,158,203,26,244,219,150,6,17,158,13,19,93,101,5,143,74,170,27,165,177,165,192,243,72,220,206,98,189,219,72,11,107,178,153,153,102,106,145,231,154,147,11,104,228,21,184,253,219,190,125]
def cS:List Int:=[64,53,156,60,34,17,204,245,187,113,102,221,202,155,158,203,26,244,219,150,6,17,158,13,19,93,101,5,143,74,170,211]
def tS1:List Int:=[117,83,115,253,190,70,221,235,18,61,153,254,165,132,97,34]
def tS2:List Int:=[3,209,248,240,108,212,217,161,103,87,205,202,139,233,3,242]
def msgTA:List Int:=[0,0,0,0,0,0,0,4,119,114,97,112,0,0,0,3,0,0,0,0,0,0,0,1,64,53,156,60,34,17,204,245,187,113,102,221,202,155,158,203,26,244,219,150,6,17,158,13,19,93,101,5,143,74,170,211]
def innTA:List Int:=[191,253,52,91,132,238,185,24,121,3,15,198,123,126,190,191,196,221,170,107,90,163,173,84,56,113,45,149,197,236,255,58]
def msgTB:List Int:=[0,0,0,0,0,0,0,4,119,114,97,112,0,0,0,3,0,0,0,0,0,0,0,1,64,53,156,60,34,17,204,245,187,113,102,221,202,155,158,203,26,244,219,150,6,17,158,13,19,93,101,5,143,74,170,211]
def innTB:List Int:=[44,177,88,205,199,152,111,128,147,79,166,26,112,251,80,219,208,205,91,7,131,57,222,183,79,131,193,185,210,114,133,87]
open Go Go.RowKit Go.Maps
theorem made_intS:(Tryz.prog.info? 3).map (fun i=>(i.zero,i.size,i.bytes))=some (some (.int .i64 0),1,8):=by kernel_rfl
theorem info_intS:(Tryz.prog.info? 3).map (fun i=>(i.zero,i.size))=some (some (.int .i64 0),1):=by kernel_rfl
section
variable {ops:Array Oper} {rest:List Oper} {a:Act} {w:World} {Q:Exit→Act→World→Prop} {dst:Option Tmp} {typ:TypeId} {pos:String} {aft:Array Edge}
theorem wpl_mkInts {x y:Operand} (c:Nat) (hc:c≤400) {j:Int} (hx:a.eval x=.int .i64 0) (hy:a.eval y=.int .i64 j) (hj:j=(c:Int))
  (h:∀w' v,Below w.heap.size w w'→w'.ownsRow w.heap.size 3 1 v 0 []→wpList Tryz.prog ops Q rest (a.put dst v) w') :
  wpList Tryz.prog ops Q ({dst:=dst,op:=.makeSlice 30 x y,type:=typ,pos:=pos,after:=aft,guard:=none}::rest) a w:=by
 subst hj
 refine wpList_plain rfl fun K hK=>?_
 have hi:=made_intS
 cases hq:Tryz.prog.info? 3 with
 | none=>simp [hq] at hi
 | some q =>
  simp only [hq,Option.map_some,Option.some.injEq,Prod.mk.injEq] at hi
  obtain ⟨w',hr,ho,hg⟩:=run_make_own (P:=Tryz.prog) w w.heap.size 30 3 q (.int .i64 0) 1 fw hq hi.1 hi.2.1 .i64 .i64 c (by rw [hi.2.2];omega) (by unfold maxLen;omega) (Nat.le_refl _)
  have hh:=hK _ _ (h w' _ ⟨hg.os,hg.tape,hg.output,hg.size,fun k hk=>hg.block k hk (by simp)⟩ ho)
  unfold Oper.wp execOp
  simp only [hx,hy,hr,Sem.run_bind,Sem.run_pure,Result.andThen_ok]
  exact hh
end
section
variable {P:Program} {ops:Array Oper} {rest:List Oper} {a:Act} {w w0:World} {Q:Exit→Act→World→Prop} {dst:Option Tmp} {typ:TypeId} {pos:String} {aft:Array Edge} {gd:Option (Nat×Bool)} {S:List Nat} {rows:List (Nat×List Value×TypeId)}
theorem ky {s x:Operand} {t e:TypeId} (z:Value) (K bytes:Nat) (hw:Region.wanted {dst:=dst,op:=.call {callee:=.builtin .append,args:=#[s,x],argTypes:=#[t,t]},type:=typ,pos:=pos,after:=aft,guard:=gd} (yielded ops a.tmps)=true)
  (ht:P.underlying t=some (.slice e)) (hi:(P.info? e).map (fun i=>(i.zero,i.size,i.bytes))=some (some z,K,bytes)) (hz:z.cells.size=K) (hK0:0<K) (hby:bytes≤100) {v:Value} {n base g:Nat} {cs new:List Value} (hown:w.ownsRow base e K v n cs) (hbase:base≤w.heap.size)
  (hs:a.eval s=v) (hx:a.eval x=.slice (some ⟨g,0,none⟩) 1 1) (hr:Row w g new e) (hl:new.length=K) (h1:∀u∈new,u.oneCell'=true) (hn:n≤100000)
  (h:∀v' w',w'.ownsRow base e K v' (n+1) (cs++new)→w.grownBy w' v.ownBlock→(v'.ownBlock=v.ownBlock∨v'.ownBlock=some w.heap.size)→wpList P ops Q rest (a.put dst v') w') :
  wpList P ops Q ({dst:=dst,op:=.call {callee:=.builtin .append,args:=#[s,x],argTypes:=#[t,t]},type:=typ,pos:=pos,after:=aft,guard:=gd}::rest) a w:=by
 cases hq:P.info? e with
 | none=>simp [hq] at hi
 | some i =>
  simp only [hq,Option.map_some,Option.some.injEq,Prod.mk.injEq] at hi
  obtain ⟨hz1,h2,h3⟩:=hi
  have hbd:(n+1) * bytes≤140737488355328:=by
   have:=Nat.mul_le_mul (show n+1≤100001 by omega) hby
   omega
  obtain ⟨v',w',hrun,ho,hg,_,hb⟩:=run_append_own_at (P:=P) w base t typ e i z K bytes ht hq hz1 h2 h3 hz hK0 v n cs hown ⟨g,0,none⟩ 1 1 new (by rw [hl];omega) (fun j u hu=>by rw [bK,Nat.zero_add,hr.cell j];exact hu) h1 (by unfold maxLen;omega) hbd hbase
  refine wpList_step fun K hK=>?_
  rw [if_pos hw]
  have hh:=hK _ _ (h v' w' ho hg hb)
  unfold Oper.wp execOp
  simp only [resolve,invoke,builtin,Sem.run_bind,Sem.run_pure,Result.andThen_ok,List.map_toArray,List.map_cons,List.map_nil,hs,hx,hrun]
  exact hh
end
theorem eD {w w':World} {base n:Nat} {e:TypeId} {v:Value} {cs:List Value} (h:w.ownsRow base e 1 v n cs) (hb:Below w.heap.size w w'):w'.ownsRow base e 1 v n cs:=World.ownsRow.kept h (bE hb) (by cases h':v.ownBlock<;>simp)
theorem iC {w wr w':World} {e:TypeId} {n:Nat} {v:Value} {cs:List Value} (hb:Below w.heap.size w wr) (h:wr.ownsRow w.heap.size e 1 v n cs) (hg:wr.grownBy w' v.ownBlock):Below w.heap.size w w' :=
 ⟨hg.os.trans hb.os,hg.tape.trans hb.tape,hg.output.trans hb.output,Nat.le_trans hb.size hg.size,fun k hk=>(hg.block k (Nat.lt_of_lt_of_le hk hb.size) (fun he=>by have:=(World.ownsRow.lt h k he.symm).1;omega)).trans (hb.block k hk)⟩
def usedL (held:Nat→Option Ent) (i:Nat):List Nat:=(List.range i).filter fun j=>(held j).isSome
theorem ku (held:Nat→Option Ent) (i:Nat):usedL held (i+1)=usedL held i++(if (held i).isSome=true then [i] else []):=by
 unfold usedL
 rw [List.range_succ,List.filter_append]
 congr 1
 cases h:(held i).isSome<;>simp [h]
theorem usedL_le (held:Nat→Option Ent) (i:Nat):(usedL held i).length≤i:=by
 unfold usedL
 exact Nat.le_trans (List.length_filter_le _ _) (by simp)
def intsL (l:List Nat):List Value:=l.map fun j:Nat=>Value.int .i64 (j:Int)
theorem ints_of {w:World} {base:Nat} {v:Value} {ks:List Nat} (h:w.ownsRow base 3 1 v ks.length (intsL ks)):Ints w base v ks:=by
 have h0:=h
 rcases h.2 with ⟨rfl,hz⟩|⟨gb,cap,cur,rfl,hbase,hgb,r1,r2,r3,r4⟩
 ·exact ⟨none,0,by rw [hz],fun h=>absurd h (by omega)⟩
 ·refine ⟨_,cap,rfl,fun _=>⟨gb,rfl,hbase,(Array.getElem?_eq_some_iff.1 hgb).1,fun j i hj=>?_⟩⟩
  have:=World.ownsRow.cells h0 rfl j (.int .i64 (i:Int)) (by simp [intsL,hj])
  rw [bK,Nat.zero_add] at this
  exact this
def freeFrom (held:Nat→Option Ent):Nat→Nat→Int
 | 0,_ => -1
 | k+1,i=>if (held i).isSome=true then freeFrom held k (i+1) else (i:Int)
def freeI (held:Nat→Option Ent):Int:=freeFrom held 24 0
theorem used_any (g mb:Nat) (kv:Value) (sb hb:Nat) (d:Dk) (t:Slt) (w:World) (h:SlAt w g mb kv sb hb d t) :
  Calls Tryz.prog 24 #[.pointer (some ⟨sb,0,none⟩)] w fun e w'=>∃v,e=.returned v∧Ints w' w.heap.size v (usedL t.held 24)∧Below w.heap.size w w':=by
 have HA:Hid (SlAt w g mb kv sb hb d t):=h
 obtain ⟨q,hq,hk⟩:=h.map
 obtain ⟨c,hc,hlen⟩:=hk.lenRun eQ 3
 have HLEN:Hid _:=hlen
 have hc2:c≤400:=by have:=h.ok.puts;omega
 have HB0:Hid (Below w.heap.size w w):=Below.refl _ _
 clear h hk hlen hq hc
 go_enter Tryz.func24,Tryz.ntmps24
 go_wp2_with (first
  | ((with_reducible refine ae (some 10) (.load 105 (.tmp 9)) ?_);go_must (refine bx (.map (some hb)) ((SlAt.cell HA.out 1).trans rfl) rfl dh ?_))
  | ((with_reducible refine ae (some 11) (.call {callee:=.builtin .len,args:=#[.tmp 10],argTypes:=#[105]}) ?_);go_must (refine aj (.int .i64 (c:Int)) rfl (jd HLEN.out rfl) ?_))
  | ((with_reducible refine ae (some 12) (.makeSlice 30 (.const (.int .i64 0)) (.tmp 11)) ?_);go_must (refine wpl_mkInts c hc2 rfl rfl rfl ?_);intro w1 v1 hb1 ho1;have HB1:Hid (Below w.heap.size w w1):=hb1;have HO1:Hid (w1.ownsRow w.heap.size 3 1 v1 0 []):=ho1;clear hb1 ho1))
 go_loopw [3,13] (fun vu vi wr=>∃i:Nat,i≤24∧vi=.int .i64 (i:Int)∧Hid (Below w.heap.size w wr)∧Hid (wr.ownsRow w.heap.size 3 1 vu (usedL t.held i).length (intsL (usedL t.held i)))) (fun _ vi _=>24 - (intOf vi).toNat)
 case atStart=>exact ⟨0,by omega,rfl,HB1.out,HO1.out⟩
 case round =>
  clear HB1 HO1
  obtain ⟨i,hi,rfl,HB,HO⟩:=hrel
  by_cases hlt:i<24
  ·have hli:(i:Int)<24:=by omega
   obtain ⟨X,hX⟩:∃X,X=(t.held i).getD noEnt:=⟨_,rfl⟩
   have HEL:Hid ((entL X).length=49):=by rw [hX];exact a6 (HA.out.ok.len i)
   have hm:=Mem.start wr
   cases hs:(t.held i).isSome with
   | true =>
    have HX:Hid ((t.held i).getD noEnt=X∧(t.held i).isSome=true):=⟨hX.symm,hs⟩
    have HM:Hid (usedL t.held (i+1)=usedL t.held i++[i]):=by show _=_;rw [ku,if_pos hs]
    clear hX hs
    go_wp2_with (first
     | ((with_reducible refine ae (some 20) (.load 105 (.tmp 19)) ?_);go_must (refine bx (.map (some hb)) ((SlAt.cell (HA.out.below HB.out) 1).trans rfl) rfl dh ?_))
     | ((with_reducible refine ae (some 22) (.lookup 105 (.tmp 20) (.tmp 21) true) ?_);go_must (refine aj (.tuple #[.agg (entL X).toArray,.bool true]) rfl (bi (by have h9:=SlAt.look (HA.out.below HB.out) i (by omega);rw [HX.out.1,HX.out.2] at h9;exact h9) rfl rfl) ?_))
     | ((with_reducible refine ae (some 5) (.alloc 111) ?_);refine ag _ b8 hm ?_;clear hm;intro w3 g8 hm)
     | ((with_reducible refine ae none (.store 111 (.tmp 5) (.tmp 23)) ?_);refine ah 0 (entL X) hm rfl rfl rfl 49 cO (a6 (by simp [noEnt])) HEL.out (dq _) ?_;clear hm;intro w4 hm)
     | ((with_reducible refine ae (some 28) (.buildSlice 30 1 #[(0,.tmp 27)]) ?_);go_must (refine bM rfl (.int .i64 0) (.int .i64 (i:Int)) fw info_intS rfl rfl rfl hm ?_);clear hm;intro w6 g6 hb6 hm)
     | ((with_reducible refine ae (some 29) (.call {callee:=.builtin .append,args:=#[.tmp 26,.tmp 28],argTypes:=#[30,30]}) ?_);go_must (refine ky (.int .i64 0) 1 8 rfl fw made_intS rfl (by omega) (by omega) (eD HO.out hm.below) (Nat.le_trans HB.out.size hm.below.size) rfl rfl (hm.get 0 rfl) rfl (by intro u hu;simp only [List.mem_cons,List.not_mem_nil,or_false] at hu;subst hu;rfl) (by have:=usedL_le t.held i;omega) ?_);intro v7 w7 ho7 hg7 hd7;have HO7:Hid (w7.ownsRow w.heap.size 3 1 v7 ((usedL t.held i).length+1) (intsL (usedL t.held i)++[.int .i64 (i:Int)])):=ho7;have HB7:Hid (Below w.heap.size w w7):=iC (HB.out.trans (hm.below.mono HB.out.size)) (eD HO.out hm.below) hg7;clear ho7 hg7 hd7))
    go_roundw
    case rel =>
     refine ⟨i+1,by omega,by go_num,HB7.out,?_⟩
     show World.ownsRow _ _ _ _ _ _ _
     rw [HM.out,show (usedL t.held i++[i]).length=(usedL t.held i).length+1 by simp,show intsL (usedL t.held i++[i])=intsL (usedL t.held i)++[.int .i64 (i:Int)] by simp [intsL]]
     exact HO7.out
    case measure=>simp [intOf];omega
   | false =>
    have HX:Hid ((t.held i).getD noEnt=X∧(t.held i).isSome=false):=⟨hX.symm,hs⟩
    have HM:Hid (usedL t.held (i+1)=usedL t.held i):=by show _=_;rw [ku,if_neg (by rw [hs];simp),List.append_nil]
    clear hX hs
    go_wp2_with (first
     | ((with_reducible refine ae (some 20) (.load 105 (.tmp 19)) ?_);go_must (refine bx (.map (some hb)) ((SlAt.cell (HA.out.below HB.out) 1).trans rfl) rfl dh ?_))
     | ((with_reducible refine ae (some 22) (.lookup 105 (.tmp 20) (.tmp 21) true) ?_);go_must (refine aj (.tuple #[.agg (entL X).toArray,.bool false]) rfl (bi (by have h9:=SlAt.look (HA.out.below HB.out) i (by omega);rw [HX.out.1,HX.out.2] at h9;exact h9) rfl rfl) ?_))
     | ((with_reducible refine ae (some 5) (.alloc 111) ?_);refine ag _ b8 hm ?_;clear hm;intro w3 g8 hm)
     | ((with_reducible refine ae none (.store 111 (.tmp 5) (.tmp 23)) ?_);refine ah 0 (entL X) hm rfl rfl rfl 49 cO (a6 (by simp [noEnt])) HEL.out (dq _) ?_;clear hm;intro w4 hm))
    go_roundw
    case rel=>exact ⟨i+1,by omega,by go_num,HB.out.trans (hm.below.mono HB.out.size),by show World.ownsRow _ _ _ _ _ _ _;rw [HM.out];exact eD HO.out hm.below⟩
    case measure=>simp [intOf];omega
  ·have hi24:i=24:=by omega
   have hli:¬(i:Int)<24:=by omega
   subst hi24
   go_wp2_with fail
   go_ret
   exact ⟨_,rfl,ints_of HO.out,HB.out⟩
end Go.Proofs.YtlpnafdkhoimhaaGreatDoor
