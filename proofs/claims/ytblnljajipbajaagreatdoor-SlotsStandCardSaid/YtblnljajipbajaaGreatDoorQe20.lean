import Derived.Test.YtblnljajipbajaaGreatDoorQe19
import Derived.Test.YtblnljajipbajaaGreatDoorQe18
set_option maxRecDepth 100000
set_option maxHeartbeats 4000000
namespace Go.Proofs.YtblnljajipbajaaGreatDoor
open Go Go.RowKit Go.Maps Go.Shelf
def entN (t:Slt) (k:Nat) (kek key:List Int):Ent:=(t.puts+1,sealOf kek (nonceOf (k:Int) ((t.puts+1:Nat):Int)) labWrap key)
theorem entN_ok {t:Slt} {k:Nat} {kek key:List Int} (hp:t.puts<200) (hl:key.length=32) (hb:Bytes key):EntOk (entN t k kek key) :=
 ⟨by show 0<t.puts+1;omega,by show t.puts+1≤200;omega,by show (sealOf _ _ _ _).length=48;rw [dm,hl],fo _ _ _ hb⟩
def putPh (t:Slt) (k:Nat) (N:Ent) (j:Nat):Nat→Option (List Int) :=
 if j=0 then ph2 ((t.puts+1) % 2) (cntC (t.puts+1)) (2+k) (unE ((t.held k).getD noEnt)) true true else ph1 (2+k) (mkC k N) true
def putR (d:Dk) (t:Slt) (k:Nat) (N:Ent):Dk×Bool:=kps d (lsOf (putPh t k N) d.n 2)
def putS (t:Slt) (k:Nat) (N:Ent):Slt:=⟨upf t.held k (some N),t.puts+1,t.dead⟩
theorem unE_bytes {x:Ent} (h:Bytes x.2):Bytes (unE x):=h.append (Bytes.zeros 16)
theorem jL {t:Slt} (h:SltOk t) (k:Nat):Bytes ((t.held k).getD noEnt).2:=by
 cases hx:t.held k with
 | none=>exact Bytes.zeros 48
 | some x=>exact (h.held k x hx).2.bytes
theorem ph1_ok {n k:Nat} {v:List Int} (hk:k<n) (hl:v.length=64) (hb:Bytes v) (f:Bool):PhOk n (ph1 k v f):=⟨fun i l hi=>by
 unfold ph1 at hi
 split at hi
 ·rename_i hh
  simp only [Option.some.injEq] at hi
  subst hi
  exact ⟨by omega,hl,hb⟩
 ·cases hi⟩
theorem ph2_ok {n k1 k2:Nat} {v1 v2:List Int} (h1:k1<n) (h2:k2<n) (hl1:v1.length=64) (hb1:Bytes v1) (hl2:v2.length=64) (hb2:Bytes v2) (f1 f2:Bool):PhOk n (ph2 k1 v1 k2 v2 f1 f2):=⟨fun i l hi=>by
 unfold ph2 at hi
 split at hi
 ·rename_i hh
  simp only [Option.some.injEq] at hi
  subst hi
  exact ⟨by omega,hl1,hb1⟩
 ·split at hi
  ·rename_i hh
   simp only [Option.some.injEq] at hi
   subst hi
   exact ⟨by omega,hl2,hb2⟩
  ·cases hi⟩
theorem fK {t:Slt} {k n:Nat} {N:Ent} (hok:SltOk t) (hN:EntOk N) (hk:k<24) (hn:64≤n) (j:Nat):PhOk n (putPh t k N j):=by
 unfold putPh
 split
 ·exact ph2_ok (by omega) (by omega) (iX _) (cntC_bytes _) (eF (hok.len k)) (unE_bytes (jL hok k)) _ _
 ·exact ph1_ok (by omega) (jv hN.len) (mkC_bytes hN.bytes) _
/-- keep, of two phases. -/
theorem keep_two (g mb:Nat) (kv:Value) (d:Dk) (k0:Nat) (p:Nat→Nat→Option (List Int)) (hk0:k0≤1000000) (hn:d.n≤200) (hp:∀j,j<2→PhOk d.n (p j)) (hnu:d.Nm k0) (B:Nat) (hB:∀q∈foot g mb kv,q<B) (w:World) (mA mB bs:Nat) (hd:DkAt w g mb kv d) (hbs:B≤bs) (hr:Row w bs [.map (some mA),.map (some mB)] 69) (hA:PhM w mA (p 0)) (hAB:B≤mA) (hPB:PhM w mB (p 1)) (hBB:B≤mB) :
  Calls Tryz.prog 31 #[.pointer (some ⟨g,0,none⟩),.slice (some ⟨bs,0,none⟩) 2 2] w fun e w'=>e=.returned (.int .i64 (kcode (kps d (lsOf p d.n 2)).2))∧DkAt w' g mb kv (kps d (lsOf p d.n 2)).1∧UpdS (foot g mb kv) w w' :=
 jZ g mb kv d 2 k0 bs (fun j=>if j=0 then mA else mB) p (by omega) hk0 hn hp hnu w hd (fun h=>by have:=hB _ h;omega) hr.lt
  (fun j hj=>by rcases (by omega:j=0∨j=1) with rfl|rfl<;>(rw [hr.cell];rfl))
  (fun j hj=>by
   rcases (by omega:j=0∨j=1) with rfl|rfl
   ·exact ⟨hA,fun h=>by have h9:mA∈foot g mb kv:=h;have:=hB _ h9;omega⟩
   ·exact ⟨hPB,fun h=>by have h9:mB∈foot g mb kv:=h;have:=hB _ h9;omega⟩)
theorem put_good (g mb:Nat) (kv:Value) (sb hb:Nat) (d:Dk) (t:Slt) (k:Nat) (hk:k<24) (kek key:List Int) (k0:Nat) (hkl:kek.length=32) (hkb:Bytes kek) (hyl:key.length=32) (hyb:Bytes key) (hdd:t.dead=false) (hpu:t.puts<200) (hn:64≤d.n) (hn2:d.n≤200) (hnm:d.Nm k0) (hk0:k0≤1000000) (w:World) (ht:Tab w) (hq:QTab w) (h:SlAt w g mb kv sb hb d t) (hr2:(putR d t k (entN t k kek key)).2=true) :
  Calls Tryz.prog 13 #[.pointer (some ⟨sb,0,none⟩),.int .i64 (k:Int),.agg (u8s kek).toArray,.agg (u8s key).toArray] w fun e w'=>e=.returned (.int .i64 0)∧SlAt w' g mb kv sb hb (putR d t k (entN t k kek key)).1 (putS t k (entN t k kek key))∧UpdS (footS g mb kv sb hb) w w':=by
 have HA:Hid (SlAt w g mb kv sb hb d t):=h
 have HT:Hid (Tab w):=ht
 have HQT:Hid (QTab w):=hq
 have HKL:Hid (kek.length=32):=hkl
 have HKU:Hid ((u8s kek).length=32):=by show _=_;rw [aa,hkl]
 have HKB:Hid (Bytes kek):=hkb
 have HYL:Hid (key.length=32):=hyl
 have HYU:Hid ((u8s key).length=32):=by show _=_;rw [aa,hyl]
 have HYB:Hid (Bytes key):=hyb
 have HDD:Hid (t.dead=false):=hdd
 have HN1:Hid (64≤d.n):=hn
 have HN2:Hid (d.n≤200):=hn2
 have HNM:Hid (d.Nm k0):=hnm
 have HRF:Hid (refI t (k:Int)=0):=by
  show _=_
  unfold refI okI
  rw [if_neg (by rw [hdd];simp),if_pos (decide_eq_true (by omega))]
 obtain ⟨p,hp⟩:∃p,p=t.puts+1:=⟨_,rfl⟩
 have hp2:p≤200:=by omega
 have HP:Hid (∀_:Unit,t.puts+1=p):=fun _=>hp.symm
 have HPC:Hid (∀_:Unit,(t.puts:Int)=(p:Int) - 1):=fun _=>by omega
 have HW1:IntKind.u64.wrap ((t.puts:Int)+1)=(p:Int):=by rw [show (t.puts:Int)+1=(p:Int) by omega];exact iz p (by omega)
 have HWK:IntKind.u32.wrap (k:Int)=(k:Int):=wrapUi k hk
 obtain ⟨S,hS⟩:∃S,S=sealOf kek (nonceOf (k:Int) (p:Int)) labWrap key:=⟨_,rfl⟩
 have HS:Hid (∀_:Unit,sealOf kek (nonceOf (k:Int) (p:Int)) labWrap key=S):=fun _=>hS.symm
 obtain ⟨N,hN⟩:∃N:Ent,N=(p,S):=⟨_,rfl⟩
 have HNN:Hid (∀_:Unit,entN t k kek key=N):=fun _=>by rw [hN,hS,hp];rfl
 have HNO:Hid (EntOk N):=by rw [←HNN.out ()];exact entN_ok hpu hyl hyb
 have HEL:Hid ((entL N).length=49):=aJ HNO.out.len
 have HBE:Hid (Tryz.prog.built 79 [(0,.int .u64 (p:Int)),(1,.agg (u8s S).toArray)]=some (entL N).toArray):=by
  have h9:=HNO.out.len
  rw [hN] at h9 ⊢
  exact built_ent p S h9
 obtain ⟨X,hX⟩:∃X,X=(t.held k).getD noEnt:=⟨_,rfl⟩
 have HX:Hid (∀_:Unit,(t.held k).getD noEnt=X):=fun _=>hX.symm
 have HXL:Hid (X.2.length=48):=by show _=_;rw [hX];exact h.ok.len k
 obtain ⟨R,hR⟩:∃R,R=putR d t k N:=⟨_,rfl⟩
 have HR:Hid (∀_:Unit,putR d t k N=R):=fun _=>hR.symm
 have HPH0:Hid (∀_:Unit,putPh t k N 0=ph2 (p % 2) (cntC p) (2+k) (unE X) true true):=fun _=>by rw [hp,hX];rfl
 have HPH1:Hid (∀_:Unit,putPh t k N 1=ph1 (2+k) (mkC k N) true):=fun _=>rfl
 have hm:=Mem.start w
 rw [HNN.out (),←hR] at hr2 ⊢
 have HCT:Hid (kcode R.2=0):=by show _=_;rw [hr2];rfl
 clear hr2 h ht hq hkl hkb hyl hyb hdd hn hn2 hnm hp hS hN hX hR
 go_enter Tryz.func13,Tryz.ntmps13
 go_wp2_with (first
  | ((with_reducible refine ab (some 6) (.box 39 (.tmp 2)) ?_);refine au (u8s kek) rfl hm ?_;clear hm;intro w1 g6 hm)
  | ((with_reducible refine ab (some 7) (.box 39 (.tmp 3)) ?_);refine au (u8s key) rfl hm ?_;clear hm;intro w2 g7 hm)
  | (go_at_call 32;refine (fO g mb kv sb hb d t (k:Int) _ (HA.out.below hm.below)).mono ?_;rintro e w3 ⟨he,hw3⟩;rw [HRF.out] at he;subst he;replace hw3:=hw3.symm;subst hw3)
  | ((with_reducible refine ab (some 22) (.load 50 (.tmp 21)) ?_);go_must (refine bj (.int .u64 (t.puts:Int)) ((SlAt.cell (HA.out.below hm.below) 2).trans rfl) rfl ag_u64 ?_))
  | ((with_reducible refine ab (some 25) (.load 39 (.tmp 6)) ?_);refine aw 1 hm rfl rfl _ ar rfl 32 am (HKU.out) ?_)
  | ((with_reducible refine ab (some 29) (.load 39 (.tmp 7)) ?_);refine aw 0 hm rfl rfl _ ar rfl 32 am (HYU.out) ?_)
  | (go_at_call 33;refine (wrap_any kek key (k:Int) (p:Int) HKL.out HYL.out HKB.out HYB.out (by omega) _ (Tab.mem HT.out hm (by simp)) (QTab.mem HQT.out hm (by simp))).mono ?_;rintro e w4 ⟨he,hb4⟩;rw [HS.out ()] at he;subst he;replace hm:=hm.call hb4;clear hb4)
  | ((with_reducible refine ab (some 31) (.build 79 #[(0,.tmp 24),(1,.tmp 30)]) ?_);go_must (refine a8 (entL N) _ rfl HBE.out ?_))
  | ((with_reducible refine ab (some 11) (.alloc 79) ?_);refine af _ bN hm ?_;clear hm;intro w5 g11 hm)
  | ((with_reducible refine ab none (.store 79 (.tmp 11) (.tmp 31)) ?_);refine ah 0 (entL N) hm rfl rfl rfl 49 cK (aJ (by simp [noEnt])) HEL.out (dl _) ?_;clear hm;intro w6 hm))
 have HG11:Hid (g11 ∉ foot g mb kv∧w.heap.size≤g11):=by
  have hf:=hm.fresh _ (List.mem_cons_self ..)
  simp only [List.not_mem_nil,false_or] at hf
  exact ⟨fun h=>by have:=HA.out.dk.lt _ h;omega,hf⟩
 refine ax ?_
 refine aY (T:=fun W=>(∃d2,SlAt W g mb kv sb hb d2 t)∧Row W g11 (entL N) 79) (by kernel_rfl) hm ?_
 intro wc hbw hmw
 have HR1:Hid (SlAt wc g mb kv sb hb d t):=HA.out.below hmw.below
 have HBW:Hid (Below w.heap.size w wc):=hmw.below
 have HRW:Hid (Row wc g11 (entL N) 79):=hmw.get 0 rfl
 have HW:Hid ((∃d2,SlAt wc g mb kv sb hb d2 t)∧Row wc g11 (entL N) 79):=⟨⟨d,HR1.out⟩,HRW.out⟩
 clear hm hbw hmw
 refine aT 0 (v:=.pointer (some ⟨sb,0,none⟩)) rfl (by kernel_rfl) rfl (fun W _=>by go_simp) HW.out ?_
 go_simp
 refine aT 1 (v:=.pointer (some ⟨sb,0,none⟩)) rfl (by kernel_rfl) rfl (fun W _=>by go_simp) HW.out ?_
 go_simp
 refine aT 2 (v:=.pointer (some ⟨sb,0,none⟩)) rfl (by kernel_rfl) rfl (fun W _=>by go_simp) HW.out ?_
 go_simp
 refine aT 3 (v:=.pointer (some ⟨g,0,none⟩)) rfl (by kernel_rfl) rfl (fun W hW=>by obtain ⟨⟨d2,h2⟩,_⟩:=hW;exact dz ((SlAt.cell h2 0).trans rfl) rfl ag_dkp) HW.out ?_
 go_simp
 refine aT 5 (v:=.int .u64 (p:Int)) rfl (by kernel_rfl) rfl (fun W _=>by go_simp) HW.out ?_
 go_simp
 refine aT 7 (v:=.int .u64 (p:Int)) rfl (by kernel_rfl) rfl (fun W _=>by go_simp) HW.out ?_
 go_simp
 refine aT 10 (v:=.int .i64 (k:Int)) rfl (by kernel_rfl) rfl (fun W _=>by go_simp) HW.out ?_
 go_simp
 refine aT 12 (v:=.pointer (some ⟨sb,0,none⟩)) rfl (by kernel_rfl) rfl (fun W _=>by go_simp) HW.out ?_
 go_simp
 refine aT 13 (v:=.pointer (some ⟨sb,0,none⟩)) rfl (by kernel_rfl) rfl (fun W _=>by go_simp) HW.out ?_
 go_simp
 refine aT 14 (v:=.pointer (some ⟨sb,1,none⟩)) rfl (by kernel_rfl) rfl (fun W _=>by go_simp) HW.out ?_
 go_simp
 refine aT 15 (v:=.map (some hb)) rfl (by kernel_rfl) rfl (fun W hW=>by obtain ⟨⟨d2,h2⟩,_⟩:=hW;exact dz ((SlAt.cell h2 1).trans rfl) rfl dh) HW.out ?_
 go_simp
 refine aT 16 (v:=.int .i64 (k:Int)) rfl (by kernel_rfl) rfl (fun W _=>by go_simp) HW.out ?_
 go_simp
 refine aT 17 (v:=.agg (entL X).toArray) rfl (by kernel_rfl) rfl (fun W hW=>by obtain ⟨⟨d2,h2⟩,_⟩:=hW;have h9:=SlAt.look1 h2 k (by omega);rw [HX.out ()] at h9;exact cf h9 rfl rfl) HW.out ?_
 go_simp
 refine aT 22 (v:=.int .i64 (k:Int)) rfl (by kernel_rfl) rfl (fun W _=>by go_simp) HW.out ?_
 go_simp
 refine aT 24 (v:=.agg (entL N).toArray) rfl (by kernel_rfl) rfl (fun W hW=>bR 0 _ hW.2 rfl _ Tryz.underlying79 rfl 49 cK (by rw [HEL.out];omega) (by rw [List.drop_zero,List.take_of_length_le (by rw [HEL.out];omega)])) HW.out ?_
 go_simp
 refine aT 25 (v:=.int .i64 (k:Int)) rfl (by kernel_rfl) rfl (fun W _=>by go_simp) HW.out ?_
 go_simp
 refine PutI_dag rfl rfl rfl rfl rfl rfl rfl rfl rfl rfl rfl rfl rfl rfl rfl rfl rfl (by kernel_rfl) (by kernel_rfl) (by kernel_rfl) (by kernel_rfl) (by kernel_rfl) (by kernel_rfl) (by kernel_rfl) (by kernel_rfl) (by kernel_rfl) _ rfl wc g mb kv sb hb d R.1 t p k X N 0 rfl rfl rfl rfl rfl rfl rfl rfl (by omega) hk HXL.out HNO.out.len (HT.out.below HBW.out) (fun q hq=>HA.out.two q (by simp [footS,hq])) (fun w9 mA mB bs hdk hup hbs hrow hpA hgA hpB hgB=>by have h9:=keep_two g mb kv d k0 (putPh t k N) hk0 HN2.out (fun j _=>fK HA.out.ok HNO.out hk HN1.out j) HNM.out wc.heap.size (fun q hq=>HR1.out.dk.lt q hq) w9 mA mB bs hdk hbs hrow (by rw [HPH0.out ()];exact hpA) hgA (by rw [HPH1.out ()];exact hpB) hgB;rw [show kps d (lsOf (putPh t k N) d.n 2)=R from HR.out (),HCT.out] at h9;exact h9) (fun w9 d9 hs9 hu9=>⟨⟨d9,hs9⟩,hu9.row HRW.out HG11.out.1⟩) _ _ rfl (Nat.le_of_ble_eq_true (by kernel_rfl)) (by kernel_rfl) (by kernel_rfl) _ (UpdS.refl _ _) HR1.out HR1.out ?_
 intro w7 mA mB bs hs7 hu7
 have HS7:Hid (SlAt w7 g mb kv sb hb R.1 t):=hs7
 have HU7:Hid (UpdS (foot g mb kv) w w7):=(UpdS.of_below HBW.out).trans hu7
 have HR7:Hid (Row w7 g11 (entL N) 79):=hu7.row HRW.out HG11.out.1
 clear hs7 hu7 HW HRW
 simp only [laidL]
 have HFS:Hid (∀q∈foot g mb kv,q∈footS g mb kv sb hb):=fun q hq=>by simp [footS,hq]
 have hm:=Mem.enter HS7.out.row
 go_wp2_with (first
  | ((with_reducible refine ab none (.store 50 (.tmp 68) (.tmp 66)) ?_);go_must (refine aD 0 2 (.int .u64 (p:Int)) hm rfl rfl rfl sz_u64 (by simp) rfl rfl ?_);clear hm;intro w8 hm))
 have HR8:Hid (Row w8 sb [.pointer (some ⟨g,0,none⟩),.map (some hb),.int .u64 (p:Int),.bool t.dead] 75):=hm.get 0 rfl
 have HUS:Hid (Upd sb w7 w8):=hm.toUpd
 have HGS:Hid (g11≠sb):=by
  have h8:=HG11.out.2
  have h9:=HA.out.lt sb (by simp [footS])
  show g11≠sb
  omega
 have HW8:Hid (w8.cell? ⟨sb,1,none⟩=some (.map (some hb))∧Row w8 g11 (entL N) 79):=⟨by rw [HR8.out.cell];rfl,HUS.out.row HR7.out HGS.out⟩
 clear hm
 have hm:=Mem.start w8
 refine ax ?_
 refine aY (T:=fun W=>W.cell? ⟨sb,1,none⟩=some (.map (some hb))∧Row W g11 (entL N) 79) (by kernel_rfl) hm ?_
 intro w9 hbw hmw
 have HB9:Hid (Below w8.heap.size w8 w9):=hbw
 have HR9:Hid (Row w9 sb [.pointer (some ⟨g,0,none⟩),.map (some hb),.int .u64 (p:Int),.bool t.dead] 75):=Row.bel HR8.out hbw
 have HW:Hid (w9.cell? ⟨sb,1,none⟩=some (.map (some hb))∧Row w9 g11 (entL N) 79):=⟨by rw [HR9.out.cell];rfl,Row.bel HW8.out.2 hbw⟩
 clear hm hbw hmw
 refine aT 0 (v:=.pointer (some ⟨sb,0,none⟩)) rfl (by kernel_rfl) rfl (fun W _=>by go_simp) HW.out ?_
 go_simp
 refine aT 1 (v:=.pointer (some ⟨sb,0,none⟩)) rfl (by kernel_rfl) rfl (fun W _=>by go_simp) HW.out ?_
 go_simp
 refine aT 2 (v:=.pointer (some ⟨sb,1,none⟩)) rfl (by kernel_rfl) rfl (fun W _=>by go_simp) HW.out ?_
 go_simp
 refine aT 3 (v:=.map (some hb)) rfl (by kernel_rfl) rfl (fun W hW=>dz hW.1 rfl dh) HW.out ?_
 go_simp
 refine aT 4 (v:=.int .i64 (k:Int)) rfl (by kernel_rfl) rfl (fun W _=>by go_simp) HW.out ?_
 go_simp
 refine aT 5 (v:=.agg (entL N).toArray) rfl (by kernel_rfl) rfl (fun W hW=>bR 0 _ hW.2 rfl _ Tryz.underlying79 rfl 49 cK (by rw [HEL.out];omega) (by rw [List.drop_zero,List.take_of_length_le (by rw [HEL.out];omega)])) HW.out ?_
 go_simp
 refine aO 6 (by kernel_rfl) rfl rfl ?_
 intro K hK
 obtain ⟨q,hq,hkm⟩:=HS7.out.map
 have hk9:=(hkm.upd HUS.out HS7.out.nsh).below HB9.out
 obtain ⟨es,cc,hmap⟩:=hk9.isMap
 go_must (refine wpl_kmPut hk9 cJ eW (by have:=HS7.out.ok.puts;omega) (ej k (by omega)) rfl rfl rfl ?_)
 intro wa hka hua
 refine wpList_nil ?_
 have HRA:Hid (Row wa sb [.pointer (some ⟨g,0,none⟩),.map (some hb),.int .u64 (p:Int),.bool t.dead] 75):=hua.row HR9.out (bM HR9.out hmap)
 have HSA:Hid (SlAt wa g mb kv sb hb R.1 (putS t k N)):=by
  refine ⟨?_,?_,⟨q+1,by show q+1≤t.puts+1+24;omega,hka.same (hvK_put _ _ _)⟩,⟨fun i x hx=>?_,?_⟩,HS7.out.ns,HS7.out.nh,HS7.out.two⟩
  ·have h1:DkAt w8 g mb kv R.1:=HS7.out.dk.keep (fun q hq=>HUS.out.block q (HS7.out.dk.lt q hq) (fun e=>HS7.out.ns (e▸hq)))
   have h2:=h1.below HB9.out
   exact h2.keep (fun q hq=>hua.block q (h2.lt q hq) (fun e=>HS7.out.nh (e▸hq)))
  ·have h9:=HRA.out
   show Row wa sb [_,_,.int .u64 ((t.puts+1:Nat):Int),_] _
   rw [HP.out ()]
   exact h9
  ·by_cases he:i=k
   ·rw [he]
    rw [he,show (putS t k N).held k=some N from bg _ _ _] at hx
    simp only [Option.some.injEq] at hx
    subst hx
    exact ⟨hk,HNO.out⟩
   ·rw [show (putS t k N).held i=t.held i from aS _ _ he] at hx
    exact HS7.out.ok.held i x hx
  ·show t.puts+1≤200
   rw [HP.out ()]
   omega
 have HUA:Hid (UpdS (footS g mb kv sb hb) w wa):=(((HU7.out.mono HFS.out).trans (UpdS.of_upd HUS.out (by simp [footS]))).trans (UpdS.of_below HB9.out)).trans (UpdS.of_upd hua (by simp [footS]))
 refine hK _ _ ⟨by rw [HRA.out.cell];rfl,hua.row HW.out.2 (bM HW.out.2 hmap)⟩ ?_
 clear hK K
 go_simp
 refine wpAnyH_done (by kernel_rfl) ?_ _
 simp only [endsIn]
 go_wp2_with fail
 go_ret
 exact ⟨rfl,HSA.out,HUA.out⟩
theorem put_no (g mb:Nat) (kv:Value) (sb hb:Nat) (d:Dk) (t:Slt) (i:Int) (kek key:List Int) (hr:refI t i≠0) (w:World) (h:SlAt w g mb kv sb hb d t) :
  Calls Tryz.prog 13 #[.pointer (some ⟨sb,0,none⟩),.int .i64 i,.agg (u8s kek).toArray,.agg (u8s key).toArray] w fun e w'=>e=.returned (.int .i64 (refI t i))∧Below w.heap.size w w':=by
 have HA:Hid (SlAt w g mb kv sb hb d t):=h
 obtain ⟨r,hr0⟩:∃r,r=refI t i:=⟨_,rfl⟩
 have HRF:Hid (∀_:Unit,refI t i=r):=fun _=>hr0.symm
 rw [←hr0] at hr ⊢
 have hm:=Mem.start w
 clear h hr0
 go_enter Tryz.func13,Tryz.ntmps13
 go_wp2_with (first
  | ((with_reducible refine ab (some 6) (.box 39 (.tmp 2)) ?_);refine au (u8s kek) rfl hm ?_;clear hm;intro w1 g6 hm)
  | ((with_reducible refine ab (some 7) (.box 39 (.tmp 3)) ?_);refine au (u8s key) rfl hm ?_;clear hm;intro w2 g7 hm)
  | (go_at_call 32;refine (fO g mb kv sb hb d t i _ (HA.out.below hm.below)).mono ?_;rintro e w3 ⟨he,hw3⟩;rw [HRF.out ()] at he;subst he;replace hw3:=hw3.symm;subst hw3))
 go_ret
 exact ⟨rfl,hm.below⟩
open Go Go.RowKit Go.Maps Go.Shelf
def eraPh (t:Slt) (k:Nat) (j:Nat):Nat→Option (List Int):=if j=0 then ph1 (2+k) (unE ((t.held k).getD noEnt)) true else ph1 (2+k) zeroK true
def eraR (d:Dk) (t:Slt) (k:Nat):Dk×Bool:=kps d (lsOf (eraPh t k) d.n 2)
def eraS (t:Slt) (k:Nat):Slt:=⟨upf t.held k none,t.puts,t.dead⟩
theorem fB {t:Slt} {k n:Nat} (hok:SltOk t) (hk:k<24) (hn:64≤n) (j:Nat):PhOk n (eraPh t k j):=by
 unfold eraPh
 split
 ·exact ph1_ok (by omega) (eF (hok.len k)) (unE_bytes (jL hok k)) _
 ·exact ph1_ok (by omega) aI cH _
theorem j3 (g mb:Nat) (kv:Value) (sb hb:Nat) (d:Dk) (t:Slt) (k:Nat) (hk:k<24) (k0:Nat) (hdd:t.dead=false) (hn:64≤d.n) (hn2:d.n≤200) (hnm:d.Nm k0) (hk0:k0≤1000000) (w:World) (h:SlAt w g mb kv sb hb d t) (hr2:(eraR d t k).2=true) :
  Calls Tryz.prog 15 #[.pointer (some ⟨sb,0,none⟩),.int .i64 (k:Int)] w fun e w'=>e=.returned (.int .i64 0)∧SlAt w' g mb kv sb hb (eraR d t k).1 (eraS t k)∧UpdS (footS g mb kv sb hb) w w':=by
 have HA:Hid (SlAt w g mb kv sb hb d t):=h
 have HN1:Hid (64≤d.n):=hn
 have HN2:Hid (d.n≤200):=hn2
 have HNM:Hid (d.Nm k0):=hnm
 have HRF:Hid (refI t (k:Int)=0):=by
  show _=_
  unfold refI okI
  rw [if_neg (by rw [hdd];simp),if_pos (decide_eq_true (by omega))]
 obtain ⟨X,hX⟩:∃X,X=(t.held k).getD noEnt:=⟨_,rfl⟩
 have HX:Hid (∀_:Unit,(t.held k).getD noEnt=X):=fun _=>hX.symm
 have HXL:Hid (X.2.length=48):=by show _=_;rw [hX];exact h.ok.len k
 obtain ⟨R,hR⟩:∃R,R=eraR d t k:=⟨_,rfl⟩
 have HR:Hid (∀_:Unit,eraR d t k=R):=fun _=>hR.symm
 have HPH0:Hid (∀_:Unit,eraPh t k 0=ph1 (2+k) (unE X) true):=fun _=>by rw [hX];rfl
 have HPH1:Hid (∀_:Unit,eraPh t k 1=ph1 (2+k) zeroK true):=fun _=>rfl
 rw [←hR] at hr2 ⊢
 have HCT:Hid (kcode R.2=0):=by show _=_;rw [hr2];rfl
 have hm:=Mem.start w
 clear hr2 h hdd hn hn2 hnm hX hR
 go_enter Tryz.func15,Tryz.ntmps15
 go_wp2_with (first
  | (go_at_call 32;refine (fO g mb kv sb hb d t (k:Int) _ HA.out).mono ?_;rintro e w3 ⟨he,hw3⟩;rw [HRF.out] at he;subst he;replace hw3:=hw3.symm;subst hw3))
 refine ax ?_
 refine aY (T:=fun W=>∃d2,SlAt W g mb kv sb hb d2 t) (by kernel_rfl) hm ?_
 intro wc hbw hmw
 have HR1:Hid (SlAt wc g mb kv sb hb d t):=HA.out.below hmw.below
 have HBW:Hid (Below w.heap.size w wc):=hmw.below
 have HW:Hid (∃d2,SlAt wc g mb kv sb hb d2 t):=⟨d,HR1.out⟩
 clear hm hbw hmw
 refine aT 0 (v:=.pointer (some ⟨sb,0,none⟩)) rfl (by kernel_rfl) rfl (fun W _=>by go_simp) HW.out ?_
 go_simp
 refine aT 1 (v:=.pointer (some ⟨sb,0,none⟩)) rfl (by kernel_rfl) rfl (fun W _=>by go_simp) HW.out ?_
 go_simp
 refine aT 2 (v:=.pointer (some ⟨sb,0,none⟩)) rfl (by kernel_rfl) rfl (fun W _=>by go_simp) HW.out ?_
 go_simp
 refine aT 3 (v:=.pointer (some ⟨g,0,none⟩)) rfl (by kernel_rfl) rfl (fun W hW=>by obtain ⟨d2,h2⟩:=hW;exact dz ((SlAt.cell h2 0).trans rfl) rfl ag_dkp) HW.out ?_
 go_simp
 refine aT 5 (v:=.int .i64 (k:Int)) rfl (by kernel_rfl) rfl (fun W _=>by go_simp) HW.out ?_
 go_simp
 refine aT 7 (v:=.pointer (some ⟨sb,0,none⟩)) rfl (by kernel_rfl) rfl (fun W _=>by go_simp) HW.out ?_
 go_simp
 refine aT 8 (v:=.pointer (some ⟨sb,0,none⟩)) rfl (by kernel_rfl) rfl (fun W _=>by go_simp) HW.out ?_
 go_simp
 refine aT 9 (v:=.pointer (some ⟨sb,1,none⟩)) rfl (by kernel_rfl) rfl (fun W _=>by go_simp) HW.out ?_
 go_simp
 refine aT 10 (v:=.map (some hb)) rfl (by kernel_rfl) rfl (fun W hW=>by obtain ⟨d2,h2⟩:=hW;exact dz ((SlAt.cell h2 1).trans rfl) rfl dh) HW.out ?_
 go_simp
 refine aT 11 (v:=.int .i64 (k:Int)) rfl (by kernel_rfl) rfl (fun W _=>by go_simp) HW.out ?_
 go_simp
 refine aT 12 (v:=.agg (entL X).toArray) rfl (by kernel_rfl) rfl (fun W hW=>by obtain ⟨d2,h2⟩:=hW;have h9:=SlAt.look1 h2 k (by omega);rw [HX.out ()] at h9;exact cf h9 rfl rfl) HW.out ?_
 go_simp
 refine aT 17 (v:=.int .i64 (k:Int)) rfl (by kernel_rfl) rfl (fun W _=>by go_simp) HW.out ?_
 go_simp
 refine aT 19 (v:=.agg (u8s zeroK).toArray) rfl (by kernel_rfl) rfl (fun W hW=>jz (u8s zeroK) [] (by simp) dP) HW.out ?_
 go_simp
 refine EraI_dag rfl rfl rfl rfl rfl rfl rfl rfl rfl rfl rfl rfl rfl (by kernel_rfl) (by kernel_rfl) (by kernel_rfl) (by kernel_rfl) (by kernel_rfl) (by kernel_rfl) (by kernel_rfl) (by kernel_rfl) _ rfl wc g mb kv sb hb d R.1 t k X 0 rfl rfl rfl rfl hk HXL.out rfl (fun w9 mA mB bs hdk hup hbs hrow hpA hgA hpB hgB=>by have h9:=keep_two g mb kv d k0 (eraPh t k) hk0 HN2.out (fun j _=>fB HA.out.ok hk HN1.out j) HNM.out wc.heap.size (fun q hq=>HR1.out.dk.lt q hq) w9 mA mB bs hdk hbs hrow (by rw [HPH0.out ()];exact hpA) hgA (by rw [HPH1.out ()];exact hpB) hgB;rw [show kps d (lsOf (eraPh t k) d.n 2)=R from HR.out (),HCT.out] at h9;exact h9) (fun w9 d9 hs9 hu9=>⟨d9,hs9⟩) _ _ rfl (Nat.le_of_ble_eq_true (by kernel_rfl)) (by kernel_rfl) (by kernel_rfl) _ (UpdS.refl _ _) HR1.out HR1.out ?_
 intro w7 mA mB bs hs7 hu7
 have HS7:Hid (SlAt w7 g mb kv sb hb R.1 t):=hs7
 have HU7:Hid (UpdS (foot g mb kv) w w7):=(UpdS.of_below HBW.out).trans hu7
 clear hs7 hu7 HW
 simp only [laidL]
 have HFS:Hid (∀q∈foot g mb kv,q∈footS g mb kv sb hb):=fun q hq=>by simp [footS,hq]
 obtain ⟨q,hq,hkm⟩:=HS7.out.map
 have HKM:Hid (KM Tryz.prog 3 w7 hb q (hvK t.held)):=hkm
 have HQ:Hid (q≤t.puts+24):=hq
 clear hq hkm
 go_wp2_with (first
  | ((with_reducible refine ab (some 43) (.load 73 (.tmp 42)) ?_);go_must (refine bj (.map (some hb)) ((SlAt.cell HS7.out 1).trans rfl) rfl dh ?_))
  | ((with_reducible refine ab none (.call {callee:=.builtin .delete,args:=#[.tmp 43,.tmp 44],argTypes:=#[73,3]}) ?_);go_must (refine wpl_kmDel HKM.out cJ eW (ej k (by omega)) rfl rfl ?_);intro w8 hk8 hu8;have HK8:Hid (KM Tryz.prog 3 w8 hb q (hvK (upf t.held k none))):=hk8.same (hvK_del _ _);have HU8:Hid (Upd hb w7 w8):=hu8;clear hk8 hu8))
 go_ret
 refine ⟨rfl,⟨?_,?_,⟨q,HQ.out,HK8.out⟩,⟨fun i x hx=>?_,HS7.out.ok.puts⟩,HS7.out.ns,HS7.out.nh,HS7.out.two⟩,(HU7.out.mono HFS.out).trans (UpdS.of_upd HU8.out (by simp [footS]))⟩
 ·exact HS7.out.dk.keep (fun q hq=>HU8.out.block q (HS7.out.dk.lt q hq) (fun e=>HS7.out.nh (e▸hq)))
 ·exact HU8.out.row HS7.out.row HS7.out.nsh
 ·by_cases he:i=k
  ·rw [he,show (eraS t k).held k=none from bg _ _ _] at hx
   cases hx
  ·rw [show (eraS t k).held i=t.held i from aS _ _ he] at hx
   exact HS7.out.ok.held i x hx
open Go Go.RowKit Go.Maps
def z7:List Int:=List.replicate 7 0
structure Inv (d:Dk) (t:Slt):Prop where
 ok:SltOk t
 dead:t.dead=false
 n:64≤d.n
 n2:d.n≤200
 pend:∀s,d.pend s=none
 slot:∀i,i<24→d.kept (2+i)=slC i (t.held i)
 z7:∀a,a<2→(d.kept a).take 7=z7
 cle:∀a n,a<2→numOf a ((d.kept a).take 16)=some n→n≤t.puts∧n % 2=a
 cnt:0<t.puts→numOf (t.puts % 2) ((d.kept (t.puts % 2)).take 16)=some t.puts
 zero:t.puts=0→∀i,t.held i=none
theorem Inv.now {d:Dk} {t:Slt} (h:Inv d t) (s:Nat):d.now s=d.kept s:=by simp [Dk.now,h.pend s]
theorem phL_in {p:Nat→Option (List Int)} {n s:Nat} {c:List Int} (hs:s<n) (h:p s=some c):(s,c)∈phL p n:=by
 unfold phL
 exact List.mem_map.2 ⟨s,(iM p n s).2 ⟨hs,by rw [h];rfl⟩,by rw [h];rfl⟩
theorem fb (p:Nat→Option (List Int)) (n:Nat):((phL p n).map Prod.fst).Nodup:=by rw [phL_keys];exact pensP_nodup p n
theorem phL_out {p:Nat→Option (List Int)} {n s:Nat} (h:p s=none):s ∉ (phL p n).map Prod.fst:=by
 rw [phL_keys,iM,h]
 simp
theorem Kept.at_ {d d':Dk} {p:Nat→Option (List Int)} (h:Kept d (phL p d.n) d') (hp:PhOk d.n p) (s:Nat):d'.kept s=(p s).getD (d.now s):=by
 cases hs:p s with
 | none=>exact h.none s (phL_out hs)
 | some c=>exact h.some (s,c) (phL_in (hp.at_ s c hs).1 hs)
theorem jJ {d:Dk} (h:∀s,d.pend s=none) (s:Nat):d.now s=d.kept s:=by simp [Dk.now,h s]
/-- Two phases that were kept. -/
theorem gS {d:Dk} {p:Nat→Nat→Option (List Int)} (hp0:PhOk d.n (p 0)) (hp1:PhOk d.n (p 1)) (h:(kps d (lsOf p d.n 2)).2=true) :
  (kps d (lsOf p d.n 2)).1.n=d.n∧(∀s,(kps d (lsOf p d.n 2)).1.pend s=none)∧∀s,(kps d (lsOf p d.n 2)).1.kept s=(p 1 s).getD ((p 0 s).getD (d.now s)):=by
 have e:lsOf p d.n 2=[phL (p 0) d.n,phL (p 1) d.n]:=rfl
 rw [e] at h ⊢
 cases h0:(phs d (phL (p 0) d.n)).2 with
 | false=>rw [fg h0,h0] at h;cases h
 | true =>
  rw [dC h0] at h ⊢
  have k0:=(fC d _ (fb (p 0) d.n)).1 h0
  generalize (phs d (phL (p 0) d.n)).1=d1 at *
  rw [←k0.n] at h ⊢ hp1
  cases h1:(phs d1 (phL (p 1) d1.n)).2 with
  | false=>rw [fg h1,h1] at h;cases h
  | true =>
   rw [dC h1]
   have k1:=(fC d1 _ (fb (p 1) d1.n)).1 h1
   refine ⟨k1.n,k1.pend,fun s=>?_⟩
   show (phs d1 (phL (p 1) d1.n)).1.kept s=_
   rw [k1.at_ hp1 s,jJ k0.pend,k0.at_ hp0 s]
theorem jK (t:Slt) (k:Nat) (N:Ent) (s:Nat):putPh t k N 0 s=if s=(t.puts+1) % 2 then some (cntC (t.puts+1)) else if s=2+k then some (unC (t.held k)) else none:=by
 show (if true=true∧s=(t.puts+1) % 2 then some (cntC (t.puts+1)) else if true=true∧s=2+k then some (unE ((t.held k).getD noEnt)) else none)=_
 rw [←unC_get]
 simp
theorem putPh_one (t:Slt) (k:Nat) (N:Ent) (s:Nat):putPh t k N 1 s=if s=2+k then some (mkC k N) else none:=by
 show (if true=true∧s=2+k then some (mkC k N) else none)=_
 simp
theorem putS_ok {t:Slt} {k:Nat} {N:Ent} (h:SltOk t) (hp:t.puts<200) (hk:k<24) (hN:EntOk N):SltOk (putS t k N):=by
 refine ⟨fun i x hx=>?_,by show t.puts+1≤200;omega⟩
 by_cases he:i=k
 ·subst he
  rw [show (putS t i N).held i=some N from bg _ _ _] at hx
  simp only [Option.some.injEq] at hx
  subst hx
  exact ⟨hk,hN⟩
 ·rw [show (putS t k N).held i=t.held i from aS _ _ he] at hx
  exact h.held i x hx
theorem put_inv {d:Dk} {t:Slt} {k:Nat} {N:Ent} (h:Inv d t) (hp:t.puts<200) (hk:k<24) (hN:EntOk N) (hr:(putR d t k N).2=true):Inv (putR d t k N).1 (putS t k N)∧(putR d t k N).1.n=d.n:=by
 obtain ⟨e1,e2,e3⟩:=gS (fK h.ok hN hk h.n 0) (fK h.ok hN hk h.n 1) hr
 change (putR d t k N).1.n=d.n at e1
 change ∀s,(putR d t k N).1.pend s=none at e2
 have e4:∀s,(putR d t k N).1.kept s=if s=2+k then mkC k N else if s=(t.puts+1) % 2 then cntC (t.puts+1) else d.kept s:=by
  intro s
  have:=e3 s
  change (putR d t k N).1.kept s=_ at this
  rw [this,putPh_one,jK,h.now]
  by_cases h1:s=2+k
  ·simp only [if_pos h1,Option.getD_some]
  ·by_cases h2:s=(t.puts+1) % 2
   ·simp only [if_neg h1,if_pos h2,Option.getD_some,Option.getD_none]
   ·simp only [if_neg h1,if_neg h2,Option.getD_none]
 refine ⟨⟨putS_ok h.ok hp hk hN,h.dead,by rw [e1];exact h.n,by rw [e1];exact h.n2,e2,fun i hi=>?_,fun a ha=>?_,fun a n ha hn=>?_,fun _=>?_,fun h0=>absurd h0 (by show ¬t.puts+1=0;omega)⟩,e1⟩
 ·rw [e4]
  by_cases he:i=k
  ·subst he
   rw [if_pos rfl,show (putS t i N).held i=some N from bg _ _ _]
   rfl
  ·rw [if_neg (by omega),if_neg (by omega),show (putS t k N).held i=t.held i from aS _ _ he]
   exact h.slot i hi
 ·rw [e4,if_neg (by omega)]
  by_cases h2:a=(t.puts+1) % 2
  ·rw [if_pos h2];exact cntC_7 _ (by omega)
  ·rw [if_neg h2];exact h.z7 a ha
 ·rw [e4,if_neg (by omega)] at hn
  show n≤t.puts+1∧_
  by_cases h2:a=(t.puts+1) % 2
  ·rw [if_pos h2,h2,cntC_num _ (by omega) (by omega)] at hn
   simp only [Option.some.injEq] at hn
   omega
  ·rw [if_neg h2] at hn
   have:=h.cle a n ha hn
   omega
 ·show numOf ((t.puts+1) % 2) _=some (t.puts+1)
  have e9:=e4 ((t.puts+1) % 2)
  rw [if_neg (by omega),if_pos rfl] at e9
  rw [show (putR d t k N).1.kept ((putS t k N).puts % 2)=cntC (t.puts+1) from e9]
  exact cntC_num _ (by omega) (by omega)
theorem jC (t:Slt) (k:Nat) (s:Nat):eraPh t k 0 s=if s=2+k then some (unC (t.held k)) else none:=by
 show (if true=true∧s=2+k then some (unE ((t.held k).getD noEnt)) else none)=_
 rw [←unC_get]
 simp
theorem eraPh_one (t:Slt) (k:Nat) (s:Nat):eraPh t k 1 s=if s=2+k then some zeroK else none:=by
 show (if true=true∧s=2+k then some zeroK else none)=_
 simp
theorem eraS_ok {t:Slt} {k:Nat} (h:SltOk t):SltOk (eraS t k):=by
 refine ⟨fun i x hx=>?_,h.puts⟩
 by_cases he:i=k
 ·subst he
  rw [show (eraS t i).held i=none from bg _ _ _] at hx
  cases hx
 ·rw [show (eraS t k).held i=t.held i from aS _ _ he] at hx
  exact h.held i x hx
theorem erase_inv {d:Dk} {t:Slt} {k:Nat} (h:Inv d t) (hk:k<24) (hr:(eraR d t k).2=true):Inv (eraR d t k).1 (eraS t k)∧(eraR d t k).1.n=d.n:=by
 obtain ⟨e1,e2,e3⟩:=gS (fB h.ok hk h.n 0) (fB h.ok hk h.n 1) hr
 change (eraR d t k).1.n=d.n at e1
 change ∀s,(eraR d t k).1.pend s=none at e2
 have e4:∀s,(eraR d t k).1.kept s=if s=2+k then zeroK else d.kept s:=by
  intro s
  have:=e3 s
  change (eraR d t k).1.kept s=_ at this
  rw [this,eraPh_one,jC,h.now]
  by_cases h1:s=2+k
  ·simp only [if_pos h1,Option.getD_some]
  ·simp only [if_neg h1,Option.getD_none]
 refine ⟨⟨eraS_ok h.ok,h.dead,by rw [e1];exact h.n,by rw [e1];exact h.n2,e2,fun i hi=>?_,fun a ha=>?_,fun a n ha hn=>?_,fun h0=>?_,fun h0 i=>?_⟩,e1⟩
 ·rw [e4]
  by_cases he:i=k
  ·subst he
   rw [if_pos rfl,show (eraS t i).held i=none from bg _ _ _]
   rfl
  ·rw [if_neg (by omega),show (eraS t k).held i=t.held i from aS _ _ he]
   exact h.slot i hi
 ·rw [e4,if_neg (by omega)];exact h.z7 a ha
 ·rw [e4,if_neg (by omega)] at hn;exact h.cle a n ha hn
 ·rw [e4,if_neg (by show ¬t.puts % 2=2+k;omega)];exact h.cnt h0
 ·by_cases he:i=k
  ·subst he;exact bg _ _ _
  ·rw [show (eraS t k).held i=t.held i from aS _ _ he];exact h.zero h0 i
theorem kps_three {d:Dk} {p:Nat→Nat→Option (List Int)} (hl:d.left=0) (ho:d.off=false) (hp:∀j,j<3→PhOk d.n (p j)) :
  (kps d (lsOf p d.n 3)).1.n=d.n∧(∀s,(kps d (lsOf p d.n 3)).1.pend s=none)∧∀s,(kps d (lsOf p d.n 3)).1.kept s=(p 2 s).getD ((p 1 s).getD ((p 0 s).getD (d.now s))):=by
 have e:lsOf p d.n 3=[phL (p 0) d.n,phL (p 1) d.n,phL (p 2) d.n]:=rfl
 have h0:=hp 0 (by omega)
 have h1:=hp 1 (by omega)
 have h2:=hp 2 (by omega)
 obtain ⟨a0,b0,c0⟩:=fS (phL (p 0) d.n) d hl ho
 have k0:=(fC d _ (fb (p 0) d.n)).1 a0
 rw [e,dC a0]
 generalize (phs d (phL (p 0) d.n)).1=d1 at *
 obtain ⟨a1,b1,c1⟩:=fS (phL (p 1) d.n) d1 b0 c0
 have k1:=(fC d1 _ (fb (p 1) d.n)).1 a1
 rw [dC a1]
 have k1a:∀s,(phs d1 (phL (p 1) d.n)).1.kept s=(p 1 s).getD (d1.now s):=fun s=>by
  have hh:=k1
  rw [←k0.n] at hh h1 ⊢
  exact hh.at_ h1 s
 generalize (phs d1 (phL (p 1) d.n)).1=d2 at *
 obtain ⟨a2,b2,c2⟩:=fS (phL (p 2) d.n) d2 b1 c1
 have k2:=(fC d2 _ (fb (p 2) d.n)).1 a2
 rw [dC a2]
 have k2a:∀s,(phs d2 (phL (p 2) d.n)).1.kept s=(p 2 s).getD (d2.now s):=fun s=>by
  have hh:=k2
  have e9:d2.n=d.n:=k1.n.trans k0.n
  rw [←e9] at hh h2 ⊢
  exact hh.at_ h2 s
 refine ⟨k2.n.trans (k1.n.trans k0.n),k2.pend,fun s=>?_⟩
 show (phs d2 (phL (p 2) d.n)).1.kept s=_
 rw [k2a,jJ k1.pend,k1a,jJ k0.pend,k0.at_ h0 s]
theorem mkPh_ok {t:Slt} {n:Nat} (h:SltOk t) (hn:64≤n) (j:Nat):PhOk n (mkPh t j):=by
 match j with
 | 0=>exact mkA_ok (by omega) hn h.ent
 | 1=>exact mkB_ok hn
 | _+2=>exact mkQ_ok (by omega) hn
theorem make_inv {d:Dk} (hl:d.left=0) (ho:d.off=false) (hn:64≤d.n) (hn2:d.n≤200) (hok:SltOk (loadS d)):Inv (makeD d) newS∧(makeD d).n=d.n∧∀s,s<26→(makeD d).kept s=zeroK:=by
 obtain ⟨e1,e2,e3⟩:=kps_three hl ho (fun j _=>mkPh_ok hok hn j)
 change (makeD d).n=d.n at e1
 change ∀s,(makeD d).pend s=none at e2
 have e4:∀s,s<26→(makeD d).kept s=zeroK:=by
  intro s hs
  have:=e3 s
  change (makeD d).kept s=_ at this
  rw [this]
  show (mkQ ((loadS d).puts % 2) s).getD ((mkB 24 s).getD ((mkA (((loadS d).puts+1) % 2) (loadS d).held 24 s).getD _))=zeroK
  unfold mkQ mkB mkA
  by_cases h1:s=(loadS d).puts % 2
  ·rw [if_pos h1];rfl
  ·rw [if_neg h1]
   by_cases h2:2≤s∧s<2+24
   ·rw [if_pos h2];rfl
   ·rw [if_neg h2,if_pos (by omega)];rfl
 refine ⟨⟨newS_ok,rfl,by rw [e1];exact hn,by rw [e1];exact hn2,e2,fun i hi=>e4 _ (by omega),fun a ha=>by rw [e4 a (by omega)];rfl,fun a n ha hh=>?_,fun h=>absurd h (by show ¬0<0;omega),fun _ _=>rfl⟩,e1,e4⟩
 rw [e4 a (by omega),er a (by rfl)] at hh
 cases hh
theorem inv_cnt {d:Dk} {t:Slt} (h:Inv d t):cntOf d=t.puts:=by
 unfold cntOf
 rw [h.now,h.now]
 have b:∀a,a<2→(numOf a ((d.kept a).take 16)).getD 0≤t.puts:=by
  intro a ha
  cases hh:numOf a ((d.kept a).take 16) with
  | none=>exact Nat.zero_le _
  | some n=>exact (h.cle a n ha hh).1
 have b0:=b 0 (by omega)
 have b1:=b 1 (by omega)
 rcases Nat.eq_zero_or_pos t.puts with h0|h0
 ·omega
 ·have hc:=h.cnt h0
  rcases (by omega:t.puts % 2=0∨t.puts % 2=1) with e|e<;>(rw [e] at hc;rw [hc,Option.getD_some];omega)
theorem inv_load {d:Dk} {t:Slt} (h:Inv d t):loadS d=t:=by
 obtain ⟨held,puts,dead⟩:=t
 have e1:(fun i=>if i<24 then entOf i (d.now (2+i)) else none)=held:=by
  funext i
  by_cases hi:i<24
  ·rw [if_pos hi,h.now,h.slot i hi]
   exact entOf_sl i (h.ok.ent i)
  ·rw [if_neg hi]
   cases hx:held i with
   | none=>rfl
   | some x=>exact absurd (h.ok.held i x hx).1 hi
 have e2:=inv_cnt h
 have e3:dead=false:=h.dead
 unfold loadS
 rw [e1,e2,e3]
theorem inv_left {d:Dk} {t:Slt} (h:Inv d t):leftP d 24=fun _=>none:=by
 funext s
 unfold leftP
 by_cases hs:2≤s∧s<2+24∧leftAt d (s - 2)=true
 ·exfalso
  obtain ⟨i,rfl⟩:∃i,s=2+i:=⟨s - 2,by omega⟩
  have hh:=hs.2.2
  rw [Nat.add_sub_cancel_left] at hh
  unfold leftAt at hh
  rw [h.now,h.slot i (by omega)] at hh
  simp only [Bool.and_eq_true,decide_eq_true_eq] at hh
  obtain ⟨⟨h1,_⟩,h3⟩:=hh
  rw [entOf_sl i (h.ok.ent _)] at h1
  cases hx:t.held i with
  | none=>rw [hx] at h3;exact h3 rfl
  | some x=>rw [hx] at h1;cases h1
 ·rw [if_neg hs]
theorem inv_open {d:Dk} {t:Slt} (h:Inv d t):openD d=d:=by
 unfold openD
 rw [inv_left h,if_pos]
 have:pensP (fun _=>none) d.n=[]:=by unfold pensP;simp
 rw [this]
 rfl
theorem crash_kept (d:Dk) (cs:List Int) (s:Nat):(d.crash cs).kept s=d.kept s∨∃l c,d.pend s=some l∧(d.crash cs).kept s=tornOf (d.kept s) l c:=by
 show d.keptAt cs (d.rank d.n) s=_∨∃l c,_∧d.keptAt cs (d.rank d.n) s=_
 unfold Dk.keptAt
 cases hp:d.pend s with
 | none=>exact Or.inl rfl
 | some l =>
  simp only
  split
  ·exact Or.inr ⟨l,_,rfl,rfl⟩
  ·exact Or.inl rfl
theorem inv_crash {d:Dk} {t:Slt} (h:Inv d t) (cs:List Int):Inv (d.crash cs) t∧(d.crash cs).kept=d.kept:=by
 have e:(d.crash cs).kept=d.kept:=by
  funext s
  rcases crash_kept d cs s with h1|⟨l,c,h1,_⟩
  ·exact h1
  ·rw [h.pend s] at h1;cases h1
 refine ⟨⟨h.ok,h.dead,h.n,h.n2,fun _=>rfl,fun i hi=>by rw [e];exact h.slot i hi,fun a ha=>by rw [e];exact h.z7 a ha,fun a n ha hn=>by rw [e] at hn;exact h.cle a n ha hn,fun h0=>by rw [e];exact h.cnt h0,h.zero⟩,e⟩
structure Cm (d:Dk) (k:Nat):Prop where
 left:d.left=0
 off:d.off=false
 nm:d.Nm k
theorem Cm.mono {d:Dk} {k m:Nat} (h:Cm d k) (hk:k≤m):Cm d m:=⟨h.left,h.off,h.nm.mono hk⟩
theorem kps_nm:∀(ls:List (List (Nat×List Int))) (d:Dk) (k m:Nat),d.Nm k→(∀l∈ls,l.length≤m)→(kps d ls).1.Nm (k+ls.length * (m+1))
 | [],d,k,m,h,_=>h.mono (by simp)
 | l::ls,d,k,m,h,hm=>by
  have h1:=phs_nm l d k h
  have hl:=hm l (List.mem_cons_self ..)
  have hmul:(ls.length+1) * (m+1)=ls.length * (m+1)+(m+1):=by rw [Nat.add_mul,Nat.one_mul]
  cases hp:(phs d l).2 with
  | true =>
   rw [dC hp]
   exact (kps_nm ls _ _ m h1 (fun x hx=>hm x (List.mem_cons_of_mem _ hx))).mono (by rw [List.length_cons,hmul];omega)
  | false =>
   rw [fg hp]
   exact h1.mono (by rw [List.length_cons,hmul];omega)
theorem lsOf_len (p:Nat→Nat→Option (List Int)) (n K:Nat):∀l∈lsOf p n K,l.length≤n:=by
 intro l hl
 obtain ⟨j,_,rfl⟩:=List.mem_map.1 hl
 rw [jY]
 exact gV _ _
theorem kps_cm {d:Dk} {k:Nat} (h:Cm d k) (p:Nat→Nat→Option (List Int)) (K:Nat) (hn:d.n≤200) (hK:K≤3):Cm (kps d (lsOf p d.n K)).1 (k+1000)∧(kps d (lsOf p d.n K)).2=true:=by
 obtain ⟨a,b,c⟩:=jG (lsOf p d.n K) d h.left h.off
 refine ⟨⟨b,c,(kps_nm _ d k 200 h.nm (fun l hl=>Nat.le_trans (lsOf_len p d.n K l hl) hn)).mono ?_⟩,a⟩
 rw [iV]
 have:=Nat.mul_le_mul_right 201 hK
 omega
theorem cm_put {d:Dk} {k:Nat} (h:Cm d k) (hn:d.n≤200) (t:Slt) (i:Nat) (N:Ent):Cm (putR d t i N).1 (k+1000)∧(putR d t i N).2=true:=kps_cm h _ 2 hn (by omega)
theorem cm_era {d:Dk} {k:Nat} (h:Cm d k) (hn:d.n≤200) (t:Slt) (i:Nat):Cm (eraR d t i).1 (k+1000)∧(eraR d t i).2=true:=kps_cm h _ 2 hn (by omega)
theorem cm_make {d:Dk} {k:Nat} (h:Cm d k) (hn:d.n≤200):Cm (makeD d) (k+1000):=(kps_cm h _ 3 hn (by omega)).1
theorem cm_crash {d:Dk} {k:Nat} (h:d.Nm k) (cs:List Int):Cm (d.crash cs) k:=⟨rfl,rfl,⟨h.s0,h.s1,by show (0:Int)≤0;omega,by show (0:Int)≤1000;omega⟩⟩
theorem cm_new (n:Nat):Cm (Dk.new n) 0:=⟨rfl,rfl,⟨by show (0:Int)≤0;omega,by show (0:Int)≤0;omega,by show (0:Int)≤0;omega,by show (0:Int)≤1000;omega⟩⟩
theorem new_load (n:Nat):loadS (Dk.new n)=newS:=by
 have e1:(fun i=>if i<24 then entOf i ((Dk.new n).now (2+i)) else none)=fun _=>none:=by
  funext i
  by_cases hi:i<24
  ·rw [if_pos hi];exact jT i
  ·rw [if_neg hi]
 have e2:cntOf (Dk.new n)=0:=by
  unfold cntOf
  rw [show (Dk.new n).now 0=zeroK from rfl,show (Dk.new n).now 1=zeroK from rfl,er 0 rfl,er 1 rfl]
  rfl
 unfold loadS
 rw [e1,e2]
 rfl
open Go Go.RowKit Go.Maps
def keyB (n:Int):List Int:=n::(List.replicate 30 0++[200])
theorem bS (n:Int):(keyB n).length=32:=by simp [keyB]
theorem dN {n:Int} (h:0≤n∧n<256):Bytes (keyB n):=by
 intro x hx
 unfold keyB at hx
 rcases List.mem_cons.1 hx with rfl|hx
 ·exact h
 ·rcases List.mem_append.1 hx with hx|hx
  ·have:=(List.mem_replicate.1 hx).2;omega
  ·have:x=200:=by simpa using hx
   omega
theorem built_key (n:Int):Tryz.prog.built 39 [(0,.int .u8 n),(31,.int .u8 200)]=some (u8s (keyB n)).toArray:=by kernel_rfl
def kS1:List Int:=[1,0,0,0,0,0,0,0,0,0,0,0,0,0,0,0,0,0,0,0,0,0,0,0,0,0,0,0,0,0,0,200]
def kS2:List Int:=[2,0,0,0,0,0,0,0,0,0,0,0,0,0,0,0,0,0,0,0,0,0,0,0,0,0,0,0,0,0,0,200]
theorem kS1_is:keyB 1=kS1:=by kernel_rfl
theorem kS2_is:keyB 2=kS2:=by kernel_rfl
def nonS:List Int:=[0,0,0,3,0,0,0,0,0,0,0,1]
theorem nonS_is:nonceOf ((3:Nat):Int) ((1:Nat):Int)=nonS:=by kernel_rfl
def eKS:List Int:=[173,122,182,108,159,226,191,94,81,212,205,155,168,170,235,51,42,127,130,182,38,176,160,255,59,46,45,92,106,55,77,132]
def mKS1:List Int:=[136,213,223,54,127,242,11,253,160,50,159,168,219,105,85,94,39,185,80,6,248,232,198,237,182,173,14,233,90,209,160,120]
def mKS2:List Int:=[68,140,228,117,224,54,40,239,216,130,114,36,75,244,207,236,228,123,173,170,194,176,10,59,104,156,204,202,87,61,248,158]
def msgDE:List Int:=[101,110,99,0,0,0,0,1]
def innDE:List Int:=[56,190,214,18,210,124,58,84,199,45,24,220,139,200,166,121,255,222,97,225,45,58,97,15,171,8,42,132,134,139,29,29]
theorem msgDE_is:labEnc++be4 0++[1]=msgDE:=by kernel_rfl
theorem innDE_is:shaOf (padIn kS1++msgDE)=innDE:=by kernel_rfl
theorem outDE_is:(shaOf (padOut kS1++innDE)).take 32=[173,122,182,108,159,226,191,94,81,212,205,155,168,170,235,51,42,127,130,182,38,176,160,255,59,46,45,92,106,55,77,132]:=by kernel_rfl
theorem macDE_is:(macOf kS1 (labEnc++be4 0++[1])).take 32=[173,122,182,108,159,226,191,94,81,212,205,155,168,170,235,51,42,127,130,182,38,176,160,255,59,46,45,92,106,55,77,132]:=by
 unfold macOf
 rw [msgDE_is,innDE_is,outDE_is]
def msgDM:List Int:=[109,97,99,0,0,0,0,1]
def innDM:List Int:=[18,189,190,57,73,241,102,79,147,82,156,166,204,164,109,225,6,172,114,171,189,41,164,167,66,96,22,111,119,44,98,27]
theorem msgDM_is:labMac++be4 0++[1]=msgDM:=by kernel_rfl
theorem innDM_is:shaOf (padIn kS1++msgDM)=innDM:=by kernel_rfl
theorem outDM_is:(shaOf (padOut kS1++innDM)).take 32=[136,213,223,54,127,242,11,253,160,50,159,168,219,105,85,94,39,185,80,6,248,232,198,237,182,173,14,233,90,209,160,120]:=by kernel_rfl
theorem macDM_is:(macOf kS1 (labMac++be4 0++[1])).take 32=[136,213,223,54,127,242,11,253,160,50,159,168,219,105,85,94,39,185,80,6,248,232,198,237,182,173,14,233,90,209,160,120]:=by
 unfold macOf
 rw [msgDM_is,innDM_is,outDM_is]
def msgDN:List Int:=[109,97,99,0,0,0,0,1]
def innDN:List Int:=[128,69,49,108,224,82,82,80,232,221,233,9,219,234,31,211,20,154,210,253,38,97,117,146,28,33,113,130,217,75,228,216]
theorem msgDN_is:labMac++be4 0++[1]=msgDN:=by kernel_rfl
theorem innDN_is:shaOf (padIn kS2++msgDN)=innDN:=by kernel_rfl
theorem outDN_is:(shaOf (padOut kS2++innDN)).take 32=[68,140,228,117,224,54,40,239,216,130,114,36,75,244,207,236,228,123,173,170,194,176,10,59,104,156,204,202,87,61,248,158]:=by kernel_rfl
theorem macDN_is:(macOf kS2 (labMac++be4 0++[1])).take 32=[68,140,228,117,224,54,40,239,216,130,114,36,75,244,207,236,228,123,173,170,194,176,10,59,104,156,204,202,87,61,248,158]:=by
 unfold macOf
 rw [msgDN_is,innDN_is,outDN_is]
theorem keyDE_is:encKey kS1=eKS:=by
 have h:=macDE_is
 rw [List.take_of_length_le (by rw [bq];omega)] at h
 exact h
theorem keyDM_is:macKey kS1=mKS1:=by
 have h:=macDM_is
 rw [List.take_of_length_le (by rw [bq];omega)] at h
 exact h
theorem keyDN_is:macKey kS2=mKS2:=by
 have h:=macDN_is
 rw [List.take_of_length_le (by rw [bq];omega)] at h
 exact h
def blkS:List Int:=[66,53,156,60,34,17,204,245,187,113,102,221,202,155,158,203,26,244,219,150,6,17,158,13,19,93,101,5,143,74,170,27,165,177,165,192,243,72,220,206,98,189,219,72,11,107,178,153,153,102,106,145,231,154,147,11,104,228,21,184,253,219,190,125]
theorem blkS_is:blockOf eKS nonS 1=blkS:=by kernel_rfl
theorem xorS_one (k n m B:List Int) (h:blockOf k n 1=B) (hm:m.length≤64):xorOf k n 1 m=m.mapIdx fun i x=>Go.bits .xor .u8 x (B.getD (i % 64) 0):=by
 unfold xorOf
 refine List.ext_getElem (by simp) fun i h1 h2=>?_
 simp only [List.length_mapIdx] at h1
 simp only [List.getElem_mapIdx]
 unfold keyAt
 rw [show i / 64=0 by omega,show (((1:Int)+((0:Nat):Int)) % 4294967296)=1 by omega,h]
def cS:List Int:=[64,53,156,60,34,17,204,245,187,113,102,221,202,155,158,203,26,244,219,150,6,17,158,13,19,93,101,5,143,74,170,211]
theorem encS_is:encOf kS1 nonS kS2=cS:=by
 unfold encOf
 rw [keyDE_is,xorS_one eKS nonS kS2 blkS blkS_is (by rw [show kS2.length=32 from by kernel_rfl];omega)]
 kernel_rfl
def tS1:List Int:=[117,83,115,253,190,70,221,235,18,61,153,254,165,132,97,34]
def tS2:List Int:=[3,209,248,240,108,212,217,161,103,87,205,202,139,233,3,242]
def msgTA:List Int:=[0,0,0,0,0,0,0,4,119,114,97,112,0,0,0,3,0,0,0,0,0,0,0,1,64,53,156,60,34,17,204,245,187,113,102,221,202,155,158,203,26,244,219,150,6,17,158,13,19,93,101,5,143,74,170,211]
def innTA:List Int:=[191,253,52,91,132,238,185,24,121,3,15,198,123,126,190,191,196,221,170,107,90,163,173,84,56,113,45,149,197,236,255,58]
theorem msgTA_is:msgOf nonS labWrap cS=msgTA:=by kernel_rfl
theorem innTA_is:shaOf (padIn mKS1++msgTA)=innTA:=by kernel_rfl
theorem outTA_is:(shaOf (padOut mKS1++innTA)).take 16=[117,83,115,253,190,70,221,235,18,61,153,254,165,132,97,34]:=by kernel_rfl
theorem macTA_is:(macOf mKS1 (msgOf nonS labWrap cS)).take 16=[117,83,115,253,190,70,221,235,18,61,153,254,165,132,97,34]:=by
 unfold macOf
 rw [msgTA_is,innTA_is,outTA_is]
def msgTB:List Int:=[0,0,0,0,0,0,0,4,119,114,97,112,0,0,0,3,0,0,0,0,0,0,0,1,64,53,156,60,34,17,204,245,187,113,102,221,202,155,158,203,26,244,219,150,6,17,158,13,19,93,101,5,143,74,170,211]
def innTB:List Int:=[44,177,88,205,199,152,111,128,147,79,166,26,112,251,80,219,208,205,91,7,131,57,222,183,79,131,193,185,210,114,133,87]
theorem msgTB_is:msgOf nonS labWrap cS=msgTB:=by kernel_rfl
theorem innTB_is:shaOf (padIn mKS2++msgTB)=innTB:=by kernel_rfl
theorem outTB_is:(shaOf (padOut mKS2++innTB)).take 16=[3,209,248,240,108,212,217,161,103,87,205,202,139,233,3,242]:=by kernel_rfl
theorem macTB_is:(macOf mKS2 (msgOf nonS labWrap cS)).take 16=[3,209,248,240,108,212,217,161,103,87,205,202,139,233,3,242]:=by
 unfold macOf
 rw [msgTB_is,innTB_is,outTB_is]
theorem tagS1_is:tagOf kS1 nonS labWrap cS=tS1:=by
 unfold tagOf
 rw [keyDM_is]
 exact macTA_is
theorem tagS2_is:tagOf kS2 nonS labWrap cS=tS2:=by
 unfold tagOf
 rw [keyDN_is]
 exact macTB_is
theorem reckS:unwOk (keyB 2) 3 (1,sealOf (keyB 1) (nonceOf ((3:Nat):Int) ((1:Nat):Int)) labWrap (keyB 2))=false:=by
 rw [kS1_is,kS2_is,nonS_is]
 unfold unwOk sealOf
 rw [encS_is,tagS1_is]
 show decide ((cS++tS1).drop 32=tagOf kS2 (nonceOf ((3:Nat):Int) ((1:Nat):Int)) labWrap ((cS++tS1).take 32))=false
 rw [nonS_is,show (cS++tS1).drop 32=tS1 from by kernel_rfl,show (cS++tS1).take 32=cS from by kernel_rfl,tagS2_is]
 exact decide_eq_false (by unfold tS1 tS2;decide)
end Go.Proofs.YtblnljajipbajaaGreatDoor
