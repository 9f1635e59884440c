import Derived.Test.YtdkkdkgdaambiaaGreatDoorQb50
import Derived.Test.YtdkkdkgdaambiaaGreatDoorQb39
set_option maxRecDepth 100000
set_option maxHeartbeats 4000000
namespace Go.Proofs.YtdkkdkgdaambiaaGreatDoor
open Go Go.RowKit Go.Maps
theorem Mem.adoptT {w0 w:World} {g:Nat} {l:List Value} {t:TypeId} (hm:Mem w0 [] w []) (hr:Row w g l t) (hg:w0.heap.size≤g):Mem w0 [] w [(g,l,t)] :=
 ⟨hm.os,hm.tape,hm.output,hm.size,hm.block,by simpa using hr,by simp,by simpa using hg⟩
theorem cutLo_T (g o c l:Nat) (h:l<c):cutLo (some ⟨g,o,none⟩) c l=some ⟨g,o+l,none⟩:=by
 unfold cutLo
 rw [if_neg (by omega),Option.map_some,bR]
theorem open_boolT {H:Type} {enc:TypeId×Value→H} {W:World} {base:Nat} {v:Value} {d:DataW H} {ps:List MemPlace} (hok:Value.okWide Tryz.prog W .any base 4 v) (h:DataW.Trod enc Tryz.prog W 0 (fun _=>true) true 4 v d ps):∃q:Bool,v=.bool q:=by
 obtain ⟨fuel,hf⟩:=h
 obtain ⟨q,h1,_⟩:=DataW.trod_bool Tryz.underlying4 hf
 simp only [Value.okWide,Tryz.underlying4,Cell.okWide] at hok
 cases v<;>simp_all [Cell.ok]
theorem secs_part {f:Nat→List Int} {at_:Nat}:∀n,(∀i,i<n→(f (at_+i)).length=64)→∀i,i<n→((secs f at_ n).drop (64 * i)).take 64=f (at_+i)
 | 0,_,i,hi=>by omega
 | n+1,h,i,hi=>by
  have hl:=bL (f:=f) (at_:=at_) (n:=n) (fun i hi=>h i (by omega))
  rw [secs_snoc]
  by_cases hin:i<n
  ·rw [List.drop_append_of_le_length (by omega),List.take_append_of_le_length (by rw [List.length_drop];omega)]
   exact secs_part n (fun i hi=>h i (by omega)) i hin
  ·obtain rfl:i=n:=by omega
   rw [List.drop_append,List.drop_eq_nil_of_le (by omega),List.nil_append,show 64 * i - (secs f at_ i).length=0 by omega,List.drop_zero,List.take_of_length_le (by rw [h i (by omega)];exact Nat.le_refl _)]
theorem turned_secs {f f':Nat→List Int} {PB NW:List Int} (j:Nat) (hlen:∀i,i<8→(f (32+i)).length=64) (hPB:secs f 32 8=PB) (hN:NW.length=512) (hsame:∀i,i<8→i≠j→(NW.drop (64 * i)).take 64=(PB.drop (64 * i)).take 64) (hf:f' (32+j)=(NW.drop (64 * j)).take 64) (ho:∀i,i≠32+j→f' i=f i):secs f' 32 8=NW:=by
 rw [←hI f' 32 NW 8 (by omega)]
 refine fq (fun i hi=>?_)
 unfold putSecs
 rw [if_pos ⟨by omega,by omega⟩,show 32+i - 32=i by omega]
 by_cases hij:i=j
 ·rw [hij];exact hf
 ·rw [ho (32+i) (by omega),hsame i hi hij,←hPB,secs_part 8 hlen i hi]
theorem set_part (PB:List Int) (k i:Nat) (z:Int) (h:i≠k / 64):((PB.set k z).drop (64 * i)).take 64=(PB.drop (64 * i)).take 64:=by
 apply List.ext_getElem?
 intro m
 simp only [List.getElem?_take,List.getElem?_drop,List.getElem?_set]
 by_cases hm:m<64
 ·rw [if_pos hm,if_pos hm,if_neg (by omega)]
 ·rw [if_neg hm,if_neg hm]
theorem two_part (O PB:List Int) (hO:O.length=64) (i:Nat) (h:i≠0):((O++PB.drop 64).drop (64 * i)).take 64=(PB.drop (64 * i)).take 64:=by
 rw [List.drop_append,List.drop_eq_nil_of_le (by omega),List.nil_append,List.drop_drop,show 64+(64 * i - O.length)=64 * i by omega]
def lT (bs:List Int) (j:Nat):Option (List Int):=if j=0 then some bs else if j=1 then some [111,116,104,101,114] else none
theorem uT_is (bs:List Int) (j:Nat):(upf (upf (upf (upf (fun _=>none) 0 (some none)) 1 (some none)) 0 (some (some bs))) 1 (some (some [111,116,104,101,114]))) j=(lT bs j).map some:=by
 unfold upf lT
 by_cases h1:j=1
 ·subst h1;rfl
 ·rw [if_neg h1,if_neg h1]
  by_cases h0:j=0
  ·rw [if_pos h0,if_pos h0];rfl
  ·rw [if_neg h0,if_neg h0,if_neg h1,if_neg h0];rfl
theorem i1:Bytes [111,116,104,101,114]:=by unfold Bytes;decide
theorem slnT {w w1 W:World} {v:Value} {bs:List Int} (h:SlOld w v bs) (hb:Below w.heap.size w W) (hle:w.heap.size≤w1.heap.size):SlN w1 W v bs:=by
 obtain ⟨p,cap,rfl,hc,h2⟩:=h
 refine ⟨p,cap,rfl,hc,fun h0=>?_⟩
 obtain ⟨b,off,rfl,hs⟩:=h2 h0
 have hlt:=hs.lt h0
 refine ⟨b,off,rfl,fun j hj=>?_,Or.inl (Nat.lt_of_lt_of_le hlt hle)⟩
 rw [World.cell?_of_block (w:=w) (a:=⟨b,off+j,none⟩) (hb.block b hlt)]
 exact hs j hj
theorem mtT_bytes:Bytes (strB {data:=#[]}):=by
 intro x hx
 cases hx
theorem lM {w W:World} {L:List Nat} {q n cap:Nat} {cs:List Int} (hn:n=cs.length) (hs:Seg W q 0 cs) (hc:n≤cap) (hq:w.heap.size≤q) (hL:∀x∈L,x<w.heap.size):SlA W L (.slice (some ⟨q,0,none⟩) n cap) cs:=by
 subst hn
 exact ⟨_,cap,rfl,hc,fun _=>⟨q,0,rfl,fun hh=>by have:=hL q hh;omega,hs⟩⟩
theorem SlA.chunk {w:World} {L:List Nat} {q n cap:Nat} {cs:List Int} (h:SlA w L (.slice (some ⟨q,0,none⟩) n cap) cs) (hn:n=cs.length) (j:Nat) (hj:64 * j+64≤n):SlA w L (.slice (some ⟨q,64 * j,none⟩) 64 (cap - 64 * j)) ((cs.drop (64 * j)).take 64):=by
 obtain ⟨p,c,he,hc,h2⟩:=h
 obtain ⟨b,o,hp,hb,hs⟩:=h2 (by omega)
 cases he
 cases hp
 have hl:((cs.drop (64 * j)).take 64).length=64:=by rw [List.length_take,List.length_drop];omega
 refine ⟨_,_,by rw [hl],by rw [hl];omega,fun _=>⟨q,64 * j,rfl,hb,?_⟩⟩
 have h9:=(hs.drop (64 * j)).take 64
 rw [Nat.zero_add] at h9
 exact h9
theorem wpl_cvcT {P:Program} {ops:Array Oper} {rest:List Oper} {a:Act} {w:World} {dst:Option Tmp} {typ:TypeId} {pos:String} {aft:Array Edge} {gd:Option (Nat×Bool)} {Q:Exit→Act→World→Prop} {t e:TypeId} {x:Operand} (cs:List Int) (hw:Region.wanted {dst:=dst,op:=.convert t t x,type:=typ,pos:=pos,after:=aft,guard:=gd} (yielded ops a.tmps)=true) (ht:P.underlying t=some (.slice e)) (he:P.underlying e=some (.int .u8)) {n:Nat} (hx:a.eval x=.slice (some ⟨w.heap.size,0,none⟩) n n) (hn:n=cs.length)
  (h:∀w' g,Below w.heap.size w w'→SlOld w' (.slice (some ⟨g,0,none⟩) n n) cs→(∃fr,w'.heap[g]?=some (.cells (u8s cs).toArray e fr))→wpList P ops Q rest (a.put dst (.slice (some ⟨g,0,none⟩) n n)) w') :
  wpList P ops Q ({dst:=dst,op:=.convert t t x,type:=typ,pos:=pos,after:=aft,guard:=gd}::rest) a (w.alloc (.cells (u8s cs).toArray e)):=by
 subst hn
 have hb:Below w.heap.size w (w.alloc (.cells (u8s cs).toArray e ((u8s cs).toArray.size,(u8s cs).toArray.size+1))):=(Below.refl _ _).alloc (Nat.le_refl _) _
 refine wpList_step fun K hK=>?_
 rw [if_pos hw]
 have hh:=hK _ _ (h _ w.heap.size hb ⟨_,_,rfl,Nat.le_refl _,fun _=>⟨w.heap.size,0,rfl,Seg.newO w cs e _⟩⟩ ⟨_,heap_alloc_new w _⟩)
 unfold Oper.wp execOp
 simp only [hx,Lib.run_convert_bytes_const (P:=P) w t e (u8s cs).toArray cs.length cs.length ht he,Sem.run_bind,Sem.run_pure,Result.andThen_ok]
 exact hh
theorem bytes_not {w:World} {q:Nat} {l:Array Value} {fr:Nat×Nat} (hr:w.heap[q]?=some (.cells l 5 fr)):¬Mine w q:=by
 rintro (⟨es,c,h⟩|⟨l',h⟩|⟨l',h⟩|⟨l',h⟩)
 ·rw [hr] at h
  cases h
 all_goals
  unfold Row at h
  rw [hr] at h
  simp only [Option.some.injEq,Obj.cells.injEq] at h
  exact absurd h.2.1 (by decide)
theorem oth_sla {w:World} {gp g mb ml mu q n:Nat} {kv:Value} {P:Pg} {d:Dk} {cs:List Int} (hp:PgAt w gp g mb kv ml mu P d) (hv:SlOld w (.slice (some ⟨q,0,none⟩) n n) cs) (hn:n=cs.length) (hr:∃fr,w.heap[q]?=some (.cells (u8s cs).toArray 5 fr)):SlA w (footP gp g mb kv ml mu) (.slice (some ⟨q,0,none⟩) n n) cs:=by
 subst hn
 obtain ⟨fr,hr⟩:=hr
 obtain ⟨p',c',he,hc,hs⟩:=hv
 cases he
 refine ⟨_,_,rfl,hc,fun h0=>?_⟩
 obtain ⟨b,o,hb,hsg⟩:=hs h0
 cases hb
 exact ⟨q,0,rfl,fun hh=>bytes_not hr (hp.mine q hh),hsg⟩
theorem kU {d:Dk} {j:Nat} {PB NW CH:List Int} (hlen:∀i,i<72→(d.now i).length=64) (hj:j<8) (hPB:secs d.now 32 8=PB) (hN:NW.length=512) (hsame:∀i,i<8→i≠j→(NW.drop (64 * i)).take 64=(PB.drop (64 * i)).take 64) (hCH:(NW.drop (64 * j)).take 64=CH) :
  secs (d.step.put (32+j) (over (d.now (32+j)) CH)).step.flushed.now 32 8=NW∧secs (d.step.put (32+j) (over (d.now (32+j)) CH)).step.flushed.now 40 8=secs d.now 40 8:=by
 have hl:CH.length=64:=by rw [←hCH,List.length_take,List.length_drop];omega
 have ho:∀i,i≠32+j→(d.step.put (32+j) (over (d.now (32+j)) CH)).step.flushed.now i=d.now i:=fun i hi=>by
  rw [Dk.flushed_now,Dk.step_now,Dk.put_now_other _ hi]
  rfl
 refine ⟨turned_secs j (fun i hi=>hlen _ (by omega)) hPB hN hsame ?_ ho,fq (fun i hi=>ho _ (by omega))⟩
 rw [Dk.flushed_now,Dk.step_now,Dk.put_nowA,over_full (hlen _ (by omega)) hl,hCH]
open Go Go.RowKit Go.Maps
theorem pturned_long (p:Option Addr) (n cap:Nat) (at_ by_:Int) (two:Bool) (hl:480<n) (w:World) (ht:Tab w) (hq:QTab w) (hw2:2≤w.heap.size) :
  Calls Tryz.prog 3 #[.slice p n cap,.int .u16 at_,.int .u8 by_,.bool two] w fun e w'=>e=.returned (.bool true)∧Below w.heap.size w w':=by
 have HT:Hid (Tab w):=ht
 have HQ:Hid (QTab w):=hq
 clear ht hq
 have e480:(480:Int)<(n:Int):=by omega
 go_enter Tryz.func3,Tryz.ntmps3
 go_wp2_with (first
  | (go_at_call 6;refine (ff _ HT.out HQ.out hw2).mono ?_;rintro e w1 ⟨rfl,hb⟩;have HB1:Hid (Below w.heap.size w w1):=hb;clear hb))
 go_ret
 exact ⟨rfl,HB1.out⟩
theorem nd (p:Option Addr) (cap at_ by_:Nat) (bs:List Int) (hat:at_<65536) (hby:by_<256) (hbl:bs.length≤480) (hbb:Bytes bs) (w:World) (hvb:SlOld w (.slice p bs.length cap) bs) (ht:Tab w) (hq:QTab w) (hw2:2≤w.heap.size) :
  Calls Tryz.prog 3 #[.slice p bs.length cap,.int .u16 (at_:Int),.int .u8 (by_:Int),.bool false] w fun e w'=>e=.returned (.bool true)∧Below w.heap.size w w':=by
 have HT:Hid (Tab w):=ht
 have HQ:Hid (QTab w):=hq
 clear ht hq
 have e480:¬(480:Int)<(bs.length:Int):=by omega
 obtain ⟨kP,hkP⟩:∃x,x=deriveOf kNine labPage 0:=⟨_,rfl⟩
 have HKP:Hid (∀_:Unit,deriveOf kNine labPage 0=kP):=fun _=>hkP.symm
 have HKD:Hid (∀_:Unit,deriveOf kNine (strB {data:=#[112,97,103,101]}) 0=kP):=fun _=>hkP.symm
 have HBB:Hid (Bytes bs):=hbb
 have HV0:Hid (SlOld w (.slice p bs.length cap) bs):=hvb
 have HOS:Hid (∀_:Unit,strOf [111,116,104,101,114]={data:=#[111,116,104,101,114]}):=fun _=>rfl
 obtain ⟨kk,hkk0⟩:∃k:Nat,k=at_ % 512:=⟨_,rfl⟩
 have hkk:(at_:Int).tmod 512=(kk:Int):=by rw [Int.tmod_eq_emod_of_nonneg (by omega)];omega
 have hk5:kk<512:=by omega
 have hk5i:(kk:Int)<512:=by omega
 obtain ⟨j,hj0⟩:∃j:Nat,j=kk / 64:=⟨_,rfl⟩
 have hj8:j<8:=by omega
 have hdv:(kk:Int).tdiv 64=(j:Int):=by rw [Int.tdiv_eq_ediv_of_nonneg (by omega)];omega
 have HJ0:Hid (j=kk / 64):=hj0
 clear hj0
 clear hkP hbb hvb hkk0
 go_enter Tryz.func3,Tryz.ntmps3
 go_wp2_with (first
  | (go_at_call 6;refine (ff _ HT.out HQ.out hw2).mono ?_;rintro e w1 ⟨rfl,hb⟩;have HB1:Hid (Below w.heap.size w w1):=hb;clear hb))
 have HW1:Hid (2≤w1.heap.size):=Nat.le_trans hw2 HB1.out.size
 have HVB:Hid (∀W,Below w1.heap.size w1 W→SlN w1 W (.slice p bs.length cap) bs):=fun W hW=>slnT HV0.out (HB1.out.trans (hW.mono HB1.out.size)) HB1.out.size
 refine (begun_s 5 (by omega) (by omega) w1 (HT.out.bel HB1.out) (HQ.out.bel HB1.out) HW1.out).mono ?_
 rintro e w2 ⟨gp,g,mb,kv,gm,q1,q2,rfl,hs,_,_⟩
 rw [HKP.out ()] at hs
 have HS:Hid (PgS w1 w2 gp g mb kv kP 5 (132) (fun _=>none) (fun _=>none) 0 {data:=#[]}):=hs
 clear hs HV0 HKP HT HQ
 go_wp2_with fail
 refine (jX (by omega) 0 (by omega) rfl (fun y hy=>by omega) _ HS.out).mono ?_
 rintro e w3 ⟨rfl,hs,_⟩
 replace HS:Hid (PgS w1 w3 gp g mb kv kP 5 (132) (upf (fun _=>none) 0 (some none)) (fun _=>none) 0 {data:=#[]}):=hs
 clear hs
 go_wp2_with fail
 refine (jX (by omega) 1 (by omega) rfl (fun y hy=>by obtain rfl:y=0:=(by omega);rfl) _ HS.out).mono ?_
 rintro e w4 ⟨rfl,hs,_⟩
 replace HS:Hid (PgS w1 w4 gp g mb kv kP 5 (132) (upf (upf (fun _=>none) 0 (some none)) 1 (some none)) (fun _=>none) 0 {data:=#[]}):=hs
 clear hs
 go_wp2_with fail
 refine (write_s 0 bs _ (by omega) (by omega) rfl hbl HBB.out (by omega) _ (HVB.out _ (PgS.bl HS.out)) HS.out).mono ?_
 rintro e w5 ⟨rfl,hs,_⟩
 replace HS:Hid (PgS w1 w5 gp g mb kv kP 5 (132+74) (upf (upf (upf (fun _=>none) 0 (some none)) 1 (some none)) 0 (some (some bs))) (fun _=>none) 0 {data:=#[]}):=hs
 clear hs HVB
 go_wp2_with (first
  | ((with_reducible refine cK (some 68) (.convert 22 22 (.tmp 67)) (some (13,false)) ?_);go_must (refine wpl_cvcT [111,116,104,101,114] rfl ai aL rfl rfl ?_);intro w6 gb hb6 hv hr6;have HV6:Hid (SlOld w6 (.slice (some ⟨gb,0,none⟩) 5 5) [111,116,104,101,114]∧∃fr,w6.heap[gb]?=some (.cells (u8s [111,116,104,101,114]).toArray 5 fr)):=⟨hv,hr6⟩;replace HS:Hid (PgS w1 w6 gp g mb kv kP 5 (132+74) (upf (upf (upf (fun _=>none) 0 (some none)) 1 (some none)) 0 (some (some bs))) (fun _=>none) 0 {data:=#[]}):=PgS.below HS.out hb6;clear hv hb6 hr6)
  | (go_at_call 9;refine (write_a 1 [111,116,104,101,114] _ (by omega) (by omega) rfl (by decide) i1 (by omega) _ (fun ml mu P d hp _=>oth_sla hp HV6.out.1 rfl HV6.out.2) HS.out).mono ?_;rintro e w7 ⟨rfl,hs,_⟩;replace HS:Hid (PgS w1 w7 gp g mb kv kP 5 (132+74+74) (upf (upf (upf (upf (fun _=>none) 0 (some none)) 1 (some none)) 0 (some (some bs))) 1 (some (some [111,116,104,101,114]))) (fun _=>none) 0 {data:=#[]}):=hs;clear hs HV6)
  | (go_at_call 10;refine (mp 1 {data:=#[]} (lT bs) (uT_is bs) (by omega) ⟨by omega,by omega⟩ (by decide) mtT_bytes (by omega) _ HS.out).mono ?_;rintro e w8 ⟨rfl,hs,_⟩;replace HS:Hid (PgS w1 w8 gp g mb kv kP 5 (132+74+74+66) (upf (upf (upf (upf (fun _=>none) 0 (some none)) 1 (some none)) 0 (some (some bs))) 1 (some (some [111,116,104,101,114]))) (lT bs) 1 {data:=#[]}):=hs;clear hs))
 obtain ⟨ml,mu,P,d,hsd⟩:=HS.out
 obtain ⟨s0,hu0,hs0⟩:∃s:Nat,P.used 0=some s∧Stands kP d 5 0 s bs:=by
  have h9:=hsd.u 0
  cases hu9:P.used 0 with
  | none=>rw [hu9] at h9;exact h9.elim
  | some s9=>rw [hu9] at h9;exact ⟨s9,rfl,h9⟩
 obtain ⟨s1,hu1,hs1⟩:∃s:Nat,P.used 1=some s∧Stands kP d 5 1 s [111,116,104,101,114]:=by
  have h9:=hsd.u 1
  cases hu9:P.used 1 with
  | none=>rw [hu9] at h9;exact h9.elim
  | some s9=>rw [hu9] at h9;exact ⟨s9,rfl,h9⟩
 obtain ⟨PB,hPB⟩:∃PB,PB=pageOf kP 0 s0 bs:=⟨_,rfl⟩
 have HPG:Hid (∀_:Unit,secs d.now 32 8=PB):=fun _=>hs0.page.trans hPB.symm
 have HPL:Hid (PB.length=512):=by show _=_;rw [hPB];exact bZ _ _ _ _
 have HPBB:Hid (Bytes PB):=by rw [hPB];exact eg _ _ _ HBB.out
 have hb0:=hs0.s0
 have hb1:=hs0.s1
 have hb2:=hs1.s0
 have HN8:Hid (∀_:Unit,numL (PB.take 8)=(s0:Int)):=fun _=>by rw [hPB,gC,ip (by omega)]
 have HY:Hid (∀_:Unit,codeP kP ((1:Nat):Int) (s1:Int) (secs d.now 40 8)=0∧outP kP ((1:Nat):Int) (s1:Int) (secs d.now 40 8)=[111,116,104,101,114]):=fun _=>by
  have h2:=j8 kP ((1:Nat):Int) s1 [111,116,104,101,114] (by have:=hs1.s1;omega) i1 (by decide)
  have h3:secs d.now 40 8=pageOf kP ((1:Nat):Int) (s1:Int) [111,116,104,101,114]:=hs1.page
  rw [h3]
  refine ⟨?_,h2.2⟩
  unfold codeP
  rw [if_pos h2.1]
 have HP:Hid (PgAt w8 gp g mb kv ml mu P d∧P.kP=kP∧P.off=false∧P.used 0=some s0∧P.used 1=some s1):=⟨hsd.at_,hsd.key,hsd.off,hu0,hu1⟩
 have HON:Hid (On d (132+74+74+66)∧d.n=72):=⟨hsd.on,hsd.n⟩
 have HE8:Hid (Tab w8∧QTab w8∧∀q∈foot g mb kv,2≤q):=⟨hsd.e.t,hsd.e.q,fun q hq=>hsd.e.g2 q (by simp [footP,hq])⟩
 have HFG:Hid (∀q∈foot g mb kv,w.heap.size≤q):=fun q hq=>Nat.le_trans HB1.out.size (hsd.e.ge q (by simp [footP,hq]))
 have HB8:Hid (Below w.heap.size w w8):=HB1.out.trans ((PgS.bl HS.out).mono HB1.out.size)
 have HDL:Hid ((∀i,i<72→(d.now i).length=64)∧∀i,i<72→Bytes (d.now i)):=⟨fun i hi=>hsd.at_.dk.ok.now (by rw [hsd.n];omega),fun i hi=>hsd.at_.dk.ok.nowB (by rw [hsd.n];omega)⟩
 have hc0:=Bytes.get HPBB.out kk
 obtain ⟨hc00,hc01⟩:=hc0
 have HKP2:Hid (kP.length=32∧Bytes kP):=by
  have h9:=hsd.at_.ok.kP
  rw [hsd.key] at h9
  exact h9
 obtain ⟨NW,hNW⟩:∃NW,NW=(PB.set kk (bits .xor .u8 (PB.getD kk 0) (by_:Int))):=⟨_,rfl⟩
 have HNL:Hid (NW.length=512):=by show _=_;rw [hNW];rw [List.length_set];exact HPL.out
 have HNB:Hid (Bytes NW):=by
  rw [hNW]
  exact Bytes.set HPBB.out kk _ (xor_byte (Bytes.get HPBB.out kk) (by omega))
 have HSM:Hid (∀i,i<8→i≠j→(NW.drop (64 * i)).take 64=(PB.drop (64 * i)).take 64):=fun i hi hij=>by
  rw [hNW]
  exact set_part PB kk i _ (by have:=HJ0.out;omega)
 obtain ⟨CH,hCH⟩:∃CH,CH=(NW.drop (64 * j)).take 64:=⟨_,rfl⟩
 have HCH:Hid (∀_:Unit,(NW.drop (64 * j)).take 64=CH):=fun _=>hCH.symm
 have HCL:Hid (CH.length≤64):=by show _≤_;rw [hCH,List.length_take];omega
 have HCB:Hid (Bytes CH):=by rw [hCH];exact (Bytes.drop HNB.out _).take _
 obtain ⟨d2,hd2⟩:∃d2,d2=(d.step.put (32+j) (over (d.now (32+j)) CH)).step.flushed:=⟨_,rfl⟩
 have HD2:Hid (∀_:Unit,(d.step.put (32+j) (over (d.now (32+j)) CH)).step.flushed=d2):=fun _=>hd2.symm
 have HTD:Hid (∀_:Unit,secs d2.now 32 8=NW∧secs d2.now 40 8=secs d.now 40 8):=fun _=>by
  rw [hd2]
  exact kU HDL.out.1 hj8 (HPG.out ()) HNL.out HSM.out hCH.symm
 have HD2N:Hid (d2.n=32+8 * 5∧d2.off=false):=by rw [hd2];exact ⟨HON.out.2,((HON.out.1.step.put _ _).step.flushed).off⟩
 obtain ⟨ok,hok⟩:∃b,b=okP kP ((0:Nat):Int) (s0:Int) NW:=⟨_,rfl⟩
 obtain ⟨RS,hRS⟩:∃r,r=outP kP ((0:Nat):Int) (s0:Int) NW:=⟨_,rfl⟩
 obtain ⟨cd,hcd⟩:∃c,c=codeP kP ((0:Nat):Int) (s0:Int) NW:=⟨_,rfl⟩
 have HOC:Hid (∀_:Unit,okP kP ((0:Nat):Int) (s0:Int) NW=ok∧outP kP ((0:Nat):Int) (s0:Int) NW=RS∧codeP kP ((0:Nat):Int) (s0:Int) NW=cd):=fun _=>⟨hok.symm,hRS.symm,hcd.symm⟩
 have HCO:Hid (cd=if ok=true then 0 else 50):=by show _=_;rw [hcd,hok];rfl
 have HNWE:Hid (∀_:Unit,NW=(PB.set kk (bits .xor .u8 (PB.getD kk 0) (by_:Int)))):=fun _=>hNW
 clear hsd hs0 hs1 hu0 hu1 hPB hNW hCH hd2 hok hRS hcd HS
 go_wp2_with (first
  | (go_at_call 11;refine (jx g mb kv d 0 HON.out.1.off (by rw [HON.out.2];omega) (by omega) _ (PgAt.dk HP.out.1)).mono ?_;rintro e w9 ⟨v9,rfl,ho,hb⟩;replace ho:OwnB 5 w9 w8.heap.size v9 (secs d.now 32 8):=ho;rw [HPG.out ()] at ho;obtain ⟨gw,cw,lw,hv,hgw,hrw,hcw⟩:=OwnB.row ho (by rw [HPL.out];omega);rw [HPL.out] at hv hcw;subst hv;have HRW:Hid (Row w9 gw (u8s PB++lw) 5∧w8.heap.size≤gw):=⟨hrw,hgw⟩;have HB9:Hid (Below w8.heap.size w8 w9):=hb;have hm:=Mem.start w9;clear ho hrw hgw hb)
  | ((with_reducible refine aa (some 89) (.call {callee:=.builtin .append,args:=#[.const (.slice none 0 0),.tmp 88],argTypes:=#[22,22]}) ?_);go_must (refine a6 rfl ai aD PB hm (OwnB.nil _ _ _) (by intro r hr;cases hr) rfl rfl HPL.out.symm (fun _=>⟨gw,0,rfl,cO HRW.out.1⟩) (by rw [HPL.out];decide) ?_);clear hm;intro v10 w10 ho hm;rw [List.nil_append] at ho;obtain ⟨gn,cn,ln,hv,hgn,hrn,hcn⟩:=OwnB.row ho (by rw [HPL.out];omega);rw [HPL.out] at hv hcn;subst hv;replace hm:=Mem.adoptT hm hrn hgn;have hce:w10.cell? ⟨gn,kk,none⟩=some (.int .u8 (PB.getD kk 0)):=(by have h9:=cO hrn kk (by rw [HPL.out];exact hk5);rw [Nat.zero_add] at h9;exact h9);have HGN:Hid (w9.heap.size≤gn):=hgn;clear ho hrn hgn)
  | ((with_reducible refine aa none (.store 5 (.tmp 96) (.tmp 95)) ?_);go_must (refine az 0 kk (.int .u8 (bits .xor .u8 (PB.getD kk 0) (by_:Int))) hm rfl rfl rfl av (by rw [List.length_append,ab,HPL.out];omega) rfl rfl ?_);clear hm hce;intro w11 hm))
 have HRN:Hid (Row w11 gn (u8s NW++ln) 5):=by
  have h9:=hm.get 0 rfl
  rw [HNWE.out (),←bi,←List.set_append_left _ _ (by rw [ab,HPL.out];exact hk5)]
  exact h9
 have HBW:Hid (Below w9.heap.size w9 w11):=hm.below
 clear hm
 have HB8W:Hid (Below w8.heap.size w8 w11):=HB9.out.trans (HBW.out.mono HB9.out.size)
 have HFL:Hid (∀x∈foot g mb kv,x<w8.heap.size):=(PgAt.dk HP.out.1).lt
 have HSW:Hid (SlA w11 (foot g mb kv) (.slice (some ⟨gw,0,none⟩) 512 cw) PB):=lM HPL.out.symm (Seg.below (cO HRW.out.1) HBW.out) hcw HRW.out.2 HFL.out
 have HSN:Hid (SlA w11 (foot g mb kv) (.slice (some ⟨gn,0,none⟩) 512 cn) NW):=lM HNL.out.symm (cO HRN.out) hcn (Nat.le_trans HB9.out.size HGN.out) HFL.out
 have HPW:Hid (PgAt w11 gp g mb kv ml mu P d):=PgAt.below HP.out.1 HB8W.out
 clear HRN HGN HRW
 go_wp2_with (first
  | ((with_reducible refine aa (some 128) (.slice 22 (.tmp 120) (some (.tmp 123)) (some (.tmp 127)) none) ?_);go_must (refine ag (.slice (some ⟨gn,64 * j,none⟩) 64 (cn - 64 * j)) rfl (eB ai av (64 * j) (64 * j) 64 (by omega) (by omega) (by omega) rfl rfl (by omega) rfl (by omega)) ?_)))
 refine (fw g mb kv d (32+j) CH _ HON.out.1.step.off (by rw [HON.out.2];omega) HCL.out HCB.out (HON.out.1.num (by omega)) _ (PgAt.dk HPW.out) (by rw [←HCH.out ()];exact SlA.chunk HSN.out HNL.out.symm j (by omega))).mono ?_
 rintro e wa ⟨rfl,hd,hu⟩
 have HPA:Hid (PgAt wa gp g mb kv ml mu P (d.step.put (32+j) (over (d.now (32+j)) CH))):=PgAt.setDisk HPW.out hd hu
 have HUA:Hid (UpdS (foot g mb kv) w11 wa):=hu
 clear hd hu
 go_wp2_with fail
 refine (jt g mb kv (d.step.put (32+j) (over (d.now (32+j)) CH)) (HON.out.1.step.put (32+j) (over (d.now (32+j)) CH)).step.off ((HON.out.1.step.put (32+j) (over (d.now (32+j)) CH)).num (by omega)) _ (PgAt.dk HPA.out)).mono ?_
 rintro e wb ⟨rfl,hd,hu⟩
 rw [HD2.out ()] at hd
 have HPB:Hid (PgAt wb gp g mb kv ml mu P d2):=PgAt.setDisk HPA.out hd hu
 have HUB:Hid (UpdS (foot g mb kv) w11 wb):=HUA.out.trans hu
 clear hd hu HPA
 go_wp2_with fail
 refine (ku kP 0 PB NW _ _ (by omega) HPL.out HNL.out HPBB.out HNB.out (HKD.out ()) _ (SlA.old (SlA.upd HSW.out HUB.out)) (SlA.old (SlA.upd HSN.out HUB.out))).mono ?_
 rintro e wc ⟨he,hb⟩
 rw [HN8.out (),(HOC.out ()).1,(HOC.out ()).2.1] at he
 subst he
 have HBC:Hid (Below wb.heap.size wb wc):=hb
 clear hb
 go_wp2_with fail
 have HUC:Hid (UpdS (foot g mb kv) w8 wc):=(UpdS.of_below HB8W.out).trans (HUB.out.trans (UpdS.of_below HBC.out))
 have HTC:Hid (Tab wc):=HE8.out.1.updS HUC.out HE8.out.2.2
 have HQC:Hid (QTab wc):=QTab.updS HE8.out.2.1 HUC.out HE8.out.2.2
 have HPC:Hid (PgAt wc gp g mb kv ml mu P d2):=PgAt.below HPB.out HBC.out
 refine (fZ gp g mb kv ml mu P d2 5 0 s0 HD2N.out.1 (by omega) (by omega) HP.out.2.2.1 HD2N.out.2 hb0 HP.out.2.2.2.1 _ HTC.out HQC.out HPC.out).mono ?_
 rintro e wd ⟨v',he,hv,hb⟩
 replace he:e=.returned (.tuple #[v',.int .i64 (codeP P.kP ((0:Nat):Int) (s0:Int) (secs d2.now 32 8))]):=he
 replace hv:SlOld wd v' (outP P.kP ((0:Nat):Int) (s0:Int) (secs d2.now 32 8)):=hv
 rw [(HTD.out ()).1,HP.out.2.1,(HOC.out ()).2.2] at he
 rw [(HTD.out ()).1,HP.out.2.1,(HOC.out ()).2.1] at hv
 obtain ⟨pr,cr,hv1,hv2,hv3⟩:=hv
 subst hv1
 subst he
 have HVR:Hid (SlOld wd (.slice pr RS.length cr) RS):=⟨pr,cr,rfl,hv2,hv3⟩
 have HBD:Hid (Below wc.heap.size wc wd):=hb
 clear hv2 hv3 hb
 go_wp2_with fail
 refine (fZ gp g mb kv ml mu P d2 5 1 s1 HD2N.out.1 (by omega) (by omega) HP.out.2.2.1 HD2N.out.2 hb2 HP.out.2.2.2.2 _ (HTC.out.bel HBD.out) (HQC.out.bel HBD.out) (PgAt.below HPC.out HBD.out)).mono ?_
 rintro e we ⟨v',he,hv,hb⟩
 replace he:e=.returned (.tuple #[v',.int .i64 (codeP P.kP ((1:Nat):Int) (s1:Int) (secs d2.now 40 8))]):=he
 replace hv:SlOld we v' (outP P.kP ((1:Nat):Int) (s1:Int) (secs d2.now 40 8)):=hv
 rw [(HTD.out ()).2,HP.out.2.1,(HY.out ()).1] at he
 rw [(HTD.out ()).2,HP.out.2.1,(HY.out ()).2] at hv
 obtain ⟨py,cy,hv1,hv2,hv3⟩:=hv
 subst hv1
 subst he
 have HVY:Hid (SlOld we (.slice py 5 cy) [111,116,104,101,114]):=⟨py,cy,rfl,hv2,hv3⟩
 have HVE:Hid (SlOld we (.slice pr RS.length cr) RS):=SlOld.below HVR.out hb
 have HFIN:Hid (Below w.heap.size w we):=by
  have h9:UpdS (foot g mb kv) w8 we:=HUC.out.trans ((UpdS.of_below HBD.out).trans (UpdS.of_below hb))
  exact b7 HB8.out h9 HFG.out
 clear hv2 hv3 hb
 have hcd:=HCO.out
 cases ok
 ·rw [if_neg (by simp)] at hcd
  subst hcd
  go_wp2_with (first
   | ((with_reducible refine cK (some 169) (.convert 22 9 (.tmp 168)) (some (12,true)) ?_);go_must (refine ag (.string (strOf RS)) rfl (aA ai aL aR _ rfl HVE.out) ?_))
   | ((with_reducible refine cK (some 179) (.convert 22 9 (.tmp 178)) (some (22,true)) ?_);go_must (refine ag (.string {data:=#[111,116,104,101,114]}) rfl (by rw [←HOS.out ()];exact aA ai aL aR _ rfl HVY.out) ?_)))
  go_ret
  exact ⟨rfl,HFIN.out⟩
 ·rw [if_pos rfl] at hcd
  subst hcd
  go_wp2_with (first
   | ((with_reducible refine cK (some 169) (.convert 22 9 (.tmp 168)) (some (12,true)) ?_);go_must (refine ag (.string (strOf RS)) rfl (aA ai aL aR _ rfl HVE.out) ?_))
   | ((with_reducible refine cK (some 179) (.convert 22 9 (.tmp 178)) (some (22,true)) ?_);go_must (refine ag (.string {data:=#[111,116,104,101,114]}) rfl (by rw [←HOS.out ()];exact aA ai aL aR _ rfl HVY.out) ?_)))
  go_ret
  exact ⟨rfl,HFIN.out⟩
theorem pturned_true (p:Option Addr) (cap at_ by_:Nat) (bs:List Int) (hat:at_<65536) (hbl:bs.length≤480) (hbb:Bytes bs) (w:World) (hvb:SlOld w (.slice p bs.length cap) bs) (ht:Tab w) (hq:QTab w) (hw2:2≤w.heap.size) :
  Calls Tryz.prog 3 #[.slice p bs.length cap,.int .u16 (at_:Int),.int .u8 (by_:Int),.bool true] w fun e w'=>e=.returned (.bool true)∧Below w.heap.size w w':=by
 have HT:Hid (Tab w):=ht
 have HQ:Hid (QTab w):=hq
 clear ht hq
 have e480:¬(480:Int)<(bs.length:Int):=by omega
 obtain ⟨kP,hkP⟩:∃x,x=deriveOf kNine labPage 0:=⟨_,rfl⟩
 have HKP:Hid (∀_:Unit,deriveOf kNine labPage 0=kP):=fun _=>hkP.symm
 have HKD:Hid (∀_:Unit,deriveOf kNine (strB {data:=#[112,97,103,101]}) 0=kP):=fun _=>hkP.symm
 have HBB:Hid (Bytes bs):=hbb
 have HV0:Hid (SlOld w (.slice p bs.length cap) bs):=hvb
 have HOS:Hid (∀_:Unit,strOf [111,116,104,101,114]={data:=#[111,116,104,101,114]}):=fun _=>rfl
 obtain ⟨kk,hkk0⟩:∃k:Nat,k=at_ % 512:=⟨_,rfl⟩
 have hkk:(at_:Int).tmod 512=(kk:Int):=by rw [Int.tmod_eq_emod_of_nonneg (by omega)];omega
 have hk5:kk<512:=by omega
 have hk5i:(kk:Int)<512:=by omega
 have hj8:0<8:=by omega
 clear hkP hbb hvb hkk0
 go_enter Tryz.func3,Tryz.ntmps3
 go_wp2_with (first
  | (go_at_call 6;refine (ff _ HT.out HQ.out hw2).mono ?_;rintro e w1 ⟨rfl,hb⟩;have HB1:Hid (Below w.heap.size w w1):=hb;clear hb))
 have HW1:Hid (2≤w1.heap.size):=Nat.le_trans hw2 HB1.out.size
 have HVB:Hid (∀W,Below w1.heap.size w1 W→SlN w1 W (.slice p bs.length cap) bs):=fun W hW=>slnT HV0.out (HB1.out.trans (hW.mono HB1.out.size)) HB1.out.size
 refine (begun_s 5 (by omega) (by omega) w1 (HT.out.bel HB1.out) (HQ.out.bel HB1.out) HW1.out).mono ?_
 rintro e w2 ⟨gp,g,mb,kv,gm,q1,q2,rfl,hs,_,_⟩
 rw [HKP.out ()] at hs
 have HS:Hid (PgS w1 w2 gp g mb kv kP 5 (132) (fun _=>none) (fun _=>none) 0 {data:=#[]}):=hs
 clear hs HV0 HKP HT HQ
 go_wp2_with fail
 refine (jX (by omega) 0 (by omega) rfl (fun y hy=>by omega) _ HS.out).mono ?_
 rintro e w3 ⟨rfl,hs,_⟩
 replace HS:Hid (PgS w1 w3 gp g mb kv kP 5 (132) (upf (fun _=>none) 0 (some none)) (fun _=>none) 0 {data:=#[]}):=hs
 clear hs
 go_wp2_with fail
 refine (jX (by omega) 1 (by omega) rfl (fun y hy=>by obtain rfl:y=0:=(by omega);rfl) _ HS.out).mono ?_
 rintro e w4 ⟨rfl,hs,_⟩
 replace HS:Hid (PgS w1 w4 gp g mb kv kP 5 (132) (upf (upf (fun _=>none) 0 (some none)) 1 (some none)) (fun _=>none) 0 {data:=#[]}):=hs
 clear hs
 go_wp2_with fail
 refine (write_s 0 bs _ (by omega) (by omega) rfl hbl HBB.out (by omega) _ (HVB.out _ (PgS.bl HS.out)) HS.out).mono ?_
 rintro e w5 ⟨rfl,hs,_⟩
 replace HS:Hid (PgS w1 w5 gp g mb kv kP 5 (132+74) (upf (upf (upf (fun _=>none) 0 (some none)) 1 (some none)) 0 (some (some bs))) (fun _=>none) 0 {data:=#[]}):=hs
 clear hs HVB
 go_wp2_with (first
  | ((with_reducible refine cK (some 68) (.convert 22 22 (.tmp 67)) (some (13,false)) ?_);go_must (refine wpl_cvcT [111,116,104,101,114] rfl ai aL rfl rfl ?_);intro w6 gb hb6 hv hr6;have HV6:Hid (SlOld w6 (.slice (some ⟨gb,0,none⟩) 5 5) [111,116,104,101,114]∧∃fr,w6.heap[gb]?=some (.cells (u8s [111,116,104,101,114]).toArray 5 fr)):=⟨hv,hr6⟩;replace HS:Hid (PgS w1 w6 gp g mb kv kP 5 (132+74) (upf (upf (upf (fun _=>none) 0 (some none)) 1 (some none)) 0 (some (some bs))) (fun _=>none) 0 {data:=#[]}):=PgS.below HS.out hb6;clear hv hb6 hr6)
  | (go_at_call 9;refine (write_a 1 [111,116,104,101,114] _ (by omega) (by omega) rfl (by decide) i1 (by omega) _ (fun ml mu P d hp _=>oth_sla hp HV6.out.1 rfl HV6.out.2) HS.out).mono ?_;rintro e w7 ⟨rfl,hs,_⟩;replace HS:Hid (PgS w1 w7 gp g mb kv kP 5 (132+74+74) (upf (upf (upf (upf (fun _=>none) 0 (some none)) 1 (some none)) 0 (some (some bs))) 1 (some (some [111,116,104,101,114]))) (fun _=>none) 0 {data:=#[]}):=hs;clear hs HV6)
  | (go_at_call 10;refine (mp 1 {data:=#[]} (lT bs) (uT_is bs) (by omega) ⟨by omega,by omega⟩ (by decide) mtT_bytes (by omega) _ HS.out).mono ?_;rintro e w8 ⟨rfl,hs,_⟩;replace HS:Hid (PgS w1 w8 gp g mb kv kP 5 (132+74+74+66) (upf (upf (upf (upf (fun _=>none) 0 (some none)) 1 (some none)) 0 (some (some bs))) 1 (some (some [111,116,104,101,114]))) (lT bs) 1 {data:=#[]}):=hs;clear hs))
 obtain ⟨ml,mu,P,d,hsd⟩:=HS.out
 obtain ⟨s0,hu0,hs0⟩:∃s:Nat,P.used 0=some s∧Stands kP d 5 0 s bs:=by
  have h9:=hsd.u 0
  cases hu9:P.used 0 with
  | none=>rw [hu9] at h9;exact h9.elim
  | some s9=>rw [hu9] at h9;exact ⟨s9,rfl,h9⟩
 obtain ⟨s1,hu1,hs1⟩:∃s:Nat,P.used 1=some s∧Stands kP d 5 1 s [111,116,104,101,114]:=by
  have h9:=hsd.u 1
  cases hu9:P.used 1 with
  | none=>rw [hu9] at h9;exact h9.elim
  | some s9=>rw [hu9] at h9;exact ⟨s9,rfl,h9⟩
 obtain ⟨PB,hPB⟩:∃PB,PB=pageOf kP 0 s0 bs:=⟨_,rfl⟩
 have HPG:Hid (∀_:Unit,secs d.now 32 8=PB):=fun _=>hs0.page.trans hPB.symm
 have HPL:Hid (PB.length=512):=by show _=_;rw [hPB];exact bZ _ _ _ _
 have HPBB:Hid (Bytes PB):=by rw [hPB];exact eg _ _ _ HBB.out
 have hb0:=hs0.s0
 have hb1:=hs0.s1
 have hb2:=hs1.s0
 have HN8:Hid (∀_:Unit,numL (PB.take 8)=(s0:Int)):=fun _=>by rw [hPB,gC,ip (by omega)]
 have HY:Hid (∀_:Unit,codeP kP ((1:Nat):Int) (s1:Int) (secs d.now 40 8)=0∧outP kP ((1:Nat):Int) (s1:Int) (secs d.now 40 8)=[111,116,104,101,114]):=fun _=>by
  have h2:=j8 kP ((1:Nat):Int) s1 [111,116,104,101,114] (by have:=hs1.s1;omega) i1 (by decide)
  have h3:secs d.now 40 8=pageOf kP ((1:Nat):Int) (s1:Int) [111,116,104,101,114]:=hs1.page
  rw [h3]
  refine ⟨?_,h2.2⟩
  unfold codeP
  rw [if_pos h2.1]
 have HP:Hid (PgAt w8 gp g mb kv ml mu P d∧P.kP=kP∧P.off=false∧P.used 0=some s0∧P.used 1=some s1):=⟨hsd.at_,hsd.key,hsd.off,hu0,hu1⟩
 have HON:Hid (On d (132+74+74+66)∧d.n=72):=⟨hsd.on,hsd.n⟩
 have HE8:Hid (Tab w8∧QTab w8∧∀q∈foot g mb kv,2≤q):=⟨hsd.e.t,hsd.e.q,fun q hq=>hsd.e.g2 q (by simp [footP,hq])⟩
 have HFG:Hid (∀q∈foot g mb kv,w.heap.size≤q):=fun q hq=>Nat.le_trans HB1.out.size (hsd.e.ge q (by simp [footP,hq]))
 have HB8:Hid (Below w.heap.size w w8):=HB1.out.trans ((PgS.bl HS.out).mono HB1.out.size)
 have HDL:Hid ((∀i,i<72→(d.now i).length=64)∧∀i,i<72→Bytes (d.now i)):=⟨fun i hi=>hsd.at_.dk.ok.now (by rw [hsd.n];omega),fun i hi=>hsd.at_.dk.ok.nowB (by rw [hsd.n];omega)⟩
 have hc0:=Bytes.get HPBB.out kk
 obtain ⟨hc00,hc01⟩:=hc0
 have HKP2:Hid (kP.length=32∧Bytes kP):=by
  have h9:=hsd.at_.ok.kP
  rw [hsd.key] at h9
  exact h9
 obtain ⟨NW,hNW⟩:∃NW,NW=(d.now 40++PB.drop 64):=⟨_,rfl⟩
 have HNL:Hid (NW.length=512):=by show _=_;rw [hNW];rw [List.length_append,List.length_drop,HPL.out,HDL.out.1 40 (by omega)]
 have HNB:Hid (Bytes NW):=by
  rw [hNW]
  exact (HDL.out.2 40 (by omega)).append (Bytes.drop HPBB.out 64)
 have HSM:Hid (∀i,i<8→i≠0→(NW.drop (64 * i)).take 64=(PB.drop (64 * i)).take 64):=fun i hi hij=>by
  rw [hNW]
  exact two_part _ PB (HDL.out.1 40 (by omega)) i (by omega)
 obtain ⟨CH,hCH⟩:∃CH,CH=(NW.drop (64 * 0)).take 64:=⟨_,rfl⟩
 have HCH:Hid (∀_:Unit,(NW.drop (64 * 0)).take 64=CH):=fun _=>hCH.symm
 have HCL:Hid (CH.length≤64):=by show _≤_;rw [hCH,List.length_take];omega
 have HCB:Hid (Bytes CH):=by rw [hCH];exact (Bytes.drop HNB.out _).take _
 obtain ⟨d2,hd2⟩:∃d2,d2=(d.step.put (32+0) (over (d.now (32+0)) CH)).step.flushed:=⟨_,rfl⟩
 have HD2:Hid (∀_:Unit,(d.step.put (32+0) (over (d.now (32+0)) CH)).step.flushed=d2):=fun _=>hd2.symm
 have HTD:Hid (∀_:Unit,secs d2.now 32 8=NW∧secs d2.now 40 8=secs d.now 40 8):=fun _=>by
  rw [hd2]
  exact kU HDL.out.1 hj8 (HPG.out ()) HNL.out HSM.out hCH.symm
 have HD2N:Hid (d2.n=32+8 * 5∧d2.off=false):=by rw [hd2];exact ⟨HON.out.2,((HON.out.1.step.put _ _).step.flushed).off⟩
 obtain ⟨ok,hok⟩:∃b,b=okP kP ((0:Nat):Int) (s0:Int) NW:=⟨_,rfl⟩
 obtain ⟨RS,hRS⟩:∃r,r=outP kP ((0:Nat):Int) (s0:Int) NW:=⟨_,rfl⟩
 obtain ⟨cd,hcd⟩:∃c,c=codeP kP ((0:Nat):Int) (s0:Int) NW:=⟨_,rfl⟩
 have HOC:Hid (∀_:Unit,okP kP ((0:Nat):Int) (s0:Int) NW=ok∧outP kP ((0:Nat):Int) (s0:Int) NW=RS∧codeP kP ((0:Nat):Int) (s0:Int) NW=cd):=fun _=>⟨hok.symm,hRS.symm,hcd.symm⟩
 have HCO:Hid (cd=if ok=true then 0 else 50):=by show _=_;rw [hcd,hok];rfl
 have HNWE:Hid (∀_:Unit,NW=(d.now 40++PB.drop 64)):=fun _=>hNW
 clear hsd hs0 hs1 hu0 hu1 hPB hNW hCH hd2 hok hRS hcd HS
 go_wp2_with (first
  | (go_at_call 11;refine (jx g mb kv d 0 HON.out.1.off (by rw [HON.out.2];omega) (by omega) _ (PgAt.dk HP.out.1)).mono ?_;rintro e w9 ⟨v9,rfl,ho,hb⟩;replace ho:OwnB 5 w9 w8.heap.size v9 (secs d.now 32 8):=ho;rw [HPG.out ()] at ho;obtain ⟨gw,cw,lw,hv,hgw,hrw,hcw⟩:=OwnB.row ho (by rw [HPL.out];omega);rw [HPL.out] at hv hcw;subst hv;have HRW:Hid (Row w9 gw (u8s PB++lw) 5∧w8.heap.size≤gw):=⟨hrw,hgw⟩;have HB9:Hid (Below w8.heap.size w8 w9):=hb;have hm:=Mem.start w9;clear ho hrw hgw hb)
  | ((with_reducible refine aa (some 89) (.call {callee:=.builtin .append,args:=#[.const (.slice none 0 0),.tmp 88],argTypes:=#[22,22]}) ?_);go_must (refine a6 rfl ai aD PB hm (OwnB.nil _ _ _) (by intro r hr;cases hr) rfl rfl HPL.out.symm (fun _=>⟨gw,0,rfl,cO HRW.out.1⟩) (by rw [HPL.out];decide) ?_);clear hm;intro v10 w10 ho hm;rw [List.nil_append] at ho;obtain ⟨gn,cn,ln,hv,hgn,hrn,hcn⟩:=OwnB.row ho (by rw [HPL.out];omega);rw [HPL.out] at hv hcn;subst hv;replace hm:=Mem.adoptT hm hrn hgn;have hce:w10.cell? ⟨gn,kk,none⟩=some (.int .u8 (PB.getD kk 0)):=(by have h9:=cO hrn kk (by rw [HPL.out];exact hk5);rw [Nat.zero_add] at h9;exact h9);have HGN:Hid (w9.heap.size≤gn):=hgn;clear ho hrn hgn)
  | ((with_reducible refine aa none (.store 5 (.tmp 96) (.tmp 95)) ?_);go_must (refine az 0 kk (.int .u8 (bits .xor .u8 (PB.getD kk 0) (by_:Int))) hm rfl rfl rfl av (by rw [List.length_append,ab,HPL.out];omega) rfl rfl ?_);clear hm hce;intro w11 hm))
 go_wp2_with (first
  | (go_at_call 12;refine (kO g mb kv d 40 HON.out.1.off (by rw [HON.out.2];omega) _ (DkAt.below (PgAt.dk HP.out.1) (HB9.out.trans (hm.below.mono HB9.out.size)))).mono ?_;rintro e w12 ⟨q,rfl,hq,hr,hb⟩;have HRO:Hid (Row w12 q (u8s (d.now 40)) 105):=hr;replace hm:=hm.tail.call hb;clear hb hr hq HGN))
 have HOL:Hid ((d.now 40).length=64):=HDL.out.1 40 (by omega)
 refine ar ?_
 refine dB (T:=fun W=>Mem w9 [] W []) (by kernel_rfl) hm ?_
 clear hm
 intro w13 hb13 hm
 have HRO3:Hid (Row w13 q (u8s (d.now 40)) 105):=Row.below' HRO.out hb13
 clear hb13
 refine aT 0 (v:=.slice (some ⟨q,0,none⟩) 64 64) rfl (by kernel_rfl) rfl (fun W _=>by go_simp) hm ?_
 go_simp
 refine aT 2 (v:=.slice (some ⟨gw,0,none⟩) 512 cw) rfl (by kernel_rfl) rfl (fun W _=>by go_simp) hm ?_
 go_simp
 refine aT 3 (v:=.slice (some ⟨gw,0+64,none⟩) 448 (cw - 64)) rfl (by kernel_rfl) rfl (fun W _=>by rw [←cutLo_T gw 0 cw 64 (by omega)];exact dx (len:=512) (cap:=cw) ai av 64 (by omega) rfl rfl rfl) hm ?_
 go_simp
 refine aO 1 (by kernel_rfl) rfl rfl ?_
 intro K hK
 refine a6 rfl ai aD (d.now 40) hm (OwnB.nil _ _ _) (by intro r hr;cases hr) rfl rfl HOL.out.symm (fun _=>⟨q,0,rfl,Seg.row HRO3.out⟩) (by rw [HOL.out];decide) ?_
 clear hm
 intro v14 w14 ho hm
 have HO4:Hid (OwnB 5 w14 w9.heap.size v14 (d.now 40)):=ho
 clear ho
 refine wpList_nil ?_
 refine hK _ _ hm ?_
 clear hK K
 refine aO 4 (by kernel_rfl) rfl rfl ?_
 intro K hK
 refine a6 rfl ai aD (PB.drop 64) hm HO4.out (by intro r hr;cases hr) rfl rfl (by rw [List.length_drop,HPL.out]) (fun _=>⟨gw,64,rfl,by have h9:=(Seg.below (cO HRW.out.1) hm.below).drop 64;rw [Nat.zero_add] at h9;exact h9⟩) (by rw [HOL.out,List.length_drop,HPL.out];decide) ?_
 clear hm
 intro v15 w15 ho hm
 rw [←HNWE.out ()] at ho
 obtain ⟨gn,cn,ln,hv,hgn,hrn,hcn⟩:=OwnB.row ho (by rw [HNL.out];omega)
 rw [HNL.out] at hv hcn
 subst hv
 have HRN:Hid (Row w15 gn (u8s NW++ln) 5):=hrn
 have HGN:Hid (w9.heap.size≤gn):=hgn
 have HBW:Hid (Below w9.heap.size w9 w15):=hm.below
 clear ho hrn hgn
 refine wpList_nil ?_
 refine hK _ _ hm ?_
 clear hK K
 refine aT 5 (v:=.slice (some ⟨gn,0,none⟩) 512 cn) rfl (by kernel_rfl) rfl (fun W _=>by go_simp) hm ?_
 go_simp
 refine wpAnyH_done (by kernel_rfl) ?_ _
 simp only [endsIn]
 have HB8W:Hid (Below w8.heap.size w8 w15):=HB9.out.trans (HBW.out.mono HB9.out.size)
 have HFL:Hid (∀x∈foot g mb kv,x<w8.heap.size):=(PgAt.dk HP.out.1).lt
 have HSW:Hid (SlA w15 (foot g mb kv) (.slice (some ⟨gw,0,none⟩) 512 cw) PB):=lM HPL.out.symm (Seg.below (cO HRW.out.1) HBW.out) hcw HRW.out.2 HFL.out
 have HSN:Hid (SlA w15 (foot g mb kv) (.slice (some ⟨gn,0,none⟩) 512 cn) NW):=lM HNL.out.symm (cO HRN.out) hcn (Nat.le_trans HB9.out.size HGN.out) HFL.out
 have HPW:Hid (PgAt w15 gp g mb kv ml mu P d):=PgAt.below HP.out.1 HB8W.out
 clear HRN HGN HRW
 go_wp2_with (first
  | ((with_reducible refine aa (some 128) (.slice 22 (.tmp 120) (some (.tmp 123)) (some (.tmp 127)) none) ?_);go_must (refine ag (.slice (some ⟨gn,64 * 0,none⟩) 64 (cn - 64 * 0)) rfl (eB ai av (64 * 0) (64 * 0) 64 (by omega) (by omega) (by omega) rfl rfl (by omega) rfl (by omega)) ?_)))
 refine (fw g mb kv d (32+0) CH _ HON.out.1.step.off (by rw [HON.out.2];omega) HCL.out HCB.out (HON.out.1.num (by omega)) _ (PgAt.dk HPW.out) (by rw [←HCH.out ()];exact SlA.chunk HSN.out HNL.out.symm 0 (by omega))).mono ?_
 rintro e wa ⟨rfl,hd,hu⟩
 have HPA:Hid (PgAt wa gp g mb kv ml mu P (d.step.put (32+0) (over (d.now (32+0)) CH))):=PgAt.setDisk HPW.out hd hu
 have HUA:Hid (UpdS (foot g mb kv) w15 wa):=hu
 clear hd hu
 go_wp2_with fail
 refine (jt g mb kv (d.step.put (32+0) (over (d.now (32+0)) CH)) (HON.out.1.step.put (32+0) (over (d.now (32+0)) CH)).step.off ((HON.out.1.step.put (32+0) (over (d.now (32+0)) CH)).num (by omega)) _ (PgAt.dk HPA.out)).mono ?_
 rintro e wb ⟨rfl,hd,hu⟩
 rw [HD2.out ()] at hd
 have HPB:Hid (PgAt wb gp g mb kv ml mu P d2):=PgAt.setDisk HPA.out hd hu
 have HUB:Hid (UpdS (foot g mb kv) w15 wb):=HUA.out.trans hu
 clear hd hu HPA
 go_wp2_with fail
 refine (ku kP 0 PB NW _ _ (by omega) HPL.out HNL.out HPBB.out HNB.out (HKD.out ()) _ (SlA.old (SlA.upd HSW.out HUB.out)) (SlA.old (SlA.upd HSN.out HUB.out))).mono ?_
 rintro e wc ⟨he,hb⟩
 rw [HN8.out (),(HOC.out ()).1,(HOC.out ()).2.1] at he
 subst he
 have HBC:Hid (Below wb.heap.size wb wc):=hb
 clear hb
 go_wp2_with fail
 have HUC:Hid (UpdS (foot g mb kv) w8 wc):=(UpdS.of_below HB8W.out).trans (HUB.out.trans (UpdS.of_below HBC.out))
 have HTC:Hid (Tab wc):=HE8.out.1.updS HUC.out HE8.out.2.2
 have HQC:Hid (QTab wc):=QTab.updS HE8.out.2.1 HUC.out HE8.out.2.2
 have HPC:Hid (PgAt wc gp g mb kv ml mu P d2):=PgAt.below HPB.out HBC.out
 refine (fZ gp g mb kv ml mu P d2 5 0 s0 HD2N.out.1 (by omega) (by omega) HP.out.2.2.1 HD2N.out.2 hb0 HP.out.2.2.2.1 _ HTC.out HQC.out HPC.out).mono ?_
 rintro e wd ⟨v',he,hv,hb⟩
 replace he:e=.returned (.tuple #[v',.int .i64 (codeP P.kP ((0:Nat):Int) (s0:Int) (secs d2.now 32 8))]):=he
 replace hv:SlOld wd v' (outP P.kP ((0:Nat):Int) (s0:Int) (secs d2.now 32 8)):=hv
 rw [(HTD.out ()).1,HP.out.2.1,(HOC.out ()).2.2] at he
 rw [(HTD.out ()).1,HP.out.2.1,(HOC.out ()).2.1] at hv
 obtain ⟨pr,cr,hv1,hv2,hv3⟩:=hv
 subst hv1
 subst he
 have HVR:Hid (SlOld wd (.slice pr RS.length cr) RS):=⟨pr,cr,rfl,hv2,hv3⟩
 have HBD:Hid (Below wc.heap.size wc wd):=hb
 clear hv2 hv3 hb
 go_wp2_with fail
 refine (fZ gp g mb kv ml mu P d2 5 1 s1 HD2N.out.1 (by omega) (by omega) HP.out.2.2.1 HD2N.out.2 hb2 HP.out.2.2.2.2 _ (HTC.out.bel HBD.out) (HQC.out.bel HBD.out) (PgAt.below HPC.out HBD.out)).mono ?_
 rintro e we ⟨v',he,hv,hb⟩
 replace he:e=.returned (.tuple #[v',.int .i64 (codeP P.kP ((1:Nat):Int) (s1:Int) (secs d2.now 40 8))]):=he
 replace hv:SlOld we v' (outP P.kP ((1:Nat):Int) (s1:Int) (secs d2.now 40 8)):=hv
 rw [(HTD.out ()).2,HP.out.2.1,(HY.out ()).1] at he
 rw [(HTD.out ()).2,HP.out.2.1,(HY.out ()).2] at hv
 obtain ⟨py,cy,hv1,hv2,hv3⟩:=hv
 subst hv1
 subst he
 have HVY:Hid (SlOld we (.slice py 5 cy) [111,116,104,101,114]):=⟨py,cy,rfl,hv2,hv3⟩
 have HVE:Hid (SlOld we (.slice pr RS.length cr) RS):=SlOld.below HVR.out hb
 have HFIN:Hid (Below w.heap.size w we):=by
  have h9:UpdS (foot g mb kv) w8 we:=HUC.out.trans ((UpdS.of_below HBD.out).trans (UpdS.of_below hb))
  exact b7 HB8.out h9 HFG.out
 clear hv2 hv3 hb
 have hcd:=HCO.out
 cases ok
 ·rw [if_neg (by simp)] at hcd
  subst hcd
  go_wp2_with (first
   | ((with_reducible refine cK (some 169) (.convert 22 9 (.tmp 168)) (some (12,true)) ?_);go_must (refine ag (.string (strOf RS)) rfl (aA ai aL aR _ rfl HVE.out) ?_))
   | ((with_reducible refine cK (some 179) (.convert 22 9 (.tmp 178)) (some (22,true)) ?_);go_must (refine ag (.string {data:=#[111,116,104,101,114]}) rfl (by rw [←HOS.out ()];exact aA ai aL aR _ rfl HVY.out) ?_)))
  go_ret
  exact ⟨rfl,HFIN.out⟩
 ·rw [if_pos rfl] at hcd
  subst hcd
  go_wp2_with (first
   | ((with_reducible refine cK (some 169) (.convert 22 9 (.tmp 168)) (some (12,true)) ?_);go_must (refine ag (.string (strOf RS)) rfl (aA ai aL aR _ rfl HVE.out) ?_))
   | ((with_reducible refine cK (some 179) (.convert 22 9 (.tmp 178)) (some (22,true)) ?_);go_must (refine ag (.string {data:=#[111,116,104,101,114]}) rfl (by rw [←HOS.out ()];exact aA ai aL aR _ rfl HVY.out) ?_)))
  go_ret
  exact ⟨rfl,HFIN.out⟩
theorem pturned_any (p:Option Addr) (cap at_ by_:Nat) (two:Bool) (bs:List Int) (hat:at_<65536) (hby:by_<256) (hbb:Bytes bs) (w:World) (hvb:SlOld w (.slice p bs.length cap) bs) (ht:Tab w) (hq:QTab w) (hw2:2≤w.heap.size) :
  Calls Tryz.prog 3 #[.slice p bs.length cap,.int .u16 (at_:Int),.int .u8 (by_:Int),.bool two] w fun e w'=>e=.returned (.bool true)∧Below w.heap.size w w':=by
 by_cases h:bs.length≤480
 ·cases two with
  | false=>exact nd p cap at_ by_ bs hat hby h hbb w hvb ht hq hw2
  | true=>exact pturned_true p cap at_ by_ bs hat h hbb w hvb ht hq hw2
 ·exact pturned_long p bs.length cap at_ by_ two (by omega) w ht hq hw2
end Go.Proofs.YtdkkdkgdaambiaaGreatDoor
