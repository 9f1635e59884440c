import Derived.Test.YtlpnafdkhoimhaaGreatDoorQr35
import Derived.Test.YtlpnafdkhoimhaaGreatDoorQr02
import Derived.Deep.QuietTactic
import Derived.BigQuiet
set_option maxRecDepth 100000
set_option maxHeartbeats 4000000
namespace Go.Proofs.YtlpnafdkhoimhaaGreatDoor
open Go Go.RowKit
theorem seg4s {w:World} {b off:Nat} {bs:List Int} (h:Seg w b off bs) (k:Nat) (hk:4 * k+3<bs.length) :
  Seg w b (off+4 * k) [bs.getD (4 * k) 0,bs.getD (4 * k+1) 0,bs.getD (4 * k+2) 0,bs.getD (4 * k+3) 0]:=by
 intro j hj
 have hj4:j<4:=by simpa using hj
 have hq:=h (4 * k+j) (by omega)
 rw [Nat.add_assoc,hq]
 match j,hj4 with
 | 0,_=>rfl
 | 1,_=>rfl
 | 2,_=>rfl
 | 3,_=>rfl
theorem bigRef4_any (b off cap:Nat) (c0 c1 c2 c3:Int) (w:World) (hc:Seg w b off [c0,c1,c2,c3]) (h0:0≤c0∧c0<256) (h1:0≤c1∧c1<256) (h2:0≤c2∧c2<256) (h3:0≤c3∧c3<256) :
  Calls Tryz.prog 194 #[.slice (some ⟨b,off,none⟩) 4 cap] w fun e w'=>e=.returned (.int .u32 (big4 c0 c1 c2 c3))∧w'=w:=by
 rw [bigN_4 c0 c1 c2 c3 h0 h1 h2 h3]
 refine bigRef_any b off cap [c0,c1,c2,c3] w rfl hc ?_
 intro x hx
 simp only [List.mem_cons,List.not_mem_nil,or_false] at hx
 rcases hx with rfl|rfl|rfl|rfl<;>assumption
theorem eight (l:List Int) (hl:l.length=8):∃a b c d e f g h,l=[a,b,c,d,e,f,g,h]:=by
 match l,hl with
 | [a,b,c,d,e,f,g,h],_=>exact ⟨a,b,c,d,e,f,g,h,rfl⟩
theorem block_step {w wr:World} {rows:List (Nat×List Value×TypeId)} {g6 g5:Nat} {bs:List Int} {t t':TypeId} {l:List Value} {m:Nat} (hm:Mem w [] wr ((g6,l,t')::(g5,u32s (schedRow bs (m+16)),t)::rows)) (n:Nat) (hlt:m<48) (x:Int) (hx:x=nextW (sched bs (m+16)) (m+16)) :
  Mem w [] ((wr.drewN n).setCell ⟨g5,m+16,none⟩ (.int .u32 x)) ((g6,l,t')::(g5,u32s (schedRow bs (m+16+1)),t)::rows):=by
 have h:=(hm.drewN n).setCell 1 rfl (m+16) (.int .u32 x)
 rw [List.set_cons_succ,List.set_cons_zero,cH,d7 bs (m+16) (by omega) x (by rw [if_neg (by omega)];exact hx)] at h
 exact h
theorem blockRef_any (ws bs:List Int) (b off cap:Nat) (hws:ws.length=8) (hbs:bs.length=64) (hcap:64≤cap) (hby:∀j,0≤bs.getD j 0∧bs.getD j 0<256) (w:World) (hsg:Seg w b off bs) :
  Calls Tryz.prog 163 #[.agg (u32s ws).toArray,.slice (some ⟨b,off,none⟩) 64 cap] w fun e w'=>e=.returned (.agg (u32s (mix ws bs)).toArray)∧Below w.heap.size w w':=by
 match ws,hws with
 | [x0,x1,x2,x3,x4,x5,x6,x7],_ =>
 have hm:=Mem.start w
 have HS:Hid (Seg w b off bs):=hsg
 have HBY:Hid _:=hby
 have HBS:Hid _:=hbs
 clear hsg hby hbs
 go_enter Tryz.func163,Tryz.ntmps163
 go_wp2_with (first
  | ((with_reducible refine ae (some 2) (.box 222 (.tmp 0)) ?_);refine az (u32s [x0,x1,x2,x3,x4,x5,x6,x7]) rfl hm ?_;clear hm;intro w1 g2 hm)
  | ((with_reducible refine ae (some 4) (.alloc 222) ?_);refine ag _ dP hm ?_;clear hm;intro w2 g4 hm)
  | ((with_reducible refine ae (some 5) (.alloc 259) ?_);refine ag _ e7 hm ?_;clear hm;intro w3 g5 hm)
  | (go_at_call 193;refine (lx _).mono ?_;rintro e w4 ⟨rfl,hb⟩;replace hm:=hm.call hb;clear hb)
  | ((with_reducible refine ae (some 6) (.alloc 259) ?_);refine ag _ e7 hm ?_;clear hm;intro w5 g6 hm)
  | ((with_reducible refine ae none (.store 259 (.tmp 6) (.tmp 19)) ?_);refine ah 0 (u32s kTab) hm rfl rfl rfl 64 gX (by simp [ao]) (rfl) (aX _) ?_;clear hm;intro w6 hm))

 go_loopw [7] (fun vi wr=>∃k:Nat,k≤64∧vi=.int .i64 k∧Mem w [] wr [(g6,u32s kTab,259),(g5,u32s (schedRow bs k),259),(g4,u32s (List.replicate 8 0),222),(g2,u32s [x0,x1,x2,x3,x4,x5,x6,x7],222)]) (fun vi _=>64 - (intOf vi).toNat)
 case atStart=>exact ⟨0,by omega,rfl,hm⟩
 case round =>
  clear hm
  obtain ⟨k,hk,rfl,hm⟩:=hrel
  by_cases hlt:k<64
  ·by_cases h16:k<16
   ·have h16i:(k:Int)<16:=by omega
    have e1:4 * (k:Int)=((4 * k:Nat):Int):=by omega
    have e2:4 * (k:Int)+4=((4 * k+4:Nat):Int):=by omega
    have E1:Hid _:=e1
    have E2:Hid _:=e2
    clear e1 e2
    have hsq:=HS.out.mem hm (by simp)
    have hs4:=seg4s hsq k (by rw [HBS.out];omega)
    have HQ:Hid _:=And.intro (HBY.out (4 * k)) (And.intro (HBY.out (4 * k+1)) (And.intro (HBY.out (4 * k+2)) (And.intro (HBY.out (4 * k+3)) hs4)))
    clear hsq hs4
    go_wp2_with (first
     | ((with_reducible refine ae (some 33) (.slice 56 (.tmp 27) (some (.tmp 29)) (some (.tmp 32)) none) ?_);refine wpl_slh aF aQ (4 * k) 4 (by omega) (by omega) rfl rfl E1.out rfl E2.out ?_)
     | (go_at_call 194;refine (bigRef4_any _ _ _ _ _ _ _ _ HQ.out.2.2.2.2 HQ.out.1 HQ.out.2.1 HQ.out.2.2.1 HQ.out.2.2.2.1).mono ?_;rintro e w7 ⟨rfl,rfl⟩)
     | ((with_reducible refine ae none (.store 69 (.tmp 35) (.tmp 34)) ?_);refine bj 1 k (.int .u32 (big4 (bs.getD (4 * k) 0) (bs.getD (4 * k+1) 0) (bs.getD (4 * k+2) 0) (bs.getD (4 * k+3) 0))) hm rfl (rfl) rfl dB (by simp [ao,bg _ _ (show k≤64 by omega)];omega) rfl rfl ?_;clear hm;intro w8 hm))

    have hn:Mem w [] w8 [(g6,u32s kTab,259),(g5,u32s (schedRow bs (k+1)),259),(g4,u32s (List.replicate 8 0),222),(g2,u32s [x0,x1,x2,x3,x4,x5,x6,x7],222)]:=by
     rw [List.set_cons_succ,List.set_cons_zero,cH,d7 bs k (by omega) _ (by rw [if_pos h16])] at hm
     exact hm
    clear hm
    go_roundw
    case rel=>exact ⟨k+1,by omega,by go_num,hn⟩
    case measure=>simp [intOf];omega
   ·obtain ⟨m,rfl⟩:∃m,k=m+16:=⟨k - 16,by omega⟩
    have hrow:=hm.get 1 rfl
    obtain ⟨a15,ha15⟩:∃x,x=(sched bs (m+16)).getD (m+1) 0:=⟨_,rfl⟩
    obtain ⟨a2,ha2⟩:∃x,x=(sched bs (m+16)).getD (m+14) 0:=⟨_,rfl⟩
    obtain ⟨a7,ha7⟩:∃x,x=(sched bs (m+16)).getD (m+9) 0:=⟨_,rfl⟩
    obtain ⟨a16,ha16⟩:∃x,x=(sched bs (m+16)).getD m 0:=⟨_,rfl⟩
    have hc15:wr.cell? ⟨g5,m+1,none⟩=some (.int .u32 a15):=by rw [hrow.cell,aU _ _ (by rw [bg _ _ (by omega)];omega),cf _ _ _ (by omega),ha15]
    have hc2:wr.cell? ⟨g5,m+14,none⟩=some (.int .u32 a2):=by rw [hrow.cell,aU _ _ (by rw [bg _ _ (by omega)];omega),cf _ _ _ (by omega),ha2]
    have hc7:wr.cell? ⟨g5,m+9,none⟩=some (.int .u32 a7):=by rw [hrow.cell,aU _ _ (by rw [bg _ _ (by omega)];omega),cf _ _ _ (by omega),ha7]
    have hc16:wr.cell? ⟨g5,m,none⟩=some (.int .u32 a16):=by rw [hrow.cell,aU _ _ (by rw [bg _ _ (by omega)];omega),cf _ _ _ (by omega),ha16]
    have hck:wr.cell? ⟨g5,m+16,none⟩=some (.int .u32 ((schedRow bs (m+16)).getD (m+16) 0)):=by rw [hrow.cell,aU _ _ (by rw [bg _ _ (by omega)];omega)]
    have hfk:wr.frozen? ⟨g5,m+16,none⟩=false:=hrow.free _
    have hnx:nextW (sched bs (m+16)) (m+16)=(sig1 a2+a7+sig0 a15+a16) % 4294967296:=by
     rw [ha15,ha2,ha7,ha16];rfl
    have hnext:nextW (sched bs (m+16)) (m+16)=(a16+sig0 a15+a7+sig1 a2) % 4294967296:=by
     rw [hnx];congr 1;omega
    have HN:Hid _:=hnext
    have HM:Hid _:=hm
    clear hnext hnx hm ha15 ha2 ha7 ha16 hrow
    go_wp2_with fail
    go_quiet (fail)
    go_wp2_with (go_at_call 195;refine (jA _ _ _ (by omega) (by omega)).mono ?_;rintro e w' ⟨rfl,rfl⟩)
    go_region
    go_wp2
    go_roundw
    case rel=>exact ⟨m+16+1,by omega,by go_num,block_step HM.out _ (by omega) _ HN.out.symm⟩
    case measure=>simp [intOf];omega
  ·have hk64:k=64:=by omega
   subst hk64
   rw [gM] at hm
   clear HS HBY HBS
   go_wp2_with (first
    | ((with_reducible refine ae (some 75) (.load 222 (.tmp 2)) ?_);refine av 3 hm rfl rfl _ eA rfl 8 bU (rfl) ?_)
    | ((with_reducible refine ae (some 12) (.alloc 222) ?_);refine ag _ dP hm ?_;clear hm;intro w9 g12 hm)
    | ((with_reducible refine ae none (.store 222 (.tmp 12) (.tmp 75)) ?_);refine ah 0 (u32s [x0,x1,x2,x3,x4,x5,x6,x7]) hm rfl rfl rfl 8 bU (by simp [ao]) (rfl) (aX _) ?_;clear hm;intro w10 hm))

   go_loopw [13] (fun vi wr=>∃k:Nat,k≤64∧vi=.int .i64 k∧Hid (Mem w [] wr [(g12,u32s (shaRounds [x0,x1,x2,x3,x4,x5,x6,x7] (sched bs 64) k),222),(g6,u32s kTab,259),(g5,u32s (sched bs 64),259),(g4,u32s (List.replicate 8 0),222),(g2,u32s [x0,x1,x2,x3,x4,x5,x6,x7],222)])) (fun vi _=>64 - (intOf vi).toNat)
   case atStart=>exact ⟨0,by omega,rfl,hm⟩
   case round =>
    clear hm
    obtain ⟨k,hk,rfl,HM⟩:=hrel
    obtain ⟨a,b,c,d,e,f,g,q,hR⟩:=eight (shaRounds [x0,x1,x2,x3,x4,x5,x6,x7] (sched bs 64) k) (fa _ _ rfl _)
    rw [hR] at HM
    have HR:Hid _:=hR
    clear hR
    by_cases hlt:k<64
    ·obtain ⟨kk,hkk⟩:∃x,x=kTab.getD k 0:=⟨_,rfl⟩
     obtain ⟨xx,hxx⟩:∃x,x=(sched bs 64).getD k 0:=⟨_,rfl⟩
     have hcK:wr.cell? ⟨g6,k,none⟩=some (.int .u32 kk):=by rw [HM.out.cell 1 rfl,aU _ _ (by simpa [kTab] using hlt),hkk]
     have hcW:wr.cell? ⟨g5,k,none⟩=some (.int .u32 xx):=by rw [HM.out.cell 2 rfl,aU _ _ (by rw [bu];exact hlt),hxx]
     have HK:Hid _:=hkk
     have HX:Hid _:=hxx
     clear hkk hxx
     have c0:wr.cell? ⟨g12,0,none⟩=some (.int .u32 a):=HM.out.cell 0 rfl 0
     have c1:wr.cell? ⟨g12,1,none⟩=some (.int .u32 b):=HM.out.cell 0 rfl 1
     have c2:wr.cell? ⟨g12,2,none⟩=some (.int .u32 c):=HM.out.cell 0 rfl 2
     have c3:wr.cell? ⟨g12,3,none⟩=some (.int .u32 d):=HM.out.cell 0 rfl 3
     have c4:wr.cell? ⟨g12,4,none⟩=some (.int .u32 e):=HM.out.cell 0 rfl 4
     have c5:wr.cell? ⟨g12,5,none⟩=some (.int .u32 f):=HM.out.cell 0 rfl 5
     have c6:wr.cell? ⟨g12,6,none⟩=some (.int .u32 g):=HM.out.cell 0 rfl 6
     have c7:wr.cell? ⟨g12,7,none⟩=some (.int .u32 q):=HM.out.cell 0 rfl 7
     go_wp2_with fail
     go_quiet (fail)
     obtain ⟨wq1,hw2⟩:∃v,v=World.drewN wr nq:=⟨_,rfl⟩
     rw [←hw2]
     replace HM:Hid (Mem w [] wq1 [(g12,u32s [a,b,c,d,e,f,g,q],222),(g6,u32s kTab,259),(g5,u32s (sched bs 64),259),(g4,u32s (List.replicate 8 0),222),(g2,u32s [x0,x1,x2,x3,x4,x5,x6,x7],222)]):=by rw [hw2];exact HM.out.drewN nq
     clear hw2 hcK hcW c0 c1 c2 c3 c4 c5 c6 c7
     have hcK:wq1.cell? ⟨g6,k,none⟩=some (.int .u32 kk):=by rw [HM.out.cell 1 rfl,aU _ _ (by simpa [kTab] using hlt),HK.out]
     have hcW:wq1.cell? ⟨g5,k,none⟩=some (.int .u32 xx):=by rw [HM.out.cell 2 rfl,aU _ _ (by rw [bu];exact hlt),HX.out]
     have c0:wq1.cell? ⟨g12,0,none⟩=some (.int .u32 a):=HM.out.cell 0 rfl 0
     have c1:wq1.cell? ⟨g12,1,none⟩=some (.int .u32 b):=HM.out.cell 0 rfl 1
     have c2:wq1.cell? ⟨g12,2,none⟩=some (.int .u32 c):=HM.out.cell 0 rfl 2
     have c3:wq1.cell? ⟨g12,3,none⟩=some (.int .u32 d):=HM.out.cell 0 rfl 3
     have c4:wq1.cell? ⟨g12,4,none⟩=some (.int .u32 e):=HM.out.cell 0 rfl 4
     have c5:wq1.cell? ⟨g12,5,none⟩=some (.int .u32 f):=HM.out.cell 0 rfl 5
     have c6:wq1.cell? ⟨g12,6,none⟩=some (.int .u32 g):=HM.out.cell 0 rfl 6
     have c7:wq1.cell? ⟨g12,7,none⟩=some (.int .u32 q):=HM.out.cell 0 rfl 7
     go_wp2_with fail
     go_quiet (first|(go_at_call 196;refine Calls.quiet_of_same (gJ _ _ _ _ _ (by omega) (by omega) (by omega) (by omega) (by omega) (by omega))))
     rw [show bits .xor .u32 (if IntKind.u32.signed=true then -1 else IntKind.u32.max) e=notW e from rfl]
     obtain ⟨t1,ht1⟩:∃z,z=tOne kk xx e f g q:=⟨_,rfl⟩
     rw [Int.emod_add_emod,show (q+bits .xor .u32 (bits .xor .u32 (rotr e 6) (rotr e 11)) (rotr e 25)+bits .xor .u32 (bits .and .u32 e f) (bits .and .u32 (notW e) g)+kk+xx) % 4294967296=t1 from ht1.symm]
     have HT1:Hid _:=ht1
     clear ht1
     obtain ⟨wq2,hw2⟩:∃v,v=World.drewN wq1 nq:=⟨_,rfl⟩
     rw [←hw2]
     replace HM:Hid (Mem w [] wq2 [(g12,u32s [a,b,c,d,e,f,g,q],222),(g6,u32s kTab,259),(g5,u32s (sched bs 64),259),(g4,u32s (List.replicate 8 0),222),(g2,u32s [x0,x1,x2,x3,x4,x5,x6,x7],222)]):=by rw [hw2];exact HM.out.drewN nq
     clear hw2 hcK hcW c0 c1 c2 c3 c4 c5 c6 c7
     have hcK:wq2.cell? ⟨g6,k,none⟩=some (.int .u32 kk):=by rw [HM.out.cell 1 rfl,aU _ _ (by simpa [kTab] using hlt),HK.out]
     have hcW:wq2.cell? ⟨g5,k,none⟩=some (.int .u32 xx):=by rw [HM.out.cell 2 rfl,aU _ _ (by rw [bu];exact hlt),HX.out]
     have c0:wq2.cell? ⟨g12,0,none⟩=some (.int .u32 a):=HM.out.cell 0 rfl 0
     have c1:wq2.cell? ⟨g12,1,none⟩=some (.int .u32 b):=HM.out.cell 0 rfl 1
     have c2:wq2.cell? ⟨g12,2,none⟩=some (.int .u32 c):=HM.out.cell 0 rfl 2
     have c3:wq2.cell? ⟨g12,3,none⟩=some (.int .u32 d):=HM.out.cell 0 rfl 3
     have c4:wq2.cell? ⟨g12,4,none⟩=some (.int .u32 e):=HM.out.cell 0 rfl 4
     have c5:wq2.cell? ⟨g12,5,none⟩=some (.int .u32 f):=HM.out.cell 0 rfl 5
     have c6:wq2.cell? ⟨g12,6,none⟩=some (.int .u32 g):=HM.out.cell 0 rfl 6
     have c7:wq2.cell? ⟨g12,7,none⟩=some (.int .u32 q):=HM.out.cell 0 rfl 7
     go_wp2_with fail
     go_quiet (first|(go_at_call 196;refine Calls.quiet_of_same (gJ _ _ _ _ _ (by omega) (by omega) (by omega) (by omega) (by omega) (by omega))))
     obtain ⟨t2,ht2⟩:∃z,z=tTwo a b c:=⟨_,rfl⟩
     rw [show (bits .xor .u32 (bits .xor .u32 (rotr a 2) (rotr a 13)) (rotr a 22)+bits .xor .u32 (bits .xor .u32 (bits .and .u32 a b) (bits .and .u32 a c)) (bits .and .u32 b c)) % 4294967296=t2 from ht2.symm]
     have HT2:Hid _:=ht2
     clear ht2
     obtain ⟨wq3,hw2⟩:∃v,v=World.drewN wq2 nq:=⟨_,rfl⟩
     rw [←hw2]
     replace HM:Hid (Mem w [] wq3 [(g12,u32s [a,b,c,d,e,f,g,q],222),(g6,u32s kTab,259),(g5,u32s (sched bs 64),259),(g4,u32s (List.replicate 8 0),222),(g2,u32s [x0,x1,x2,x3,x4,x5,x6,x7],222)]):=by rw [hw2];exact HM.out.drewN nq
     clear hw2 hcK hcW c0 c1 c2 c3 c4 c5 c6 c7
     have hcK:wq3.cell? ⟨g6,k,none⟩=some (.int .u32 kk):=by rw [HM.out.cell 1 rfl,aU _ _ (by simpa [kTab] using hlt),HK.out]
     have hcW:wq3.cell? ⟨g5,k,none⟩=some (.int .u32 xx):=by rw [HM.out.cell 2 rfl,aU _ _ (by rw [bu];exact hlt),HX.out]
     have c0:wq3.cell? ⟨g12,0,none⟩=some (.int .u32 a):=HM.out.cell 0 rfl 0
     have c1:wq3.cell? ⟨g12,1,none⟩=some (.int .u32 b):=HM.out.cell 0 rfl 1
     have c2:wq3.cell? ⟨g12,2,none⟩=some (.int .u32 c):=HM.out.cell 0 rfl 2
     have c3:wq3.cell? ⟨g12,3,none⟩=some (.int .u32 d):=HM.out.cell 0 rfl 3
     have c4:wq3.cell? ⟨g12,4,none⟩=some (.int .u32 e):=HM.out.cell 0 rfl 4
     have c5:wq3.cell? ⟨g12,5,none⟩=some (.int .u32 f):=HM.out.cell 0 rfl 5
     have c6:wq3.cell? ⟨g12,6,none⟩=some (.int .u32 g):=HM.out.cell 0 rfl 6
     have c7:wq3.cell? ⟨g12,7,none⟩=some (.int .u32 q):=HM.out.cell 0 rfl 7

     have hm:=HM.out
     have hst:=fF HR.out HK.out HX.out
     rw [←HT1.out,←HT2.out] at hst
     have HST:Hid _:=hst
     clear hst
     go_wp2_with (first
      | ((with_reducible refine ae none (.store 222 (.tmp 12) (.tmp 145)) ?_);refine ah 0 (u32s [(t1+t2) % 4294967296,a,b,c,(d+t1) % 4294967296,e,f,g]) hm rfl rfl rfl 8 bU (by simp [ao]) (rfl) (aX _) ?_;clear hm;intro w11 hm))

     go_roundw
     case rel=>exact ⟨k+1,by omega,by go_num,by rw [HST.out];exact hm⟩
     case measure=>simp [intOf];omega
    ·have hk64:k=64:=by omega
     subst hk64
     have hm:=HM.out
     have hv8:[a,b,c,d,e,f,g,q].length=8:=rfl
     have hx8:[x0,x1,x2,x3,x4,x5,x6,x7].length=8:=rfl
     have hfin:mix [x0,x1,x2,x3,x4,x5,x6,x7] bs=addW [x0,x1,x2,x3,x4,x5,x6,x7] [a,b,c,d,e,f,g,q]:=by unfold mix;rw [HR.out]
     have HF:Hid _:=hfin
     have HV:Hid _:=hv8
     have HX:Hid _:=hx8
     clear hfin hv8 hx8 HR HM
     go_wp2_with fail
     go_loopw [18] (fun vi wr=>∃k:Nat,k≤8∧vi=.int .i64 k∧Mem w [] wr [(g12,u32s [a,b,c,d,e,f,g,q],222),(g6,u32s kTab,259),(g5,u32s (sched bs 64),259),(g4,u32s (List.replicate 8 0),222),(g2,u32s (addUpto [x0,x1,x2,x3,x4,x5,x6,x7] [a,b,c,d,e,f,g,q] k),222)]) (fun vi _=>8 - (intOf vi).toNat)
     case atStart=>exact ⟨0,by omega,rfl,hm⟩
     case round =>
      clear hm
      rename_i wz _
      obtain ⟨k,hk8,rfl,hm⟩:=hrel
      by_cases hlt8:k<8
      ·obtain ⟨y,hy⟩:∃y,y=[a,b,c,d,e,f,g,q].getD k 0:=⟨_,rfl⟩
       obtain ⟨x,hx⟩:∃y,y=[x0,x1,x2,x3,x4,x5,x6,x7].getD k 0:=⟨_,rfl⟩
       have hcy:wr.cell? ⟨g12,k,none⟩=some (.int .u32 y):=by rw [hm.cell 0 rfl,aU _ _ hlt8,hy]
       have hcx:wr.cell? ⟨g2,k,none⟩=some (.int .u32 x):=by
        rw [hm.cell 4 rfl,aU _ _ (by rw [eE _ _ HX.out HV.out k hk8];exact hlt8),jz _ _ HX.out HV.out k hlt8,hx]
       have hfk:wr.frozen? ⟨g2,k,none⟩=false:=hm.free 4 rfl k
       have hset:∀n,Mem w [] ((wr.drewN n).setCell ⟨g2,k,none⟩ (.int .u32 ((x+y) % 4294967296))) [(g12,u32s [a,b,c,d,e,f,g,q],222),(g6,u32s kTab,259),(g5,u32s (sched bs 64),259),(g4,u32s (List.replicate 8 0),222),(g2,u32s (addUpto [x0,x1,x2,x3,x4,x5,x6,x7] [a,b,c,d,e,f,g,q] (k+1)),222)]:=by
        intro n
        have h:=(hm.drewN n).setCell 4 rfl k (.int .u32 ((x+y) % 4294967296))
        rw [cH,hx,hy,jv _ _ HX.out HV.out k hlt8] at h
        rw [hx,hy]
        exact h
       have HS:Hid _:=hset
       clear hset hm hx hy
       go_wp2_with fail
       go_region
       go_wp2
       go_roundw
       case rel=>exact ⟨k+1,by omega,by go_num,HS.out _⟩
       case measure=>simp [intOf];omega
      ·have hk8':k=8:=by omega
       subst hk8'
       rw [iV _ _ HX.out HV.out,←HF.out] at hm
       have hln:(u32s (mix [x0,x1,x2,x3,x4,x5,x6,x7] bs)).length=8:=by rw [HF.out,ao,dS _ _ HX.out HV.out]
       have HLN:Hid _:=hln
       clear hln
       go_wp2_with (first
        | ((with_reducible refine ae (some 159) (.load 222 (.tmp 2)) ?_);refine av 4 hm rfl rfl _ eA rfl 8 bU (HLN.out) ?_)
        | ((with_reducible refine ae none (.store 222 (.tmp 4) (.tmp 159)) ?_);refine ah 3 (u32s (mix [x0,x1,x2,x3,x4,x5,x6,x7] bs)) hm rfl rfl rfl 8 bU (by simp [ao]) (HLN.out) (aX _) ?_;clear hm;intro w13 hm))
       exact aH 3 hm rfl Tryz.results163 rfl _ eA rfl 8 bU HLN.out rfl ⟨rfl,hm.below⟩
end Go.Proofs.YtlpnafdkhoimhaaGreatDoor
