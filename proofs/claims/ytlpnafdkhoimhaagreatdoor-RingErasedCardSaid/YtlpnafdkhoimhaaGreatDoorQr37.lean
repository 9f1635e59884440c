import Derived.Test.YtlpnafdkhoimhaaGreatDoorQr34
import Derived.Test.YtlpnafdkhoimhaaGreatDoorQr36
import Derived.Test.YtlpnafdkhoimhaaGreatDoorQr03
import Derived.Test.YtlpnafdkhoimhaaGreatDoorQr05
import Derived.Test.YtlpnafdkhoimhaaGreatDoorQr02
import Derived.Test.YtlpnafdkhoimhaaGreatDoorQr07
set_option maxRecDepth 100000
set_option maxHeartbeats 4000000
namespace Go.Proofs.YtlpnafdkhoimhaaGreatDoor
open Go Go.RowKit
theorem ty_sum (g g':Nat) (l l':List Value):∀r∈[(g,l,222),(g',l',42)],r.2.2≠5:=by
 intro r hr
 have:r=(g,l,222)∨r=(g',l',42):=by simpa using hr
 rcases this with h|h<;>rw [h]
 ·show (222:Nat)≠5
  decide
 ·show (42:Nat)≠5
  decide
theorem OwnB.seg {e:TypeId} {w:World} {base b off n c:Nat} {zs:List Int} (h:OwnB e w base (.slice (some ⟨b,off,none⟩) n c) zs) (h0:0<zs.length):Seg w b off zs:=by
 obtain ⟨p,d,hv,_,hs⟩:=h.old
 obtain ⟨b',off',hp,hs'⟩:=hs h0
 simp only [Value.slice.injEq] at hv
 rw [hp] at hv
 simp only [Option.some.injEq,Addr.mk.injEq,and_true] at hv
 obtain ⟨⟨rfl,rfl⟩,_⟩:=hv
 exact hs'
section
variable {P:Program} {ops:Array Oper} {rest:List Oper} {a:Act} {w:World} {dst:Option Tmp} {typ:TypeId} {pos:String} {aft:Array Edge}
theorem wps_slh {Q:Act→Prop} {ty:TypeId} {x lo hi:Operand} {elem:TypeId} (hu:P.underlying ty=some (.slice elem)) (hs:(P.info? elem).map (·.size)=some 1) {g o len cap:Nat} (l m:Nat) {il ih:Int} (hlm:l+m≤cap) (hlc:l<cap) (hx:a.eval x=.slice (some ⟨g,o,none⟩) len cap)
  (hlo:a.eval lo=.int .i64 il) (hil:il=(l:Int)) (hhi:a.eval hi=.int .i64 ih) (hih:ih=((l+m:Nat):Int))
  (h:wpStill P ops w Q rest (a.put dst (.slice (some ⟨g,o+l,none⟩) m (cap - l)))) :
  wpStill P ops w Q ({dst:=dst,op:=.slice ty x (some lo) (some hi) none,type:=typ,pos:=pos,after:=aft,guard:=none}::rest) a:=by
 subst hil hih
 refine gw rfl _ ?_ h
 unfold execOp
 simp only [hx,hlo,hhi,Option.map_some,Option.map_none,run_slh (P:=P) w hu hs l m hlm hlc,Sem.run_bind,Sem.run_pure,Result.andThen_ok]
theorem wpl_stwU {Q:Exit→Act→World→Prop} {w0:World} {S:List Nat} {rows:List (Nat×List Value×TypeId)} {ty:TypeId} {x y:Operand} (i:Nat) {g:Nat} {l:List Value} {t:TypeId} (l':List Value) (hm:Mem w0 S w rows) (hi:rows[i]?=some (g,l,t)) (hx:a.eval x=.pointer (some ⟨g,0,none⟩))
  (hy:a.eval y=.agg l'.toArray) (n:Nat) (hs:(P.info? ty).map (·.size)=some n) (hn:l.length=n) (hn':l'.length=n) (h1:∀v∈l',v.oneCell'=true)
  (h:∀w',Upd g w w'→Mem w0 S w' (rows.set i (g,l',t))→wpList P ops Q rest a w') :
  wpList P ops Q ({dst:=none,op:=.store ty x y,type:=typ,pos:=pos,after:=aft,guard:=none}::rest) a w:=by
 refine wpList_plain rfl fun K hK=>?_
 have hr:=hm.get i hi
 have hh:=hK _ _ (h _ (Upd.setRow g w l'.toArray) (hm.upd i hi (Upd.setRow g w l'.toArray) (hr.setRow l')))
 unfold Oper.wp execOp
 simp only [hx,hy,Instr.storeAt,Instr.sureAddr,Sem.run_bind,Sem.run_pure,Result.andThen_ok,
  run_storeVar_row w g t ty l.toArray l'.toArray hr (by rw [hs];simp [hn']) (by simp [hn,hn']) (by simpa using h1)]
 exact hh
theorem wp_tailO {id:Nat} {Q:Exit→Act→World→Prop} {w0:World} {S:List Nat} {rows:List (Nat×List Value×TypeId)} {l:List Oper} {e:TypeId} {base:Nat} {v:Value} {zs:List Int} (n:Nat) (hmix:P.follows .mixedOrders=true) (hB:Region.lexTailB .any l.toArray n=true) (hm:Mem w0 S w rows) (hown:OwnB e w base v zs)
  (h:∀w',Mem w0 S w' rows→OwnB e w' base v zs→wpStill P l.toArray w' (fun a'=>wpList P l.toArray Q (l.drop n) a' w') (l.take n) a):(Code.region id l.toArray true).wp P Q a w :=
 wp_region_still_tail n hmix hB (h _ hm.drew hown)
end
theorem asB_at (W:List Int) (a r:Nat) (hr:r<4) (ha:a<W.length):(asB W).getD (4 * a+r) 0=(four (W.getD a 0)).getD r 0:=by
 induction W generalizing a with
 | nil=>exact absurd ha (by simp)
 | cons x l ih =>
  cases a with
  | zero =>
   match r,hr with
   | 0,_=>rfl
   | 1,_=>rfl
   | 2,_=>rfl
   | 3,_=>rfl
  | succ a =>
   rw [show 4 * (a+1)+r=(4 * a+r)+4 by omega]
   exact ih a (by simpa using ha)
theorem four_at (x:Int) (r:Nat) (hr:r<4):(four x).getD r 0=x / 2 ^ (24 - 8 * r) % 256:=by
 match r,hr with
 | 0,_=>rfl
 | 1,_=>rfl
 | 2,_=>rfl
 | 3,_=>simp [four]
theorem asB_get (W:List Int) (i:Nat) (hi:i / 4<W.length):(asB W).getD i 0=W.getD (i / 4) 0 / 2 ^ (24 - 8 * (i % 4)) % 256:=by
 rw [←four_at _ _ (by omega),←asB_at W (i / 4) (i % 4) (by omega) hi,show 4 * (i / 4)+i % 4=i by omega]
def byRow (W:List Int) (i:Nat):List Int:=(asB W).take i++List.replicate (32 - i) 0
theorem byRow_length (W:List Int) (h:W.length=8) (i:Nat) (hi:i≤32):(byRow W i).length=32:=by simp [byRow,cE W h];omega
theorem byRow_full (W:List Int) (h:W.length=8):byRow W 32=asB W:=by
 unfold byRow
 rw [List.take_of_length_le (by rw [cE W h];omega)]
 simp
theorem byRow_set (W:List Int) (h:W.length=8) (i:Nat) (hi:i<32):(byRow W i).set i ((asB W).getD i 0)=byRow W (i+1):=by
 have hl:=cE W h
 unfold byRow
 have e:((asB W).take i).length=i:=by simp [hl];omega
 have e2:(asB W).take (i+1)=(asB W).take i++[(asB W).getD i 0]:=by
  rw [List.take_succ_eq_append_getElem (by omega)]
  congr 1
  simp [hl,hi]
 rw [List.set_append_right _ _ (by omega),e,Nat.sub_self,show 32 - i=(32 - (i+1))+1 by omega,List.replicate_succ,List.set_cons_zero,e2,List.append_assoc]
 rfl
theorem SlOld.srcR {w:World} {p:Option Addr} {c:Nat} {cs:List Int} (h:SlOld w (.slice p cs.length c) cs):0<cs.length→∃b off,p=Option.some ⟨b,off,none⟩∧Seg w b off cs:=by
 obtain ⟨q,d,hv,_,hs⟩:=h
 simp only [Value.slice.injEq] at hv
 obtain ⟨rfl,_,_⟩:=hv
 exact hs
theorem eF (cs:List Int) (v:Value) (hbc:Bytes cs) (hlen:cs.length≤1000000) (w:World) (hv:SlOld w v cs) :
  Calls Tryz.prog 122 #[v] w fun e w'=>e=.returned (.agg (u8s (shaOf cs)).toArray)∧Below w.heap.size w w':=by
 have hv0:=hv
 obtain ⟨p,cap,rfl,hcap,_⟩:=hv0
 have hm:=Mem.start w
 have HV:Hid (SlOld w (.slice p cs.length cap) cs):=hv
 have HB:Hid _:=hbc
 clear hv hbc
 go_enter Tryz.func122,Tryz.ntmps122
 go_wp2_with (first
  | ((with_reducible refine ae (some 2) (.alloc 42) ?_);refine ag _ bz hm ?_;clear hm;intro w1 g2 hm)
  | ((with_reducible refine ae (some 3) (.alloc 222) ?_);refine ag _ dP hm ?_;clear hm;intro w2 g3 hm)
  | ((with_reducible refine ae none (.store 222 (.tmp 3) (.tmp 8)) ?_);refine ah 0 (u32s firstW) hm rfl rfl rfl 8 bU (by simp [ao]) (rfl) (aX _) ?_;clear hm;intro w3 hm)
  | ((with_reducible refine ae (some 10) (.call {callee:=.builtin .append,args:=#[.const (.slice none 0 0),.tmp 9],argTypes:=#[56,56]}) ?_);refine dO rfl aF bF cs hm (OwnB.nil _ _ _) (ty_sum _ _ _ _) rfl rfl rfl (SlOld.srcR (SlOld.mem HV.out hm)) (by simp;omega) ?_;clear hm;intro v1 w4 hown hm;replace hown:OwnB 5 w4 w.heap.size v1 cs:=hown)
  | ((with_reducible refine ae (some 12) (.call {callee:=.builtin .append,args:=#[.tmp 10,.tmp 11],argTypes:=#[56,56]}) ?_);refine dO rfl aF bF [128] (hm.allocO _) (hown.alloc _) (ty_sum _ _ _ _) rfl rfl rfl (fun _=>⟨_,_,rfl,Seg.newO w4 [128] 5 (0,0)⟩) (by simp;omega) ?_;clear hm hown;intro v2 w5 hown hm))

 replace hm:Mem w [] w5 [(g3,u32s firstW,222),(g2,u8s (List.replicate 32 0),42)]:=hm
 obtain ⟨Z,hZ⟩:∃Z,Z=padZ cs.length:=⟨_,rfl⟩
 have hZ1:Z<64:=by rw [hZ];unfold padZ;omega
 have hZ2:(cs.length+1+Z) % 64=56:=by rw [hZ];unfold padZ;omega
 have hZ3:∀z,z<Z→(cs.length+1+z) % 64≠56:=by rw [hZ];unfold padZ;intro z hz;omega
 have HZ:Hid _:=hZ
 have HZ2:Hid _:=hZ2
 have HZ3:Hid _:=hZ3
 clear hZ hZ2 hZ3
 go_loopw [4] (fun vs wr=>∃z,z≤Z∧OwnB 5 wr w.heap.size vs (cs++[128]++List.replicate z 0)∧Mem w [] wr [(g3,u32s firstW,222),(g2,u8s (List.replicate 32 0),42)]) (fun vs _=>cs.length+1+Z - slLen vs)
 case atStart=>exact ⟨0,by omega,by rw [List.replicate_zero,List.append_nil];exact hown,hm⟩
 case round =>
  clear hm hown
  obtain ⟨z,hz,hown,hm⟩:=hrel
  obtain ⟨q,c,hq,hqc,hqs⟩:=hown.old
  clear hqs
  have hL:(cs++[128]++List.replicate z (0:Int)).length=cs.length+1+z:=by simp;omega
  rw [hL] at hq hqc
  subst hq
  by_cases hlt:z<Z
  ·have hne:¬((cs.length+1+z:Nat):Int) % 64=56:=by have:=HZ3.out z hlt;omega
   have hln:(cs++[128]++List.replicate z (0:Int)).length+[(0:Int)].length≤1099511627776:=by rw [hL];simp;omega
   have HLN:Hid _:=hln
   have hn2:∀v' w',OwnB 5 w' w.heap.size v' (cs++[128]++List.replicate z 0++[0])→OwnB 5 w' w.heap.size v' (cs++[128]++List.replicate (z+1) 0):=by
    intro v' w' h
    rw [List.replicate_succ',←List.append_assoc]
    exact h
   have HN2:Hid _:=hn2
   clear hln hn2 hL
   go_wp2_with (first
    | ((with_reducible refine ae (some 19) (.call {callee:=.builtin .append,args:=#[.tmp 17,.tmp 18],argTypes:=#[56,56]}) ?_);refine dO rfl aF bF [0] (hm.allocO _) (hown.alloc _) (ty_sum _ _ _ _) rfl rfl rfl (fun _=>⟨_,_,rfl,Seg.newO wr [0] 5 (0,0)⟩) HLN.out ?_;clear hm hown;intro v3 w6 hown hm;replace hown:=HN2.out _ _ hown))

   obtain ⟨q3,c3,hq3,hqc3,_⟩:=hown.old
   have hL3:(cs++[128]++List.replicate (z+1) (0:Int)).length=cs.length+1+(z+1):=by simp;omega
   rw [hL3] at hq3
   clear hL3 hqc3
   subst hq3
   go_roundw
   case rel=>exact ⟨z+1,by omega,hown,hm⟩
   case measure=>simp [slLen];omega
  ·have hzZ:z=Z:=by omega
   subst hzZ
   have heq:((cs.length+1+z:Nat):Int) % 64=56:=by have:=HZ2.out;omega
   have hpd:∀v' w',OwnB 5 w' w.heap.size v' (cs++[128]++List.replicate z 0++be8 (cs.length * 8))→OwnB 5 w' w.heap.size v' (padOf cs):=by
    intro v' w' h
    unfold padOf
    rw [←HZ.out]
    exact h
   have hln:(cs++[128]++List.replicate z (0:Int)).length+8≤1099511627776:=by rw [hL];omega
   have HPD:Hid _:=hpd
   have HLN:Hid _:=hln
   clear hpd hln hL
   go_wp2_with (first
    | (go_at_call 56;refine (putRef_any _ (cs++[128]++List.replicate z 0) (cs.length * 8) w.heap.size _ hown hm.size HLN.out).mono ?_;rintro e w7 ⟨v4,rfl,ho,hgr⟩;replace hm:=hm.grown hown (ty_sum _ _ _ _) hgr;replace hown:=HPD.out _ _ ho;clear ho hgr))

   obtain ⟨N,hN⟩:∃N,(padOf cs).length=64 * N:=⟨(padOf cs).length / 64,by have:=padOf_length cs;omega⟩
   have hN0:0<(padOf cs).length:=by simp [padOf,bh];omega
   have hN1:N≤100000:=by
    have:(padOf cs).length=cs.length+1+padZ cs.length+8:=by simp [padOf,bh];omega
    unfold padZ at this
    omega
   obtain ⟨q4,c4,hq4,hqc4,hqs4⟩:=hown.old
   obtain ⟨b4,o4,rfl,_⟩:=hqs4 hN0
   rw [hN] at hq4 hqc4
   subst hq4
   have hpb:Bytes (padOf cs):=by
    unfold padOf
    refine ((Bytes.append HB.out ?_).append (Bytes.zeros _)).append (dH _)
    intro x hx
    simp only [List.mem_cons,List.not_mem_nil,or_false] at hx
    omega
   have HPB:Hid _:=hpb
   have HN:Hid _:=hN
   have HN0:Hid _:=hN0
   clear hpb hN hN0
   replace hm:Mem w [] w7 [(g3,u32s (absorb (padOf cs) 0),222),(g2,u8s (List.replicate 32 0),42)]:=hm
   go_loopw [5] (fun vi wr=>∃k:Nat,k≤N∧vi=.int .i64 (64 * k:Nat)∧OwnB 5 wr w.heap.size (.slice (some ⟨b4,o4,none⟩) (64 * N) c4) (padOf cs)∧Mem w [] wr [(g3,u32s (absorb (padOf cs) k),222),(g2,u8s (List.replicate 32 0),42)]) (fun vi _=>64 * N - (intOf vi).toNat)
   case atStart=>exact ⟨0,by omega,rfl,hown,hm⟩
   case round =>
    clear hm hown
    obtain ⟨k,hk,rfl,hown,hm⟩:=hrel
    by_cases hlt:k<N
    ·have hti:((64 * k:Nat):Int)<((64 * N:Nat):Int):=by omega
     have hb64:(((padOf cs).drop (64 * k)).take 64).length=64:=by simp [HN.out];omega
     have hbb:Bytes (((padOf cs).drop (64 * k)).take 64):=(Bytes.drop HPB.out _).take _
     have HB64:Hid _:=hb64
     have HBB:Hid _:=hbb
     clear hb64 hbb
     go_wp2_with fail
     refine wp_tailO 6 (by kernel_rfl) (by kernel_rfl) hm hown ?_
     clear hm hown
     intro w8 hm hown
     simp only [List.take_succ_cons,List.take_zero,List.drop_succ_cons,List.drop_zero]
     refine ie 0 0 (u32s (absorb (padOf cs) k)) hm rfl rfl _ eA rfl 8 bU (by simp [ao,cj]) (by rw [List.drop_zero,List.take_of_length_le (by simp [ao,cj])]) ?_
     still_step
     still_step
     still_step
     still_step
     refine wps_slh aF aQ (64 * k) 64 (by omega) (by omega) rfl rfl (by omega) rfl (by rw [show 64 * (k:Int)+64=((64 * k+64:Nat):Int) by omega,hP _ (by omega)]) ?_
     refine wpStill_nil ?_
     go_wp2_with (first
      | (go_at_call 163;refine (blockRef_any (absorb (padOf cs) k) (((padOf cs).drop (64 * k)).take 64) b4 (o4+64 * k) (c4 - 64 * k) (cj _ _) HB64.out (by omega) (Bytes.get HBB.out) _ ((Seg.drop (OwnB.seg hown HN0.out) (64 * k)).take 64)).mono ?_;rintro e w9 ⟨rfl,hb⟩;replace hown:=hown.below hb;replace hm:=hm.call hb;clear hb)
      | ((with_reducible refine ae none (.store 222 (.tmp 3) (.tmp 38)) ?_);refine wpl_stwU 0 (u32s (absorb (padOf cs) (k+1))) hm rfl rfl rfl 8 bU (by rw [ao];exact cj _ _) (by rw [ao];exact cj _ _) (aX _) ?_;intro w10 hu hm10;replace hown:=hown.upd (hm.get 0 rfl) (by decide) hu;clear hm hu;have hm:=hm10;clear hm10))

     replace hm:Mem w [] w10 [(g3,u32s (absorb (padOf cs) (k+1)),222),(g2,u8s (List.replicate 32 0),42)]:=hm
     go_roundw
     case rel=>exact ⟨k+1,by omega,by go_num,hown,hm⟩
     case measure=>simp [intOf];omega
    ·have hkN:k=N:=by omega
     subst hkN
     have hni:¬((64 * k:Nat):Int)<((64 * k:Nat):Int):=by omega
     obtain ⟨W,hW⟩:∃W,W=absorb (padOf cs) k:=⟨_,rfl⟩
     have hsh:shaOf cs=asB W:=by rw [shaOf_pad,HN.out,hW,show 64 * k / 64=k by omega]
     have hWl:W.length=8:=by rw [hW];exact cj _ _
     rw [←hW] at hm
     have HSH:Hid _:=hsh
     have HWL:Hid _:=hWl
     clear hW hsh hWl hown
     go_wp2_with (first
      | ((with_reducible refine ae (some 6) (.alloc 42) ?_);refine ag _ bz hm ?_;clear hm;intro w11 g6 hm))

     go_loopw [7] (fun vi wr=>∃i:Nat,i≤32∧vi=.int .i64 i∧Mem w [] wr [(g6,u8s (byRow W i),42),(g3,u32s W,222),(g2,u8s (List.replicate 32 0),42)]) (fun vi _=>32 - (intOf vi).toNat)
     case atStart=>exact ⟨0,by omega,rfl,hm⟩
     case round =>
      clear hm
      obtain ⟨i,hi,rfl,hm⟩:=hrel
      by_cases hlt:i<32
      ·obtain ⟨x,hx⟩:∃x,x=W.getD (i / 4) 0:=⟨_,rfl⟩
       obtain ⟨a,ha⟩:∃a,a=i / 4:=⟨_,rfl⟩
       obtain ⟨r,hr⟩:∃r,r=i % 4:=⟨_,rfl⟩
       have hr4:r<4:=by omega
       have ha8:a<8:=by omega
       have hqi:(i:Int) / 4=(a:Int):=by omega
       have hri:(i:Int) % 4=(r:Int):=by omega
       have hc3:(u32s W)[a]?=some (.int .u32 x):=by rw [aU _ _ (by rw [HWL.out];exact ha8),ha,hx]
       have hby:(asB W).getD i 0=x / 2 ^ (24 - 8 * r) % 256:=by
        rw [hx,hr]
        exact asB_get W i (by rw [HWL.out];omega)
       have HC3:Hid _:=hc3
       have HBY:Hid _:=hby
       have hlti:(i:Int)<32:=by omega
       have hjl:i<(u8s (byRow W i)).length:=by rw [aa,byRow_length W HWL.out i hi];exact hlt
       have hset:(u8s (byRow W i)).set i (.int .u8 (x / 2 ^ (24 - 8 * r) % 256))=u8s (byRow W (i+1)):=by rw [bW,←hby,byRow_set W HWL.out i hlt]
       have HJ:Hid _:=hjl
       have HSET:Hid _:=hset
       clear hx ha hr hc3 hby hjl hset
       go_wp2_with (first
        | ((with_reducible refine ae (some 47) (.load 69 (.tmp 46)) ?_);refine bm 1 a (.int .u32 x) hm rfl rfl ey (HC3.out) ?_)
        | ((with_reducible refine ae none (.store 5 (.tmp 55) (.tmp 54)) ?_);refine bj 0 i (.int .u8 (x / 2 ^ (24 - 8 * r) % 256)) hm rfl (rfl) rfl aQ (HJ.out) rfl rfl ?_;clear hm;intro w12 hm))

       rw [List.set_cons_zero,HSET.out] at hm
       go_roundw
       case rel=>exact ⟨i+1,by omega,by go_num,hm⟩
       case measure=>simp [intOf];omega
      ·have hi32:i=32:=by omega
       subst hi32
       rw [byRow_full W HWL.out,←HSH.out] at hm
       have hln:(u8s (shaOf cs)).length=32:=by rw [aa,be]
       have HLN:Hid _:=hln
       clear hln
       go_wp2_with (first
        | ((with_reducible refine ae (some 56) (.load 42 (.tmp 6)) ?_);refine av 0 hm rfl rfl _ dV rfl 32 bB (HLN.out) ?_)
        | ((with_reducible refine ae none (.store 42 (.tmp 2) (.tmp 56)) ?_);refine ah 2 (u8s (shaOf cs)) hm rfl rfl rfl 32 bB (by simp [aa]) (HLN.out) (ai _) ?_;clear hm;intro w13 hm))
       exact aH 2 hm rfl Tryz.results122 rfl _ dV rfl 32 bB HLN.out rfl ⟨rfl,hm.below⟩
open Go Go.RowKit
structure Two (w0 w:World) (v1:Value) (z1:List Int) (v2:Value) (z2:List Int):Prop where
 own1:OwnB 5 w w0.heap.size v1 z1
 own2:OwnB 5 w w0.heap.size v2 z2
 ne:∀g,v1.ownBlock=some g→v2.ownBlock≠some g
section
variable {w0 w w':World} {v1 v2 v':Value} {z1 z2 ys:List Int}
theorem Two.start (w0 w:World):Two w0 w (.slice none 0 0) [] (.slice none 0 0) []:=⟨OwnB.nil _ _ _,OwnB.nil _ _ _,fun g h=>by cases h⟩
theorem Two.swap (t:Two w0 w v1 z1 v2 z2):Two w0 w v2 z2 v1 z1:=⟨t.own2,t.own1,fun g h2 h1=>t.ne g h1 h2⟩
theorem Two.below (t:Two w0 w v1 z1 v2 z2) (hb:Below w.heap.size w w'):Two w0 w' v1 z1 v2 z2:=⟨t.own1.below hb,t.own2.below hb,t.ne⟩
theorem Two.grown (t:Two w0 w v1 z1 v2 z2) (ho:OwnB 5 w' w0.heap.size v' (z1++ys)) (hg:w.grownBy w' v1.ownBlock) (hv:v'.ownBlock=v1.ownBlock∨v'.ownBlock=some w.heap.size):Two w0 w' v' (z1++ys) v2 z2:=by
 refine ⟨ho,?_,fun g hq=>?_⟩
 ·cases h1:v1.ownBlock with
  | none =>
   rw [h1] at hg
   exact World.ownsRow.kept t.own2 hg (by cases h':v2.ownBlock<;>simp)
  | some g =>
   rw [h1] at hg
   exact World.ownsRow.kept t.own2 hg (Or.inr (t.ne g h1))
 ·rcases hv with hv|hv
  ·exact t.ne g (hv.symm.trans hq)
  ·intro h2
   rw [hv] at hq
   cases hq
   have:=(World.ownsRow.lt t.own2 _ h2).2
   omega
end
theorem Two.upd {w0 w w':World} {v1 v2:Value} {z1 z2:List Int} (t:Two w0 w v1 z1 v2 z2) {g:Nat} {l:List Value} {tt:TypeId} (hr:Row w g l tt) (ht:tt≠5) (hu:Upd g w w'):Two w0 w' v1 z1 v2 z2 :=
 ⟨t.own1.upd hr ht hu,t.own2.upd hr ht hu,t.ne⟩
theorem Two.fresh {w0 w:World} {v1:Value} {z1:List Int} (h:OwnB 5 w w0.heap.size v1 z1):Two w0 w v1 z1 (.slice none 0 0) []:=⟨h,OwnB.nil _ _ _,fun g _ h2=>by cases h2⟩
section
variable {ops:Array Oper} {rest:List Oper} {a:Act} {w w0:World} {Q:Exit→Act→World→Prop} {dst:Option Tmp} {typ:TypeId} {pos:String} {aft:Array Edge} {v1 v2:Value} {z1 z2:List Int} {S:List Nat} {rows:List (Nat×List Value×TypeId)}
theorem bS {s x:Operand} {ps:Option Addr} {n c:Nat} (ys:List Int) (t:Two w0 w v1 z1 v2 z2) (hm:Mem w0 S w rows) (hty:∀r∈rows,r.2.2≠5) (hs:a.eval s=v1) (hx:a.eval x=.slice ps n c) (hold:SlOld w (.slice ps n c) ys) (hlen:z1.length+ys.length≤1099511627776)
  (h:∀v' w',Two w0 w' v' (z1++ys) v2 z2→Mem w0 S w' rows→wpList Tryz.prog ops Q rest (a.put dst v') w') :
  wpList Tryz.prog ops Q ({dst:=dst,op:=.call {callee:=.builtin .append,args:=#[s,x],argTypes:=#[56,56]},type:=typ,pos:=pos,after:=aft,guard:=none}::rest) a w:=by
 obtain ⟨hn,_,hsrc⟩:=hold.src0
 subst hn
 by_cases h0:0<ys.length
 ·obtain ⟨b,off,rfl,hseg⟩:=hsrc h0
  exact wpl_appG rfl aF bF ys t.own1 hm.size hs hx rfl hseg hlen (fun v' w' ho hg hv=>h v' w' (t.grown ho hg hv) (hm.grown t.own1 hty hg))
 ·obtain rfl:ys=[]:=List.eq_nil_of_length_eq_zero (by omega)
  have hld:∀a:Addr,(loadCells a 0).run Tryz.prog w=.ok #[] w:=fun a=>rfl
  have hi:=bF
  have hr:(Builtin.append_ #[56,56] typ #[v1,.slice ps ([]:List Int).length c]).run Tryz.prog w=.ok v1 w:=by
   cases hq:Tryz.prog.info? 5 with
   | none=>simp [hq] at hi
   | some i =>
    obtain ⟨_,h3⟩:=t.own1
    rcases h3 with ⟨rfl,_⟩|⟨g,cap,cur,rfl,_,_,hn,_⟩
    ·cases ps<;>simp [Builtin.append_,run_underlying aF,sizeOf,typeInfo,hq,Builtin.lenOf,Builtin.firstCells,hld]
    ·cases ps<;>simp [Builtin.append_,run_underlying aF,sizeOf,typeInfo,hq,Builtin.lenOf,Builtin.firstCells,hld,hn,storeCells]
  refine wpList_plain rfl fun K hK=>?_
  have hh:=hK _ _ (h v1 w (by rw [List.append_nil];exact t) hm)
  unfold Oper.wp execOp
  simp only [resolve,invoke,builtin,Sem.run_bind,Sem.run_pure,Result.andThen_ok,List.map_toArray,List.map_cons,List.map_nil,hs,hx,hr]
  exact hh
theorem gS {P:Program} {ty:TypeId} (z:List Value) (hz:∀w,(zeroValue ty).run P w=.ok (.agg z.toArray) w) (hm:Mem w0 S w rows)
  (h:∀w' g,Below w.heap.size w w'→Mem w0 S w' ((g,z,ty)::rows)→wpList P ops Q rest (a.put dst (.pointer (some ⟨g,0,none⟩))) w') :
  wpList P ops Q ({dst:=dst,op:=.alloc ty,type:=typ,pos:=pos,after:=aft,guard:=none}::rest) a w:=by
 refine wpList_plain rfl fun K hK=>?_
 have hh:=hK _ _ (h _ _ ((Below.refl _ _).alloc (Nat.le_refl _) _) (hm.alloc z ty))
 unfold Oper.wp execOp
 simp [Instr.alloc,newVar,newRow,newObj,hz,Value.cells]
 exact hh
end
end Go.Proofs.YtlpnafdkhoimhaaGreatDoor
namespace Go.Proofs.YtlpnafdkhoimhaaGreatDoor
open Go Go.RowKit
theorem dQ (l:List Int) (p:Int) (i:Nat) (h:i<l.length):(xorB l p).take (i+1)=(xorB l p).take i++[bits .xor .u8 (l.getD i 0) p]:=by
 have hl:i<(xorB l p).length:=by rw [eT];exact h
 rw [List.take_succ_eq_append_getElem hl]
 simp [xorB,h]
theorem getD_app (a b:List Int) (i:Nat) (h:i<a.length):(a++b).getD i 0=a.getD i 0:=by
 rw [List.getD_eq_getElem?_getD,List.getElem?_append_left h,←List.getD_eq_getElem?_getD]
theorem getD_past (a:List Int) (n i:Nat) (h:a.length≤i):(a++List.replicate n 0).getD i 0=0:=by
 rw [List.getD_eq_getElem?_getD,List.getElem?_append_right h]
 by_cases hn:i - a.length<n
 ·simp [hn]
 ·rw [List.getElem?_eq_none (by simp;omega)];rfl
theorem jS {g:Nat} {l:List Value} {rows:List (Nat×List Value×TypeId)} (h:∀r∈rows,r.2.2≠5):∀r∈(g,l,42)::rows,r.2.2≠5:=by
 intro r hr
 rcases List.mem_cons.1 hr with rfl|hr
 ·show (42:Nat)≠5;decide
 ·exact h r hr
theorem macRef_any (ks ms:List Int) (vk vm:Value) (hbk:Bytes ks) (hbm:Bytes ms) (hkl:ks.length≤500000) (hml:ms.length≤500000) (w:World) (hvk:SlOld w vk ks) (hvm:SlOld w vm ms) :
  Calls Tryz.prog 92 #[vk,vm] w fun e w'=>e=.returned (.agg (u8s (macOf ks ms)).toArray)∧Below w.heap.size w w':=by
 obtain ⟨pk,ck,rfl,_⟩:=hvk.len
 obtain ⟨pm,cm,rfl,_⟩:=hvm.len
 have hm:=Mem.start w
 have HBK:Hid _:=hbk
 have HVK:Hid (SlOld w (.slice pk ks.length ck) ks):=hvk
 have HVM:Hid (SlOld w (.slice pm ms.length cm) ms):=hvm
 have HPK:Hid (0<ks.length→∃b off,pk=some ⟨b,off,none⟩∧Seg w b off ks):=hvk.src0.2.2
 have HBI:Hid (Bytes (padIn ks++ms)):=(fU hbk).append hbm
 have HLI:Hid ((padIn ks++ms).length≤1000000):=by show _≤_;rw [List.length_append,bP];omega
 have HLM:Hid ((padIn ks).length+ms.length≤1099511627776):=by show _≤_;rw [bP];omega
 obtain ⟨s,hs⟩:∃s,s=shaOf (padIn ks++ms):=⟨_,rfl⟩
 have HSE:Hid (∀_:Unit,shaOf (padIn ks++ms)=s):=fun _=>hs.symm
 have HSL:Hid (s.length=32):=by show _=_;rw [hs,be]
 have HBO:Hid (Bytes (padOut ks++s)):=(fC hbk).append (by rw [hs];exact eL _)
 have HLO:Hid ((padOut ks++s).length≤1000000):=by show _≤_;rw [List.length_append,bD,HSL.out];omega
 have HLS:Hid ((padOut ks).length+s.length≤1099511627776):=by show _≤_;rw [bD,HSL.out];omega
 obtain ⟨M,hM⟩:∃M,M=shaOf (padOut ks++s):=⟨_,rfl⟩
 have HME:Hid (∀_:Unit,shaOf (padOut ks++s)=M):=fun _=>hM.symm
 have HMLn:Hid (M.length=32):=by show _=_;rw [hM,be]
 have HMM:Hid (∀_:Unit,macOf ks ms=M):=by intro _;rw [hM,hs];rfl
 clear hbk hbm hvk hvm hs hM
 by_cases h64:ks.length≤64
 ·have h64i:¬(64:Int)<(ks.length:Int):=by omega
  have HKC:Hid (∀_:Unit,keyCut ks=ks):=by intro _;unfold keyCut;rw [if_pos (by omega)]
  go_enter Tryz.func92,Tryz.ntmps92
  go_wp2_with (first
   | ((with_reducible refine ae (some 4) (.alloc 42) ?_);refine ag _ bz hm ?_;clear hm;intro w1 g4 hm))
  have HTY:Hid (∀r∈[(g4,u8s (List.replicate 32 0),42)],r.2.2≠5):=by
   intro r hr
   simp only [List.mem_cons,List.not_mem_nil,or_false] at hr
   subst hr
   show (42:Nat)≠5
   decide
  go_loopw [6,7,8] (fun v6 v7 vi wr=>∃i:Nat,i≤64∧vi=.int .i64 i∧Hid (Two w wr v6 ((padIn ks).take i) v7 ((padOut ks).take i))∧Mem w [] wr [(g4,u8s (List.replicate 32 0),42)]) (fun _ _ vi _=>64 - (intOf vi).toNat)
  case atStart=>exact ⟨0,by omega,rfl,Two.start _ _,hm⟩
  case round =>
   clear hm
   obtain ⟨i,hi,rfl,HTW,hm⟩:=hrel
   by_cases hlt:i<64
   ·have hii:(i:Int)<64:=by omega
    obtain ⟨x,hx⟩:∃x,x=(fillOf ks).getD i 0:=⟨_,rfl⟩
    have HXF:Hid (x=(fillOf ks).getD i 0):=hx
    by_cases hin:i<ks.length
    ·have hini:(i:Int)<(ks.length:Int):=by omega
     have hxk:x=ks.getD i 0:=by rw [hx,fillOf,getD_app _ _ _ (by rw [HKC.out ()];exact hin),HKC.out ()]
     clear hx
     obtain ⟨b0,o0,rfl,hsk⟩:=HPK.out (by omega)
     have HCE:Hid (wr.cell? ⟨b0,o0+i,none⟩=some (.int .u8 x)):=by rw [hxk];exact (hm.old (p:=⟨b0,o0+i,none⟩) (block_lt_of_cell (hsk i hin)) (by simp)).trans (hsk i hin)
     clear hxk hsk
     have HS1:Hid ((padIn ks).take (i+1)=(padIn ks).take i++[bits .xor .u8 x 54]):=by show _=_;rw [HXF.out];exact dQ (fillOf ks) 54 i (by rw [bn];exact hlt)
     have HS2:Hid ((padOut ks).take (i+1)=(padOut ks).take i++[bits .xor .u8 x 92]):=by show _=_;rw [HXF.out];exact dQ (fillOf ks) 92 i (by rw [bn];exact hlt)
     have HL1:Hid (((padIn ks).take i).length+[bits .xor .u8 x 54].length≤1099511627776):=by show _≤_;rw [List.length_take,bP];simp;omega
     have HL2:Hid (((padOut ks).take i).length+[bits .xor .u8 x 92].length≤1099511627776):=by show _≤_;rw [List.length_take,bD];simp;omega
     go_wp2_with (first
      | ((with_reducible refine ae (some 28) (.load 5 (.tmp 27)) ?_);go_must (refine bx (.int .u8 x) HCE.out rfl eP ?_))
      | ((with_reducible refine ae (some 32) (.buildSlice 56 1 #[(0,.tmp 31)]) ?_);go_must (refine bM rfl (.int .u8 0) (.int .u8 (bits .xor .u8 x 54)) aF bV rfl rfl rfl hm ?_);intro wa ga hba;intro hma;have HTa:Hid (Two w wa _ _ _ _):=Two.below HTW.out hba;clear hm hba HTW)
      | ((with_reducible refine ae (some 33) (.call {callee:=.builtin .append,args:=#[.tmp 29,.tmp 32],argTypes:=#[56,56]}) ?_);go_must (refine bS [bits .xor .u8 x 54] HTa.out hma.tail HTY.out rfl rfl (a8 (l:=[bits .xor .u8 x 54]) (hma.get 0 rfl) rfl (Nat.le_refl _)) HL1.out ?_);intro vb wb hb2 hmb;rw [←HS1.out] at hb2;have HTb:Hid (Two w wb _ _ _ _):=Two.swap hb2;clear hma HTa hb2)
      | ((with_reducible refine ae (some 37) (.buildSlice 56 1 #[(0,.tmp 36)]) ?_);go_must (refine bM rfl (.int .u8 0) (.int .u8 (bits .xor .u8 x 92)) aF bV rfl rfl rfl hmb ?_);intro wc gc hbc;intro hmc;have HTc:Hid (Two w wc _ _ _ _):=Two.below HTb.out hbc;clear hmb hbc HTb)
      | ((with_reducible refine ae (some 38) (.call {callee:=.builtin .append,args:=#[.tmp 34,.tmp 37],argTypes:=#[56,56]}) ?_);go_must (refine bS [bits .xor .u8 x 92] HTc.out hmc.tail HTY.out rfl rfl (a8 (l:=[bits .xor .u8 x 92]) (hmc.get 0 rfl) rfl (Nat.le_refl _)) HL2.out ?_);intro vd wd hd2 hm;rw [←HS2.out] at hd2;have HTW:Hid (Two w wd _ _ _ _):=Two.swap hd2;clear hmc HTc hd2))
     go_roundw
     case rel=>exact ⟨i+1,by omega,by go_num,HTW.out,hm⟩
     case measure=>simp [intOf];omega
    ·have hini:¬(i:Int)<(ks.length:Int):=by omega
     have hx0:x=0:=by rw [hx,fillOf,HKC.out (),getD_past _ _ _ (by omega)]
     clear hx
     subst hx0
     have HS1:Hid ((padIn ks).take (i+1)=(padIn ks).take i++[bits .xor .u8 0 54]):=by show _=_;rw [HXF.out];exact dQ (fillOf ks) 54 i (by rw [bn];exact hlt)
     have HS2:Hid ((padOut ks).take (i+1)=(padOut ks).take i++[bits .xor .u8 0 92]):=by show _=_;rw [HXF.out];exact dQ (fillOf ks) 92 i (by rw [bn];exact hlt)
     have HL1:Hid (((padIn ks).take i).length+[bits .xor .u8 0 54].length≤1099511627776):=by show _≤_;rw [List.length_take,bP];simp;omega
     have HL2:Hid (((padOut ks).take i).length+[bits .xor .u8 0 92].length≤1099511627776):=by show _≤_;rw [List.length_take,bD];simp;omega
     go_wp2_with (first
      | ((with_reducible refine ae (some 32) (.buildSlice 56 1 #[(0,.tmp 31)]) ?_);go_must (refine bM rfl (.int .u8 0) (.int .u8 (bits .xor .u8 0 54)) aF bV rfl rfl rfl hm ?_);intro wa ga hba;intro hma;have HTa:Hid (Two w wa _ _ _ _):=Two.below HTW.out hba;clear hm hba HTW)
      | ((with_reducible refine ae (some 33) (.call {callee:=.builtin .append,args:=#[.tmp 29,.tmp 32],argTypes:=#[56,56]}) ?_);go_must (refine bS [bits .xor .u8 0 54] HTa.out hma.tail HTY.out rfl rfl (a8 (l:=[bits .xor .u8 0 54]) (hma.get 0 rfl) rfl (Nat.le_refl _)) HL1.out ?_);intro vb wb hb2 hmb;rw [←HS1.out] at hb2;have HTb:Hid (Two w wb _ _ _ _):=Two.swap hb2;clear hma HTa hb2)
      | ((with_reducible refine ae (some 37) (.buildSlice 56 1 #[(0,.tmp 36)]) ?_);go_must (refine bM rfl (.int .u8 0) (.int .u8 (bits .xor .u8 0 92)) aF bV rfl rfl rfl hmb ?_);intro wc gc hbc;intro hmc;have HTc:Hid (Two w wc _ _ _ _):=Two.below HTb.out hbc;clear hmb hbc HTb)
      | ((with_reducible refine ae (some 38) (.call {callee:=.builtin .append,args:=#[.tmp 34,.tmp 37],argTypes:=#[56,56]}) ?_);go_must (refine bS [bits .xor .u8 0 92] HTc.out hmc.tail HTY.out rfl rfl (a8 (l:=[bits .xor .u8 0 92]) (hmc.get 0 rfl) rfl (Nat.le_refl _)) HL2.out ?_);intro vd wd hd2 hm;rw [←HS2.out] at hd2;have HTW:Hid (Two w wd _ _ _ _):=Two.swap hd2;clear hmc HTc hd2))
     go_roundw
     case rel=>exact ⟨i+1,by omega,by go_num,HTW.out,hm⟩
     case measure=>simp [intOf];omega
   ·have hi64:i=64:=by omega
    subst hi64
    have ht2:=HTW.out
    rw [List.take_of_length_le (by rw [bP];omega),List.take_of_length_le (by rw [bD];omega)] at ht2
    have HTV:Hid (Two w wr u6 (padIn ks) u7 (padOut ks)):=ht2
    clear ht2 HTW
    go_wp2_with (first
     | ((with_reducible refine ae (some 41) (.call {callee:=.builtin .append,args:=#[.tmp 39,.tmp 40],argTypes:=#[56,56]}) ?_);go_must (refine bS ms HTV.out hm HTY.out rfl rfl (SlOld.mem HVM.out hm) HLM.out ?_);intro v1 w5 h1 hm1;have HT1:Hid (Two w w5 v1 (padIn ks++ms) u7 (padOut ks)):=h1;clear hm h1 HTV)
     | (go_at_call 122;first|(refine (eF (padIn ks++ms) _ HBI.out HLI.out _ HT1.out.own1.old).mono ?_;rintro e w6 ⟨he,hb⟩;rw [HSE.out ()] at he;subst he;have HT2:Hid (Two w w6 v1 (padIn ks++ms) u7 (padOut ks)):=Two.below HT1.out hb;have hm2:=hm1.call hb;clear hb HT1 hm1)|(refine (eF (padOut ks++s) _ HBO.out HLO.out _ HT6.out.own1.old).mono ?_;rintro e w10 ⟨he,hb⟩;rw [HME.out ()] at he;subst he;have hm7:=hm6.call hb;clear hb HT6 hm6))
     | ((with_reducible refine ae (some 10) (.alloc 42) ?_);refine gS _ bz hm2 ?_;intro w7 g10 hb7 hm3;have HT3:Hid (Two w w7 v1 (padIn ks++ms) u7 (padOut ks)):=Two.below HT2.out hb7;clear hb7 hm2 HT2)
     | ((with_reducible refine ae none (.store 42 (.tmp 10) (.tmp 42)) ?_);go_must (refine iz 0 (u8s s) hm3 rfl rfl rfl 32 bB (by simp [aa]) (by rw [aa];exact HSL.out) (ai _) ?_);intro w8 hu8 hm4;have HT4:Hid (Two w w8 u7 (padOut ks) v1 (padIn ks++ms)):=Two.swap (Two.upd HT3.out (hm3.get 0 rfl) (by show (42:Nat)≠5;decide) hu8);clear hu8 hm3 HT3)
     | ((with_reducible refine ae (some 45) (.call {callee:=.builtin .append,args:=#[.tmp 43,.tmp 44],argTypes:=#[56,56]}) ?_);go_must (refine bS s HT4.out hm4 (jS HTY.out) rfl rfl (a8 (hm4.get 0 rfl) HSL.out (Nat.le_refl _)) HLS.out ?_);intro v9 w9 h9 hm6;have HT6:Hid (Two w w9 v9 (padOut ks++s) v1 (padIn ks++ms)):=h9;clear hm4 h9 HT4)
     | ((with_reducible refine ae none (.store 42 (.tmp 4) (.tmp 46)) ?_);go_must (refine ah 1 (u8s M) hm7 rfl rfl rfl 32 bB (by simp [aa]) (by rw [aa];exact HMLn.out) (ai _) ?_);intro w11 hm8;clear hm7))
    exact aH 1 hm8 rfl Tryz.results92 rfl _ dV rfl 32 bB (by rw [aa];exact HMLn.out) rfl ⟨by rw [HMM.out ()],hm8.below⟩
 ·have h64i:(64:Int)<(ks.length:Int):=by omega
  have HKC:Hid (∀_:Unit,keyCut ks=(shaOf ks)):=by intro _;unfold keyCut;rw [if_neg (by omega)]
  go_enter Tryz.func92,Tryz.ntmps92
  go_wp2_with (first
   | ((with_reducible refine ae (some 4) (.alloc 42) ?_);refine ag _ bz hm ?_;clear hm;intro w1 g4 hm)
   | (go_at_call 122;refine (eF ks _ HBK.out (by omega) _ (SlOld.mem HVK.out hm)).mono ?_;rintro e w2 ⟨rfl,hb⟩;replace hm:=hm.call hb;clear hb)
   | ((with_reducible refine ae (some 5) (.alloc 42) ?_);refine ag _ bz hm ?_;clear hm;intro w3 g5 hm)
   | ((with_reducible refine ae none (.store 42 (.tmp 5) (.tmp 15)) ?_);refine ah 0 (u8s (shaOf ks)) hm rfl rfl rfl 32 bB (by simp [aa]) (by rw [aa,be]) (ai _) ?_;clear hm;intro w4 hm))
  have HTY:Hid (∀r∈[(g5,u8s (shaOf ks),42),(g4,u8s (List.replicate 32 0),42)],r.2.2≠5):=by
   intro r hr
   simp only [List.mem_cons,List.not_mem_nil,or_false] at hr
   rcases hr with rfl|rfl
   ·show (42:Nat)≠5;decide
   ·show (42:Nat)≠5;decide
  go_loopw [6,7,8] (fun v6 v7 vi wr=>∃i:Nat,i≤64∧vi=.int .i64 i∧Hid (Two w wr v6 ((padIn ks).take i) v7 ((padOut ks).take i))∧Mem w [] wr [(g5,u8s (shaOf ks),42),(g4,u8s (List.replicate 32 0),42)]) (fun _ _ vi _=>64 - (intOf vi).toNat)
  case atStart=>exact ⟨0,by omega,rfl,Two.start _ _,hm⟩
  case round =>
   clear hm
   obtain ⟨i,hi,rfl,HTW,hm⟩:=hrel
   by_cases hlt:i<64
   ·have hii:(i:Int)<64:=by omega
    obtain ⟨x,hx⟩:∃x,x=(fillOf ks).getD i 0:=⟨_,rfl⟩
    have HXF:Hid (x=(fillOf ks).getD i 0):=hx
    by_cases hin:i<(shaOf ks).length
    ·have hini:(i:Int)<32:=by have:=be ks;omega
     have hxk:x=(shaOf ks).getD i 0:=by rw [hx,fillOf,getD_app _ _ _ (by rw [HKC.out ()];exact hin),HKC.out ()]
     clear hx
     have HCE:Hid (wr.cell? ⟨g5,i,none⟩=some (.int .u8 x)):=by rw [hxk];exact (hm.cell 0 rfl i).trans (cK _ _ hin)
     clear hxk
     have HS1:Hid ((padIn ks).take (i+1)=(padIn ks).take i++[bits .xor .u8 x 54]):=by show _=_;rw [HXF.out];exact dQ (fillOf ks) 54 i (by rw [bn];exact hlt)
     have HS2:Hid ((padOut ks).take (i+1)=(padOut ks).take i++[bits .xor .u8 x 92]):=by show _=_;rw [HXF.out];exact dQ (fillOf ks) 92 i (by rw [bn];exact hlt)
     have HL1:Hid (((padIn ks).take i).length+[bits .xor .u8 x 54].length≤1099511627776):=by show _≤_;rw [List.length_take,bP];simp;omega
     have HL2:Hid (((padOut ks).take i).length+[bits .xor .u8 x 92].length≤1099511627776):=by show _≤_;rw [List.length_take,bD];simp;omega
     go_wp2_with (first
      | ((with_reducible refine ae (some 28) (.load 5 (.tmp 27)) ?_);go_must (refine bx (.int .u8 x) HCE.out rfl eP ?_))
      | ((with_reducible refine ae (some 32) (.buildSlice 56 1 #[(0,.tmp 31)]) ?_);go_must (refine bM rfl (.int .u8 0) (.int .u8 (bits .xor .u8 x 54)) aF bV rfl rfl rfl hm ?_);intro wa ga hba;intro hma;have HTa:Hid (Two w wa _ _ _ _):=Two.below HTW.out hba;clear hm hba HTW)
      | ((with_reducible refine ae (some 33) (.call {callee:=.builtin .append,args:=#[.tmp 29,.tmp 32],argTypes:=#[56,56]}) ?_);go_must (refine bS [bits .xor .u8 x 54] HTa.out hma.tail HTY.out rfl rfl (a8 (l:=[bits .xor .u8 x 54]) (hma.get 0 rfl) rfl (Nat.le_refl _)) HL1.out ?_);intro vb wb hb2 hmb;rw [←HS1.out] at hb2;have HTb:Hid (Two w wb _ _ _ _):=Two.swap hb2;clear hma HTa hb2)
      | ((with_reducible refine ae (some 37) (.buildSlice 56 1 #[(0,.tmp 36)]) ?_);go_must (refine bM rfl (.int .u8 0) (.int .u8 (bits .xor .u8 x 92)) aF bV rfl rfl rfl hmb ?_);intro wc gc hbc;intro hmc;have HTc:Hid (Two w wc _ _ _ _):=Two.below HTb.out hbc;clear hmb hbc HTb)
      | ((with_reducible refine ae (some 38) (.call {callee:=.builtin .append,args:=#[.tmp 34,.tmp 37],argTypes:=#[56,56]}) ?_);go_must (refine bS [bits .xor .u8 x 92] HTc.out hmc.tail HTY.out rfl rfl (a8 (l:=[bits .xor .u8 x 92]) (hmc.get 0 rfl) rfl (Nat.le_refl _)) HL2.out ?_);intro vd wd hd2 hm;rw [←HS2.out] at hd2;have HTW:Hid (Two w wd _ _ _ _):=Two.swap hd2;clear hmc HTc hd2))
     go_roundw
     case rel=>exact ⟨i+1,by omega,by go_num,HTW.out,hm⟩
     case measure=>simp [intOf];omega
    ·have hini:¬(i:Int)<32:=by have:=be ks;omega
     have hx0:x=0:=by rw [hx,fillOf,HKC.out (),getD_past _ _ _ (by omega)]
     clear hx
     subst hx0
     have HS1:Hid ((padIn ks).take (i+1)=(padIn ks).take i++[bits .xor .u8 0 54]):=by show _=_;rw [HXF.out];exact dQ (fillOf ks) 54 i (by rw [bn];exact hlt)
     have HS2:Hid ((padOut ks).take (i+1)=(padOut ks).take i++[bits .xor .u8 0 92]):=by show _=_;rw [HXF.out];exact dQ (fillOf ks) 92 i (by rw [bn];exact hlt)
     have HL1:Hid (((padIn ks).take i).length+[bits .xor .u8 0 54].length≤1099511627776):=by show _≤_;rw [List.length_take,bP];simp;omega
     have HL2:Hid (((padOut ks).take i).length+[bits .xor .u8 0 92].length≤1099511627776):=by show _≤_;rw [List.length_take,bD];simp;omega
     go_wp2_with (first
      | ((with_reducible refine ae (some 32) (.buildSlice 56 1 #[(0,.tmp 31)]) ?_);go_must (refine bM rfl (.int .u8 0) (.int .u8 (bits .xor .u8 0 54)) aF bV rfl rfl rfl hm ?_);intro wa ga hba;intro hma;have HTa:Hid (Two w wa _ _ _ _):=Two.below HTW.out hba;clear hm hba HTW)
      | ((with_reducible refine ae (some 33) (.call {callee:=.builtin .append,args:=#[.tmp 29,.tmp 32],argTypes:=#[56,56]}) ?_);go_must (refine bS [bits .xor .u8 0 54] HTa.out hma.tail HTY.out rfl rfl (a8 (l:=[bits .xor .u8 0 54]) (hma.get 0 rfl) rfl (Nat.le_refl _)) HL1.out ?_);intro vb wb hb2 hmb;rw [←HS1.out] at hb2;have HTb:Hid (Two w wb _ _ _ _):=Two.swap hb2;clear hma HTa hb2)
      | ((with_reducible refine ae (some 37) (.buildSlice 56 1 #[(0,.tmp 36)]) ?_);go_must (refine bM rfl (.int .u8 0) (.int .u8 (bits .xor .u8 0 92)) aF bV rfl rfl rfl hmb ?_);intro wc gc hbc;intro hmc;have HTc:Hid (Two w wc _ _ _ _):=Two.below HTb.out hbc;clear hmb hbc HTb)
      | ((with_reducible refine ae (some 38) (.call {callee:=.builtin .append,args:=#[.tmp 34,.tmp 37],argTypes:=#[56,56]}) ?_);go_must (refine bS [bits .xor .u8 0 92] HTc.out hmc.tail HTY.out rfl rfl (a8 (l:=[bits .xor .u8 0 92]) (hmc.get 0 rfl) rfl (Nat.le_refl _)) HL2.out ?_);intro vd wd hd2 hm;rw [←HS2.out] at hd2;have HTW:Hid (Two w wd _ _ _ _):=Two.swap hd2;clear hmc HTc hd2))
     go_roundw
     case rel=>exact ⟨i+1,by omega,by go_num,HTW.out,hm⟩
     case measure=>simp [intOf];omega
   ·have hi64:i=64:=by omega
    subst hi64
    have ht2:=HTW.out
    rw [List.take_of_length_le (by rw [bP];omega),List.take_of_length_le (by rw [bD];omega)] at ht2
    have HTV:Hid (Two w wr u6 (padIn ks) u7 (padOut ks)):=ht2
    clear ht2 HTW
    go_wp2_with (first
     | ((with_reducible refine ae (some 41) (.call {callee:=.builtin .append,args:=#[.tmp 39,.tmp 40],argTypes:=#[56,56]}) ?_);go_must (refine bS ms HTV.out hm HTY.out rfl rfl (SlOld.mem HVM.out hm) HLM.out ?_);intro v1 w5 h1 hm1;have HT1:Hid (Two w w5 v1 (padIn ks++ms) u7 (padOut ks)):=h1;clear hm h1 HTV)
     | (go_at_call 122;first|(refine (eF (padIn ks++ms) _ HBI.out HLI.out _ HT1.out.own1.old).mono ?_;rintro e w6 ⟨he,hb⟩;rw [HSE.out ()] at he;subst he;have HT2:Hid (Two w w6 v1 (padIn ks++ms) u7 (padOut ks)):=Two.below HT1.out hb;have hm2:=hm1.call hb;clear hb HT1 hm1)|(refine (eF (padOut ks++s) _ HBO.out HLO.out _ HT6.out.own1.old).mono ?_;rintro e w10 ⟨he,hb⟩;rw [HME.out ()] at he;subst he;have hm7:=hm6.call hb;clear hb HT6 hm6))
     | ((with_reducible refine ae (some 10) (.alloc 42) ?_);refine gS _ bz hm2 ?_;intro w7 g10 hb7 hm3;have HT3:Hid (Two w w7 v1 (padIn ks++ms) u7 (padOut ks)):=Two.below HT2.out hb7;clear hb7 hm2 HT2)
     | ((with_reducible refine ae none (.store 42 (.tmp 10) (.tmp 42)) ?_);go_must (refine iz 0 (u8s s) hm3 rfl rfl rfl 32 bB (by simp [aa]) (by rw [aa];exact HSL.out) (ai _) ?_);intro w8 hu8 hm4;have HT4:Hid (Two w w8 u7 (padOut ks) v1 (padIn ks++ms)):=Two.swap (Two.upd HT3.out (hm3.get 0 rfl) (by show (42:Nat)≠5;decide) hu8);clear hu8 hm3 HT3)
     | ((with_reducible refine ae (some 45) (.call {callee:=.builtin .append,args:=#[.tmp 43,.tmp 44],argTypes:=#[56,56]}) ?_);go_must (refine bS s HT4.out hm4 (jS HTY.out) rfl rfl (a8 (hm4.get 0 rfl) HSL.out (Nat.le_refl _)) HLS.out ?_);intro v9 w9 h9 hm6;have HT6:Hid (Two w w9 v9 (padOut ks++s) v1 (padIn ks++ms)):=h9;clear hm4 h9 HT4)
     | ((with_reducible refine ae none (.store 42 (.tmp 4) (.tmp 46)) ?_);go_must (refine ah 2 (u8s M) hm7 rfl rfl rfl 32 bB (by simp [aa]) (by rw [aa];exact HMLn.out) (ai _) ?_);intro w11 hm8;clear hm7))
    exact aH 2 hm8 rfl Tryz.results92 rfl _ dV rfl 32 bB (by rw [aa];exact HMLn.out) rfl ⟨by rw [HMM.out ()],hm8.below⟩
open Go Go.RowKit
theorem ty_key (g:Nat) (l:List Value):∀r∈[((g,l,43):Nat×List Value×TypeId)],r.2.2≠5:=by
 intro r hr
 simp only [List.mem_cons,List.not_mem_nil,or_false] at hr
 subst hr
 show (43:Nat)≠5
 decide
theorem OwnB.slice {e:TypeId} {w:World} {base:Nat} {v:Value} {zs:List Int} (h:OwnB e w base v zs) (n:Nat) (hn:zs.length=n):∃p c,v=.slice p n c∧n≤c:=by
 obtain ⟨p,c,h1,h2,_⟩:=h.old
 subst hn
 exact ⟨p,c,h1,h2⟩
theorem kQ (ks info:List Int) (v:Value) (N:Nat) (hN0:0<N) (hN:N≤8160) (hkl:ks.length=32) (hkb:Bytes ks) (hib:Bytes info) (hil:info.length≤100000) (w:World) (hv:SlOld w v info) :
  Calls Tryz.prog 55 #[.agg (u8s ks).toArray,v,.int .i64 (N:Int)] w fun e w'=>∃v',e=.returned v'∧SlOld w' v' (expandOf ks info N)∧Below w.heap.size w w':=by
 obtain ⟨pi,ci,rfl,_⟩:=hv.len
 have hm:=Mem.start w
 have HKL:Hid _:=hkl
 have HKB:Hid _:=hkb
 have HIB:Hid _:=hib
 have HV:Hid (SlOld w (.slice pi info.length ci) info):=hv
 have hn1:¬((8160:Int)<(N:Int)):=by omega
 have hn2:(0:Int)<(N:Int):=by omega
 have hn3:¬((N:Int)<0):=by omega
 have hn4:¬((N:Int)≤0):=by omega
 have hn5:(N:Int)≤8160:=by omega
 clear hkl hkb hib hv
 go_enter Tryz.func55,Tryz.ntmps55
 go_wp2_with (first
  | ((with_reducible refine ae (some 3) (.box 43 (.tmp 0)) ?_);refine az (u8s ks) rfl hm ?_;clear hm;intro w1 g3 hm))

 go_loopw [7,8,9] (fun v7 v8 vi wr=>∃j:Nat,32 * j<N+32∧vi=.int .i64 ((j:Int)+1)∧Hid (Two w wr v7 (rowsOf ks info j) v8 (pieceOf ks info j))∧Mem w [] wr [(g3,u8s ks,43)]) (fun _ _ vi _=>N+64 - 32 * (intOf vi).toNat)
 case atStart=>exact ⟨0,by omega,rfl,Two.start _ _,hm⟩
 case round =>
  clear hm
  obtain ⟨j,hj,rfl,HTW,hm⟩:=hrel
  obtain ⟨po,co,hvo,hco⟩:=OwnB.slice HTW.out.own1 (32 * j) (cn _ _ _)
  subst hvo
  by_cases hlt:32 * j<N
  ·have hti:((32 * j:Nat):Int)<(N:Int):=by omega
   obtain ⟨pt,ct,hvt,_⟩:=OwnB.slice HTW.out.own2 _ rfl
   subst hvt
   have hj1:(j:Int)+1<256:=by omega
   have HPL:Hid _:=lh ks info j
   have HPN:Hid ((pieceOf ks info (j+1)).length=32):=cP ks info j
   obtain ⟨Pn,hPn⟩:∃p,p=pieceOf ks info (j+1):=⟨_,rfl⟩
   have HPE:Hid (∀_:Unit,macOf ks (pieceOf ks info j++info++[(j:Int)+1])=Pn):=by intro _;rw [hPn];rfl
   have HPR:Hid (∀_:Unit,rowsOf ks info (j+1)=rowsOf ks info j++Pn):=by intro _;rw [hPn];rfl
   have HPF:Hid (∀_:Unit,Pn=pieceOf ks info (j+1)):=fun _=>hPn
   have HPQ:Hid (Pn.length=32):=by show _=_;rw [hPn];exact HPN.out
   have HBM:Hid (Bytes (pieceOf ks info j++info++[(j:Int)+1])):=by
    refine (Bytes.append (gN ks info j) HIB.out).append ?_
    intro x hx
    simp only [List.mem_cons,List.not_mem_nil,or_false] at hx
    omega
   have HLM:Hid ((pieceOf ks info j++info++[(j:Int)+1]).length≤500000):=by show _≤_;have:=HPL.out;simp;omega
   have HL1:Hid (([]:List Int).length+(pieceOf ks info j).length≤1099511627776):=by show _≤_;have:=HPL.out;simp;omega
   have HL2:Hid ((pieceOf ks info j).length+info.length≤1099511627776):=by show _≤_;have:=HPL.out;omega
   have HL3:Hid ((pieceOf ks info j++info).length+[(j:Int)+1].length≤1099511627776):=by show _≤_;have:=HPL.out;simp;omega
   have HL4:Hid (([]:List Int).length+Pn.length≤1099511627776):=by show _≤_;rw [HPQ.out];simp
   have HL5:Hid ((rowsOf ks info j).length+Pn.length≤1099511627776):=by show _≤_;rw [HPQ.out,cn];omega
   have HTA:Hid (Two w wr (.slice none 0 0) [] (.slice po (32 * j) co) (rowsOf ks info j)):=Two.swap (Two.fresh HTW.out.own1)
   have HST:Hid (SlOld wr (.slice pt (pieceOf ks info j).length ct) (pieceOf ks info j)):=HTW.out.own2.old
   clear hPn HTW
   go_wp2_with (first
    | ((with_reducible refine ae (some 22) (.call {callee:=.builtin .append,args:=#[.const (.slice none 0 0),.tmp 21],argTypes:=#[56,56]}) ?_);go_must (refine bS (pieceOf ks info j) HTA.out hm (ty_key _ _) rfl rfl HST.out HL1.out ?_);intro va wa ha hma;have HTB:Hid (Two w wa va (pieceOf ks info j) (.slice po (32 * j) co) (rowsOf ks info j)):=ha;clear hm ha HTA HST)
    | ((with_reducible refine ae (some 24) (.call {callee:=.builtin .append,args:=#[.tmp 22,.tmp 23],argTypes:=#[56,56]}) ?_);go_must (refine bS info HTB.out hma (ty_key _ _) rfl rfl (SlOld.mem HV.out hma) HL2.out ?_);intro vb wb hb hmb;have HTC:Hid (Two w wb vb (pieceOf ks info j++info) (.slice po (32 * j) co) (rowsOf ks info j)):=hb;clear hma hb HTB)
    | ((with_reducible refine ae (some 27) (.buildSlice 56 1 #[(0,.tmp 26)]) ?_);go_must (refine bM rfl (.int .u8 0) (.int .u8 ((j:Int)+1)) aF bV rfl rfl rfl hmb ?_);intro wc gc hbc hmc;have HTD:Hid (Two w wc vb (pieceOf ks info j++info) (.slice po (32 * j) co) (rowsOf ks info j)):=Two.below HTC.out hbc;clear hmb hbc HTC)
    | ((with_reducible refine ae (some 28) (.call {callee:=.builtin .append,args:=#[.tmp 24,.tmp 27],argTypes:=#[56,56]}) ?_);go_must (refine bS [(j:Int)+1] HTD.out hmc.tail (ty_key _ _) rfl rfl (a8 (l:=[(j:Int)+1]) (hmc.get 0 rfl) rfl (Nat.le_refl _)) HL3.out ?_);intro vd wd hd hmd;have HTE:Hid (Two w wd vd (pieceOf ks info j++info++[(j:Int)+1]) (.slice po (32 * j) co) (rowsOf ks info j)):=hd;clear hmc hd HTD)
    | (go_at_call 92;refine (macRef_any ks (pieceOf ks info j++info++[(j:Int)+1]) _ _ HKB.out HBM.out (by rw [HKL.out];omega) HLM.out _ (a8 (hmd.get 0 rfl) HKL.out (Nat.le_refl _)) HTE.out.own1.old).mono ?_;rintro e we ⟨he,hb⟩;rw [HPE.out ()] at he;subst he;have HTF:Hid (Two w we vd (pieceOf ks info j++info++[(j:Int)+1]) (.slice po (32 * j) co) (rowsOf ks info j)):=Two.below HTE.out hb;have hme:=hmd.call hb;clear hb hmd HTE)
    | ((with_reducible refine ae (some 11) (.alloc 42) ?_);refine gS _ bz hme ?_;intro wf g11 hbf hmf;have HTG:Hid (Two w wf vd (pieceOf ks info j++info++[(j:Int)+1]) (.slice po (32 * j) co) (rowsOf ks info j)):=Two.below HTF.out hbf;clear hbf hme HTF)
    | ((with_reducible refine ae none (.store 42 (.tmp 11) (.tmp 31)) ?_);go_must (refine iz 0 (u8s Pn) hmf rfl rfl rfl 32 bB (by simp [aa]) (by rw [aa];exact HPQ.out) (ai _) ?_);intro wg hug hmg;have HTH:Hid (Two w wg (.slice none 0 0) [] (.slice po (32 * j) co) (rowsOf ks info j)):=Two.swap (Two.fresh (Two.upd HTG.out (hmf.get 0 rfl) (by show (42:Nat)≠5;decide) hug).own2);clear hug hmf HTG)
    | ((with_reducible refine ae (some 33) (.call {callee:=.builtin .append,args:=#[.const (.slice none 0 0),.tmp 32],argTypes:=#[56,56]}) ?_);go_must (refine bS Pn HTH.out hmg (jS (ty_key _ _)) rfl rfl (a8 (hmg.get 0 rfl) HPQ.out (Nat.le_refl _)) HL4.out ?_);intro vh wh hh hmh;replace hh:Two w wh vh Pn (.slice po (32 * j) co) (rowsOf ks info j):=hh;obtain ⟨ph,ch,hvh,_⟩:=OwnB.slice hh.own1 32 HPQ.out;subst hvh;have HTI:Hid (Two w wh (.slice po (32 * j) co) (rowsOf ks info j) (.slice ph 32 ch) Pn):=Two.swap hh;clear hmg hh HTH)
    | ((with_reducible refine ae (some 36) (.call {callee:=.builtin .append,args:=#[.tmp 34,.tmp 35],argTypes:=#[56,56]}) ?_);go_must (refine bS Pn HTI.out hmh (jS (ty_key _ _)) rfl rfl HTI.out.own2.old HL5.out ?_);intro vi wi hi2 hmi;rw [←HPR.out (),HPF.out ()] at hi2;have HTJ:Hid (Two w wi vi (rowsOf ks info (j+1)) (.slice ph 32 ch) (pieceOf ks info (j+1))):=hi2;clear hmh hi2 HTI))

   go_roundw
   case rel=>exact ⟨j+1,by omega,by go_num,HTJ.out,hmi.tail⟩
   case measure=>simp [intOf];omega
  ·have hti:¬((32 * j:Nat):Int)<(N:Int):=by omega
   have ho:=HTW.out.own1.old
   rw [cn] at ho
   have HSO:Hid (SlOld wr (.slice (cutHi po co) N co) (expandOf ks info N)):=by
    rw [f0 ks info N j (by omega)]
    have h2:SlOld wr (.slice po (32 * j) co) (rowsOf ks info j):=HTW.out.own1.old
    exact old_hi h2 N (by omega)
   clear ho HTW
   go_wp2_with (first
    | ((with_reducible refine ae (some 39) (.slice 56 (.tmp 37) none (some (.tmp 38)) none) ?_);go_must (refine aj (.slice (cutHi po co) N co) rfl (iI aF aQ N (by omega) rfl rfl (by first|rfl|omega)) ?_)))
   go_ret
   exact ⟨_,rfl,HSO.out,hm.below⟩
theorem ja (ks info:List Int) (v:Value) (w:World) (hv:SlOld w v info) :
  Calls Tryz.prog 55 #[.agg (u8s ks).toArray,v,.int .i64 0] w fun e w'=>∃v',e=.returned v'∧SlOld w' v' []∧Below w.heap.size w w':=by
 obtain ⟨pi,ci,rfl,_⟩:=hv.len
 clear hv
 have hm:=Mem.start w
 go_enter Tryz.func55,Tryz.ntmps55
 go_wp2_with (first
  | ((with_reducible refine ae (some 3) (.box 43 (.tmp 0)) ?_);refine az (u8s ks) rfl hm ?_;clear hm;intro w1 g3 hm))

 refine wp_loop_rounds 1 ?_
 rw [rounds_succ]
 go_wp2_with (first
  | ((with_reducible refine ae (some 39) (.slice 56 (.tmp 37) none (some (.tmp 38)) none) ?_);go_must (refine aj (.slice (cutHi none 0) 0 0) rfl (iI aF aQ 0 (by omega) rfl rfl rfl) ?_)))
 go_ret
 exact ⟨_,rfl,old_hi (cs:=[]) ⟨none,0,rfl,Nat.le_refl _,fun h=>absurd h (by simp)⟩ 0 (Nat.le_refl _),hm.below⟩
theorem lF (ks info:List Int) (v:Value) (N:Nat) (hN:N≤8160) (hkl:ks.length=32) (hkb:Bytes ks) (hib:Bytes info) (hil:info.length≤100000) (w:World) (hv:SlOld w v info) :
  Calls Tryz.prog 55 #[.agg (u8s ks).toArray,v,.int .i64 (N:Int)] w fun e w'=>∃v',e=.returned v'∧SlOld w' v' (expandOf ks info N)∧Below w.heap.size w w':=by
 rcases Nat.eq_zero_or_pos N with rfl|h
 ·exact ja ks info v w hv
 ·exact kQ ks info v N h hN hkl hkb hib hil w hv
end Go.Proofs.YtlpnafdkhoimhaaGreatDoor
