import Derived.Test.YtcibhfcjbokdlaaGreatDoorQt03
import Derived.Lib.Atoi
import Derived.Laws.MakeOwn
import Derived.Test.YtcibhfcjbokdlaaGreatDoorQt02
set_option maxRecDepth 100000
set_option maxHeartbeats 4000000
namespace Go.Proofs.YtcibhfcjbokdlaaGreatDoor
open Go Go.RowKit
def txs (l:List Tm):List ByteArray:=l.map fun x=>mkS (txt x)
theorem txs_bs (l:List Tm):(txs l).map bs=l.map txt:=by
 unfold txs
 rw [List.map_map]
 apply List.map_congr_left
 intro x _
 exact aR _
theorem txs_len (l:List Tm):(txs l).length=l.length:=by simp [txs]
theorem txs_snoc {l:List Tm} {k:Nat} {x:Tm} (hx:l[k]?=some x):strs (txs (l.take (k+1)))=strs (txs (l.take k))++[.string (mkS (txt x))]:=by
 rw [List.take_add_one,hx]
 simp [txs,strs]
theorem txt_with {t:Tm} (h:kn t.k≠0):txt t=hdT t.k t.n++40::(jnB (t.l.map txt)++[41]):=by rw [cF,if_neg h]
theorem txt_without {t:Tm} (h:kn t.k=0):txt t=hdT t.k t.n:=by rw [cF,if_pos h,List.append_nil]
theorem text_any {F:Nat→Prop} (t:Tm):∀(s:Value) (w:World),cnt t≤100→okT t=true→SlT F w s t.l →
  Calls Tryz.prog 56 #[.agg (tcs t s).toArray] w fun e w'=>e=.returned (.string (mkS (txt t)))∧Below w.heap.size w w':=by
 induction t using Tm.ind with
 | h t ih =>
 intro s w hc hok hs
 have HIH:Hid _:=ih
 clear ih
 obtain ⟨p,cap,rfl,hcap⟩:=hs.len
 obtain ⟨m,hml⟩:∃m,m=t.l.length:=⟨_,rfl⟩
 have HM:Hid (∀_:Unit,m=t.l.length):=fun _=>hml
 have HS:Hid (SlT F w (.slice p m cap) t.l):=by rw [hml];exact hs
 have hof:=aS hok
 have hk:=okF_k hof
 have hnn:=okF_n hof
 have HKL:Hid (∀_:Unit,m=kn t.k):=fun _=>by rw [hml];exact bg hof
 rw [←hml]
 have hm100:m<100:=by
  have h1:=sum_ge (l:=t.l) (k:=t.l.length) (Nat.le_refl _)
  rw [List.take_length] at h1
  have h2:=bQ t
  omega
 have HC:Hid (cnt t≤100):=hc
 have HOK:Hid (okT t=true):=hok
 have HTL:Hid (∀_:Unit,(txt t).length≤800):=fun _=>by have:=dt t hok;omega
 have HF1:Hid (∀_:Unit,∀v∈[Value.string (mkS (wd t.k)),.bool (nb t.k),.int .i64 (kn t.k:Int)],v.oneCell'=true):=fun _=>by rw [←aW hk];exact bX _
 have HFO:Hid (∀W,Calls Tryz.prog 53 #[.int .i64 t.k] W fun e w'=>e=.returned (.tuple #[.agg [Value.string (mkS (wd t.k)),.bool (nb t.k),.int .i64 (kn t.k:Int)].toArray,.bool true])∧Below W.heap.size W w'):=fun W=>by
  have:=bd t.k W
  rw [aW hk,decide_eq_true hk] at this
  exact this
 have HIT:Hid (∀W,Calls Tryz.prog 64 #[.int .i64 t.n] W fun e w'=>e=.returned (.string (mkS (dig t.n)))∧w'=W):=fun W=>cm t.n hnn.1 hnn.2 W
 have HDL:Hid (∀_:Unit,(dig t.n).length≤2∧(wd t.k).length≤4∧(hdT t.k t.n).length≤4):=fun _=>⟨(dS _).2,(wd_len _).1,hdT_len _ _⟩
 clear hs hml hcap hc hok hof hk hnn
 have hm:=Mem.start w
 cases hnb:nb t.k with
 | true =>
  by_cases hkn:kn t.k=0
  ·have hkn0:=hkn
   have HHD:Hid (∀_:Unit,mkS (hdT t.k t.n)=mkS (wd t.k)++mkS (dig t.n)):=fun _=>by rw [bh,hdT,hnb,if_pos rfl]
   rw [hnb] at HF1 HFO
   have hz:((kn t.k:Int)==0)=true:=dX _ _ (by omega)
   have HR:Hid (∀_:Unit,mkS (txt t)=mkS (hdT t.k t.n)):=fun _=>by rw [txt_without hkn]
   clear hnb hkn hkn0
   go_enter Tryz.func56,Tryz.ntmps56
   go_wp2_with (first
    | ((with_reducible refine af (some 1) (.box 24 (.tmp 0)) ?_);go_must (refine aw (tcs t (.slice p m cap)) rfl hm ?_);clear hm;intro w1 g1 hm)
    | ((with_reducible refine af (some 11) (.load 3 (.tmp 10)) ?_);go_must (refine aa (.int .i64 t.k) rfl (ad (.int .i64 t.k) (Mem.cell hm 0 rfl 0) rfl ag) ?_))
    | (go_at_call 53;go_must (refine (HFO.out _).mono ?_);rintro e w2 ⟨he,hb⟩;subst he;replace hm:=hm.call hb;clear hb)
    | ((with_reducible refine af (some 3) (.alloc 85) ?_);go_must (refine ap _ aI hm ?_);clear hm;intro w3 g3 hm)
    | ((with_reducible refine af none (.store 85 (.tmp 3) (.tmp 13)) ?_);go_must (refine au 0 ([Value.string (mkS (wd t.k)),.bool true,.int .i64 (kn t.k:Int)]) hm rfl rfl rfl 3 aJ rfl rfl ((HF1.out ())) ?_);clear hm;intro w4 hm)
    | ((with_reducible refine af (some 16) (.load 9 (.tmp 15)) ?_);go_must (refine aa (.string (mkS (wd t.k))) rfl (ad (.string (mkS (wd t.k))) (Mem.cell hm 0 rfl 0) rfl bf) ?_))
    | ((with_reducible refine af (some 18) (.load 4 (.tmp 17)) ?_);go_must (refine aa (.bool true) rfl (ad (.bool true) (Mem.cell hm 0 rfl 1) rfl bM) ?_))
    | ((with_reducible refine af (some 25) (.load 3 (.tmp 24)) ?_);go_must (refine aa (.int .i64 (kn t.k:Int)) rfl (ad (.int .i64 (kn t.k:Int)) (Mem.cell hm 0 rfl 2) rfl ag) ?_))
    | ((with_reducible refine af (some 21) (.load 3 (.tmp 20)) ?_);go_must (refine aa (.int .i64 t.n) rfl (ad (.int .i64 t.n) (Mem.cell hm 1 rfl 1) rfl ag) ?_))
    | (go_at_call 64;go_must (refine (HIT.out _).mono ?_);rintro e w' ⟨he,hw⟩;subst he;replace hw:=hw.symm;subst hw)
    | ((with_reducible refine af (some 23) (.binOp .add 9 (.tmp 19) (.tmp 22) 9) ?_);go_must (refine aa (.string (mkS (hdT t.k t.n))) rfl (aH (mkS (wd t.k)) (mkS (dig t.n)) (mkS (hdT t.k t.n)) (HHD.out ()) rfl rfl (by have h9:=HDL.out ();rw [ay,ay];omega)) ?_)))
   go_ret
   exact ⟨by rw [HR.out ()];rfl,hm.below⟩
  ·have hkn0:=hkn
   have HHD:Hid (∀_:Unit,mkS (hdT t.k t.n)=mkS (wd t.k)++mkS (dig t.n)):=fun _=>by rw [bh,hdT,hnb,if_pos rfl]
   rw [hnb] at HF1 HFO
   have hz:((kn t.k:Int)==0)=false:=aD _ _ (by omega)
   have HTW:Hid (∀_:Unit,txt t=hdT t.k t.n++40::(jnB (t.l.map txt)++[41])):=fun _=>txt_with hkn
   clear hnb hkn hkn0
   go_enter Tryz.func56,Tryz.ntmps56
   go_wp2_with (first
    | ((with_reducible refine af (some 1) (.box 24 (.tmp 0)) ?_);go_must (refine aw (tcs t (.slice p m cap)) rfl hm ?_);clear hm;intro w1 g1 hm)
    | ((with_reducible refine af (some 11) (.load 3 (.tmp 10)) ?_);go_must (refine aa (.int .i64 t.k) rfl (ad (.int .i64 t.k) (Mem.cell hm 0 rfl 0) rfl ag) ?_))
    | (go_at_call 53;go_must (refine (HFO.out _).mono ?_);rintro e w2 ⟨he,hb⟩;subst he;replace hm:=hm.call hb;clear hb)
    | ((with_reducible refine af (some 3) (.alloc 85) ?_);go_must (refine ap _ aI hm ?_);clear hm;intro w3 g3 hm)
    | ((with_reducible refine af none (.store 85 (.tmp 3) (.tmp 13)) ?_);go_must (refine au 0 ([Value.string (mkS (wd t.k)),.bool true,.int .i64 (kn t.k:Int)]) hm rfl rfl rfl 3 aJ rfl rfl ((HF1.out ())) ?_);clear hm;intro w4 hm)
    | ((with_reducible refine af (some 16) (.load 9 (.tmp 15)) ?_);go_must (refine aa (.string (mkS (wd t.k))) rfl (ad (.string (mkS (wd t.k))) (Mem.cell hm 0 rfl 0) rfl bf) ?_))
    | ((with_reducible refine af (some 18) (.load 4 (.tmp 17)) ?_);go_must (refine aa (.bool true) rfl (ad (.bool true) (Mem.cell hm 0 rfl 1) rfl bM) ?_))
    | ((with_reducible refine af (some 25) (.load 3 (.tmp 24)) ?_);go_must (refine aa (.int .i64 (kn t.k:Int)) rfl (ad (.int .i64 (kn t.k:Int)) (Mem.cell hm 0 rfl 2) rfl ag) ?_))
    | ((with_reducible refine af (some 21) (.load 3 (.tmp 20)) ?_);go_must (refine aa (.int .i64 t.n) rfl (ad (.int .i64 t.n) (Mem.cell hm 1 rfl 1) rfl ag) ?_))
    | (go_at_call 64;go_must (refine (HIT.out _).mono ?_);rintro e w' ⟨he,hw⟩;subst he;replace hw:=hw.symm;subst hw)
    | ((with_reducible refine af (some 23) (.binOp .add 9 (.tmp 19) (.tmp 22) 9) ?_);go_must (refine aa (.string (mkS (hdT t.k t.n))) rfl (aH (mkS (wd t.k)) (mkS (dig t.n)) (mkS (hdT t.k t.n)) (HHD.out ()) rfl rfl (by have h9:=HDL.out ();rw [ay,ay];omega)) ?_))
    | ((with_reducible refine af (some 29) (.load 22 (.tmp 28)) ?_);go_must (refine aa (.slice p m cap) rfl (ad (.slice p m cap) (Mem.cell hm 1 rfl 2) rfl ah) ?_)))
   have HB4:Hid (Below w.heap.size w w4):=hm.below
   obtain ⟨H,hH⟩:∃H,H=mkS (hdT t.k t.n):=⟨_,rfl⟩
   rw [←hH]
   have HH:Hid (∀_:Unit,H=mkS (hdT t.k t.n)):=fun _=>hH
   clear hm hH HHD
   go_loopw [31,6] (fun vi vk wr=>∃(k:Nat) (vb:Value),k≤m∧vi=.int .i64 (k:Int)∧vb=vk∧Hid (wr.ownsRow w.heap.size 9 1 vb k (strs (txs (t.l.take k))))∧Hid (Below w.heap.size w wr)) (fun vi _ _=>m - (intOf vi).toNat)
   case atStart=>exact ⟨0,_,by omega,rfl,rfl,World.ownsRow_nil _ _ _ _,HB4.out⟩
   case round =>
    obtain ⟨k,vb,hk,rfl,hvb,HO,HW⟩:=hrel
    subst hvb
    by_cases hlt:k<m
    ·have hki:(k:Int)<(m:Int):=by omega
     obtain ⟨b,o,rfl⟩:=HS.out.at (show 0<m by omega)
     obtain ⟨x,hx⟩:=aX (HM.out ()) hlt
     obtain ⟨px,mx,cx,c0,c1,c2,hmx,hsx⟩:=(HS.out.below HW.out).cells hx
     have HMX:Hid (x∈t.l):=List.mem_of_getElem? hx
     have HCX:Hid (cnt x≤100):=by show _≤_;have:=bE HMX.out;have:=HC.out;omega
     have HX2:Hid (SlT F wr (.slice px mx cx) x.l):=hsx
     have HSN:Hid (∀_:Unit,strs (txs (t.l.take (k+1)))=strs (txs (t.l.take k))++[.string (mkS (txt x))]):=fun _=>txs_snoc hx
     obtain ⟨X,hX⟩:∃X,X=mkS (txt x):=⟨_,rfl⟩
     have HCALL:Hid (∀W,Below wr.heap.size wr W→Calls Tryz.prog 56 #[.agg (tcs x (.slice px mx cx)).toArray] W fun e w'=>e=.returned (.string X)∧Below W.heap.size W w'):=fun W hW=>by
      rw [hX]
      exact HIH.out x HMX.out (.slice px mx cx) W HCX.out (aM HOK.out HMX.out) (HX2.out.below hW)
     rw [←hX] at HSN
     have hk3:k≤100000:=by omega
     have hm:=Mem.start wr
     clear hsx hx hmx hX HX2
     go_wp2_with (first
      | ((with_reducible refine af (some 33) (.indexAddr 22 (.tmp 29) (.tmp 31)) ?_);go_must (refine aa (.pointer (some ⟨b,o+k * 3,none⟩)) rfl (ak k rfl rfl rfl hlt) ?_))
      | ((with_reducible refine af (some 34) (.load 24 (.tmp 33)) ?_);go_must (refine aa (.agg (tcs x (.slice px mx cx)).toArray) rfl (am rfl c0 c1 c2) ?_))
      | ((with_reducible refine af (some 8) (.alloc 24) ?_);go_must (refine ap _ ax hm ?_);clear hm;intro w5 g5 hm)
      | ((with_reducible refine af none (.store 24 (.tmp 8) (.tmp 34)) ?_);go_must (refine au 0 (tcs x (.slice px mx cx)) hm rfl rfl rfl 3 aj rfl rfl (aY _ _ _ _) ?_);clear hm;intro w6 hm)
      | ((with_reducible refine af (some 36) (.load 24 (.tmp 8)) ?_);go_must (refine aE 0 hm rfl rfl _ Tryz.underlying24 rfl 3 aj rfl ?_))
      | (go_at_call 56;go_must (refine (HCALL.out _ hm.below).mono ?_);rintro e w7 ⟨he,hb⟩;subst he;replace hm:=hm.call hb;clear hb)
      | ((with_reducible refine af (some 38) (.buildSlice 97 1 #[(0,.tmp 37)]) ?_);go_must (refine bL rfl (.string ByteArray.empty) (.string X) eD info_str rfl rfl rfl hm ?_);clear hm;intro w8 g8 hb8 hm;clear hb8)
      | ((with_reducible refine af (some 39) (.call {callee:=.builtin .append,args:=#[.tmp 35,.tmp 38],argTypes:=#[97,97]}) ?_);go_must (refine bP (.string ByteArray.empty) 1 16 rfl eD made_str rfl (by omega) (by omega) (aK HO.out hm.below) (Nat.le_trans HW.out.size hm.size) rfl rfl (hm.get 0 rfl) rfl (by simp [Value.oneCell']) hk3 ?_);intro v9 w9 ho9 hg9 hl9;have HX9:Hid (w9.ownsRow w.heap.size 9 1 v9 (k+1) (strs (txs (t.l.take k))++[.string X])):=ho9;have HW9:Hid (Below w.heap.size w w9):=cE (bU HW.out HW.out.size hm.below) (Nat.le_trans HW.out.size hm.size) (aK HO.out hm.below) hg9;clear ho9 hg9 hl9 hm))
     go_roundw
     case rel=>exact ⟨k+1,_,by omega,by go_num,rfl,by show World.ownsRow _ _ _ _ _ _ _;rw [HSN.out ()];exact HX9.out,HW9.out⟩
     case measure=>simp [intOf];omega
    ·have hkn:m=k:=by omega
     subst hkn
     have hni:¬(m:Int)<(m:Int):=by omega
     have HTK:Hid (∀_:Unit,t.l.take m=t.l):=fun _=>by rw [HM.out (),List.take_length]
     obtain ⟨J,hJ⟩:∃J,J=mkS (jnB (t.l.map txt)):=⟨_,rfl⟩
     have HJN:Hid (∀W,Below wr.heap.size wr W→Calls Tryz.prog 65 #[vb,.string ⟨#[44]⟩] W fun e w'=>e=.returned (.string J)∧Below W.heap.size W w'):=fun W hW=>by
      have hq:=SlV.below (bK HO.out) hW
      rw [HTK.out ()] at hq
      have hlen:(txs t.l).length=m:=by rw [txs_len,HM.out ()]
      have h9:=join_any (txs t.l) vb W (by show SlV 1 W vb (txs t.l).length _;rw [hlen];exact hq) (by omega) (by
       rw [txs_bs]
       have h1:=HTL.out ()
       rw [HTW.out ()] at h1
       simp only [List.length_append,List.length_cons] at h1
       omega)
      rw [txs_bs,←hJ] at h9
      exact h9
     have HJL:Hid (∀_:Unit,H.size≤800∧J.size≤800):=fun _=>by
      have h1:=HTL.out ()
      rw [HTW.out ()] at h1
      simp only [List.length_append,List.length_cons] at h1
      rw [HH.out (),hJ,ay,ay]
      omega
     have HR:Hid (∀_:Unit,mkS (txt t)=H++mkS [40]++J++mkS [41]):=fun _=>by
      rw [HTW.out (),HH.out (),hJ,bh,bh,bh]
      congr 1
      simp
     obtain ⟨A1,hA1⟩:∃x,x=H++mkS [40]:=⟨_,rfl⟩
     obtain ⟨A2,hA2⟩:∃x,x=A1++J:=⟨_,rfl⟩
     obtain ⟨A3,hA3⟩:∃x,x=A2++mkS [41]:=⟨_,rfl⟩
     have HA1:Hid (∀_:Unit,A1=H++mkS [40]):=fun _=>hA1
     have HA2:Hid (∀_:Unit,A2=A1++J):=fun _=>hA2
     have HA3:Hid (∀_:Unit,A3=A2++mkS [41]):=fun _=>hA3
     have hm:=(Mem.start w).call HW.out
     have hmr:=Mem.start wr
     clear hJ hA1 hA2 hA3 HO
     go_wp2_with (first
      | ((with_reducible refine af (some 42) (.binOp .add 9 (.tmp 41) (.const (.string {data:=#[40]})) 9) ?_);go_must (refine aa (.string A1) rfl (aH H (mkS [40]) A1 (HA1.out ()) rfl rfl (by have h9:=HJL.out ();rw [ay];simp;omega)) ?_))
      | (go_at_call 65;go_must (refine (HJN.out _ hmr.below).mono ?_);rintro e w' ⟨he,hb⟩;subst he;replace hm:=hm.call hb;clear hb)
      | ((with_reducible refine af (some 45) (.binOp .add 9 (.tmp 42) (.tmp 44) 9) ?_);go_must (refine aa (.string A2) rfl (aH A1 J A2 (HA2.out ()) rfl rfl (by have h9:=HJL.out ();rw [HA1.out (),ByteArray.size_append,ay];simp;omega)) ?_))
      | ((with_reducible refine af (some 46) (.binOp .add 9 (.tmp 45) (.const (.string {data:=#[41]})) 9) ?_);go_must (refine aa (.string A3) rfl (aH A2 (mkS [41]) A3 (HA3.out ()) rfl rfl (by have h9:=HJL.out ();rw [HA2.out (),HA1.out (),ByteArray.size_append,ByteArray.size_append,ay,ay];simp;omega)) ?_)))
     go_ret
     exact ⟨by rw [HR.out (),←HA1.out (),←HA2.out (),←HA3.out ()];rfl,hm.below⟩
 | false =>
  have hkn:¬kn t.k=0:=by
   intro h
   have h1:=okF_k (aS HOK.out)
   unfold kn at h
   unfold nb at hnb
   simp only [decide_eq_false_iff_not] at hnb
   split at h
   ·omega
   ·split at h<;>omega
  have HHD:Hid (∀_:Unit,mkS (wd t.k)=mkS (hdT t.k t.n)):=fun _=>by rw [hdT,hnb];simp
  rw [hnb] at HF1 HFO
  have hz:((kn t.k:Int)==0)=false:=aD _ _ (by omega)
  have HTW:Hid (∀_:Unit,txt t=hdT t.k t.n++40::(jnB (t.l.map txt)++[41])):=fun _=>txt_with hkn
  clear hnb hkn
  go_enter Tryz.func56,Tryz.ntmps56
  go_wp2_with (first
   | ((with_reducible refine af (some 1) (.box 24 (.tmp 0)) ?_);go_must (refine aw (tcs t (.slice p m cap)) rfl hm ?_);clear hm;intro w1 g1 hm)
   | ((with_reducible refine af (some 11) (.load 3 (.tmp 10)) ?_);go_must (refine aa (.int .i64 t.k) rfl (ad (.int .i64 t.k) (Mem.cell hm 0 rfl 0) rfl ag) ?_))
   | (go_at_call 53;go_must (refine (HFO.out _).mono ?_);rintro e w2 ⟨he,hb⟩;subst he;replace hm:=hm.call hb;clear hb)
   | ((with_reducible refine af (some 3) (.alloc 85) ?_);go_must (refine ap _ aI hm ?_);clear hm;intro w3 g3 hm)
   | ((with_reducible refine af none (.store 85 (.tmp 3) (.tmp 13)) ?_);go_must (refine au 0 ([Value.string (mkS (wd t.k)),.bool false,.int .i64 (kn t.k:Int)]) hm rfl rfl rfl 3 aJ rfl rfl ((HF1.out ())) ?_);clear hm;intro w4 hm)
   | ((with_reducible refine af (some 16) (.load 9 (.tmp 15)) ?_);go_must (refine aa (.string (mkS (wd t.k))) rfl (ad (.string (mkS (wd t.k))) (Mem.cell hm 0 rfl 0) rfl bf) ?_))
   | ((with_reducible refine af (some 18) (.load 4 (.tmp 17)) ?_);go_must (refine aa (.bool false) rfl (ad (.bool false) (Mem.cell hm 0 rfl 1) rfl bM) ?_))
   | ((with_reducible refine af (some 25) (.load 3 (.tmp 24)) ?_);go_must (refine aa (.int .i64 (kn t.k:Int)) rfl (ad (.int .i64 (kn t.k:Int)) (Mem.cell hm 0 rfl 2) rfl ag) ?_))
   | ((with_reducible refine af (some 29) (.load 22 (.tmp 28)) ?_);go_must (refine aa (.slice p m cap) rfl (ad (.slice p m cap) (Mem.cell hm 1 rfl 2) rfl ah) ?_)))
  have HB4:Hid (Below w.heap.size w w4):=hm.below
  obtain ⟨H,hH⟩:∃H,H=mkS (hdT t.k t.n):=⟨_,rfl⟩
  rw [HHD.out (),←hH]
  have HH:Hid (∀_:Unit,H=mkS (hdT t.k t.n)):=fun _=>hH
  clear hm hH HHD
  go_loopw [31,6] (fun vi vk wr=>∃(k:Nat) (vb:Value),k≤m∧vi=.int .i64 (k:Int)∧vb=vk∧Hid (wr.ownsRow w.heap.size 9 1 vb k (strs (txs (t.l.take k))))∧Hid (Below w.heap.size w wr)) (fun vi _ _=>m - (intOf vi).toNat)
  case atStart=>exact ⟨0,_,by omega,rfl,rfl,World.ownsRow_nil _ _ _ _,HB4.out⟩
  case round =>
   obtain ⟨k,vb,hk,rfl,hvb,HO,HW⟩:=hrel
   subst hvb
   by_cases hlt:k<m
   ·have hki:(k:Int)<(m:Int):=by omega
    obtain ⟨b,o,rfl⟩:=HS.out.at (show 0<m by omega)
    obtain ⟨x,hx⟩:=aX (HM.out ()) hlt
    obtain ⟨px,mx,cx,c0,c1,c2,hmx,hsx⟩:=(HS.out.below HW.out).cells hx
    have HMX:Hid (x∈t.l):=List.mem_of_getElem? hx
    have HCX:Hid (cnt x≤100):=by show _≤_;have:=bE HMX.out;have:=HC.out;omega
    have HX2:Hid (SlT F wr (.slice px mx cx) x.l):=hsx
    have HSN:Hid (∀_:Unit,strs (txs (t.l.take (k+1)))=strs (txs (t.l.take k))++[.string (mkS (txt x))]):=fun _=>txs_snoc hx
    obtain ⟨X,hX⟩:∃X,X=mkS (txt x):=⟨_,rfl⟩
    have HCALL:Hid (∀W,Below wr.heap.size wr W→Calls Tryz.prog 56 #[.agg (tcs x (.slice px mx cx)).toArray] W fun e w'=>e=.returned (.string X)∧Below W.heap.size W w'):=fun W hW=>by
     rw [hX]
     exact HIH.out x HMX.out (.slice px mx cx) W HCX.out (aM HOK.out HMX.out) (HX2.out.below hW)
    rw [←hX] at HSN
    have hk3:k≤100000:=by omega
    have hm:=Mem.start wr
    clear hsx hx hmx hX HX2
    go_wp2_with (first
     | ((with_reducible refine af (some 33) (.indexAddr 22 (.tmp 29) (.tmp 31)) ?_);go_must (refine aa (.pointer (some ⟨b,o+k * 3,none⟩)) rfl (ak k rfl rfl rfl hlt) ?_))
     | ((with_reducible refine af (some 34) (.load 24 (.tmp 33)) ?_);go_must (refine aa (.agg (tcs x (.slice px mx cx)).toArray) rfl (am rfl c0 c1 c2) ?_))
     | ((with_reducible refine af (some 8) (.alloc 24) ?_);go_must (refine ap _ ax hm ?_);clear hm;intro w5 g5 hm)
     | ((with_reducible refine af none (.store 24 (.tmp 8) (.tmp 34)) ?_);go_must (refine au 0 (tcs x (.slice px mx cx)) hm rfl rfl rfl 3 aj rfl rfl (aY _ _ _ _) ?_);clear hm;intro w6 hm)
     | ((with_reducible refine af (some 36) (.load 24 (.tmp 8)) ?_);go_must (refine aE 0 hm rfl rfl _ Tryz.underlying24 rfl 3 aj rfl ?_))
     | (go_at_call 56;go_must (refine (HCALL.out _ hm.below).mono ?_);rintro e w7 ⟨he,hb⟩;subst he;replace hm:=hm.call hb;clear hb)
     | ((with_reducible refine af (some 38) (.buildSlice 97 1 #[(0,.tmp 37)]) ?_);go_must (refine bL rfl (.string ByteArray.empty) (.string X) eD info_str rfl rfl rfl hm ?_);clear hm;intro w8 g8 hb8 hm;clear hb8)
     | ((with_reducible refine af (some 39) (.call {callee:=.builtin .append,args:=#[.tmp 35,.tmp 38],argTypes:=#[97,97]}) ?_);go_must (refine bP (.string ByteArray.empty) 1 16 rfl eD made_str rfl (by omega) (by omega) (aK HO.out hm.below) (Nat.le_trans HW.out.size hm.size) rfl rfl (hm.get 0 rfl) rfl (by simp [Value.oneCell']) hk3 ?_);intro v9 w9 ho9 hg9 hl9;have HX9:Hid (w9.ownsRow w.heap.size 9 1 v9 (k+1) (strs (txs (t.l.take k))++[.string X])):=ho9;have HW9:Hid (Below w.heap.size w w9):=cE (bU HW.out HW.out.size hm.below) (Nat.le_trans HW.out.size hm.size) (aK HO.out hm.below) hg9;clear ho9 hg9 hl9 hm))
    go_roundw
    case rel=>exact ⟨k+1,_,by omega,by go_num,rfl,by show World.ownsRow _ _ _ _ _ _ _;rw [HSN.out ()];exact HX9.out,HW9.out⟩
    case measure=>simp [intOf];omega
   ·have hkn:m=k:=by omega
    subst hkn
    have hni:¬(m:Int)<(m:Int):=by omega
    have HTK:Hid (∀_:Unit,t.l.take m=t.l):=fun _=>by rw [HM.out (),List.take_length]
    obtain ⟨J,hJ⟩:∃J,J=mkS (jnB (t.l.map txt)):=⟨_,rfl⟩
    have HJN:Hid (∀W,Below wr.heap.size wr W→Calls Tryz.prog 65 #[vb,.string ⟨#[44]⟩] W fun e w'=>e=.returned (.string J)∧Below W.heap.size W w'):=fun W hW=>by
     have hq:=SlV.below (bK HO.out) hW
     rw [HTK.out ()] at hq
     have hlen:(txs t.l).length=m:=by rw [txs_len,HM.out ()]
     have h9:=join_any (txs t.l) vb W (by show SlV 1 W vb (txs t.l).length _;rw [hlen];exact hq) (by omega) (by
      rw [txs_bs]
      have h1:=HTL.out ()
      rw [HTW.out ()] at h1
      simp only [List.length_append,List.length_cons] at h1
      omega)
     rw [txs_bs,←hJ] at h9
     exact h9
    have HJL:Hid (∀_:Unit,H.size≤800∧J.size≤800):=fun _=>by
     have h1:=HTL.out ()
     rw [HTW.out ()] at h1
     simp only [List.length_append,List.length_cons] at h1
     rw [HH.out (),hJ,ay,ay]
     omega
    have HR:Hid (∀_:Unit,mkS (txt t)=H++mkS [40]++J++mkS [41]):=fun _=>by
     rw [HTW.out (),HH.out (),hJ,bh,bh,bh]
     congr 1
     simp
    obtain ⟨A1,hA1⟩:∃x,x=H++mkS [40]:=⟨_,rfl⟩
    obtain ⟨A2,hA2⟩:∃x,x=A1++J:=⟨_,rfl⟩
    obtain ⟨A3,hA3⟩:∃x,x=A2++mkS [41]:=⟨_,rfl⟩
    have HA1:Hid (∀_:Unit,A1=H++mkS [40]):=fun _=>hA1
    have HA2:Hid (∀_:Unit,A2=A1++J):=fun _=>hA2
    have HA3:Hid (∀_:Unit,A3=A2++mkS [41]):=fun _=>hA3
    have hm:=(Mem.start w).call HW.out
    have hmr:=Mem.start wr
    clear hJ hA1 hA2 hA3 HO
    go_wp2_with (first
     | ((with_reducible refine af (some 42) (.binOp .add 9 (.tmp 41) (.const (.string {data:=#[40]})) 9) ?_);go_must (refine aa (.string A1) rfl (aH H (mkS [40]) A1 (HA1.out ()) rfl rfl (by have h9:=HJL.out ();rw [ay];simp;omega)) ?_))
     | (go_at_call 65;go_must (refine (HJN.out _ hmr.below).mono ?_);rintro e w' ⟨he,hb⟩;subst he;replace hm:=hm.call hb;clear hb)
     | ((with_reducible refine af (some 45) (.binOp .add 9 (.tmp 42) (.tmp 44) 9) ?_);go_must (refine aa (.string A2) rfl (aH A1 J A2 (HA2.out ()) rfl rfl (by have h9:=HJL.out ();rw [HA1.out (),ByteArray.size_append,ay];simp;omega)) ?_))
     | ((with_reducible refine af (some 46) (.binOp .add 9 (.tmp 45) (.const (.string {data:=#[41]})) 9) ?_);go_must (refine aa (.string A3) rfl (aH A2 (mkS [41]) A3 (HA3.out ()) rfl rfl (by have h9:=HJL.out ();rw [HA2.out (),HA1.out (),ByteArray.size_append,ByteArray.size_append,ay,ay];simp;omega)) ?_)))
    go_ret
    exact ⟨by rw [HR.out (),←HA1.out (),←HA2.out (),←HA3.out ()];rfl,hm.below⟩
theorem print_any {F:Nat→Prop} (t:Tm) (s:Value) (w:World) (hs:SlT F w s t.l) :
  Calls Tryz.prog 45 #[.agg (tcs t s).toArray] w fun e w'=>e=.returned (.string (if isT t then mkS (txt t) else noStr))∧Below w.heap.size w w':=by
 have hm:=Mem.start w
 have HS:Hid (SlT F w s t.l):=hs
 have HIS:Hid (∀W,Below w.heap.size w W→Calls Tryz.prog 23 #[.agg (tcs t s).toArray] W fun e w'=>e=.returned (.bool (isT t))∧Below W.heap.size W w'):=fun W hW=>dL t s W (HS.out.below hW)
 clear hs
 cases hi:isT t with
 | true =>
  rw [hi] at HIS
  have HTX:Hid (∀W,Below w.heap.size w W→Calls Tryz.prog 56 #[.agg (tcs t s).toArray] W fun e w'=>e=.returned (.string (mkS (txt t)))∧Below W.heap.size W w'):=fun W hW=>by
   have h:=az.1 hi
   exact text_any t s W (by omega) h.2 (HS.out.below hW)
  clear hi
  go_enter Tryz.func45,Tryz.ntmps45
  go_wp2_with (first
   | ((with_reducible refine af (some 1) (.box 24 (.tmp 0)) ?_);go_must (refine aw (tcs t s) rfl hm ?_);clear hm;intro w1 g1 hm)
   | ((with_reducible refine af (some 3) (.load 24 (.tmp 1)) ?_);go_must (refine aE 0 hm rfl rfl _ Tryz.underlying24 rfl 3 aj rfl ?_))
   | (go_at_call 23;go_must (refine (HIS.out _ hm.below).mono ?_);rintro e w2 ⟨he,hb⟩;subst he;replace hm:=hm.call hb;clear hb)
   | ((with_reducible refine af (some 6) (.load 24 (.tmp 1)) ?_);go_must (refine aE 0 hm rfl rfl _ Tryz.underlying24 rfl 3 aj rfl ?_))
   | (go_at_call 56;go_must (refine (HTX.out _ hm.below).mono ?_);rintro e w3 ⟨he,hb⟩;subst he;replace hm:=hm.call hb;clear hb))
  go_ret
  exact ⟨rfl,hm.below⟩
 | false =>
  rw [hi] at HIS
  clear hi
  go_enter Tryz.func45,Tryz.ntmps45
  go_wp2_with (first
   | ((with_reducible refine af (some 1) (.box 24 (.tmp 0)) ?_);go_must (refine aw (tcs t s) rfl hm ?_);clear hm;intro w1 g1 hm)
   | ((with_reducible refine af (some 3) (.load 24 (.tmp 1)) ?_);go_must (refine aE 0 hm rfl rfl _ Tryz.underlying24 rfl 3 aj rfl ?_))
   | (go_at_call 23;go_must (refine (HIS.out _ hm.below).mono ?_);rintro e w2 ⟨he,hb⟩;subst he;replace hm:=hm.call hb;clear hb))
  go_ret
  exact ⟨rfl,hm.below⟩
open Go Go.RowKit
def rdv (R:List UInt8) (room:Int):List Value:=[.string (mkS R),.int .i64 room]
theorem eV {R P:List UInt8} (h:Lib.hasPrefix R P=true):Lib.trimPrefix R P=R.drop P.length:=by rw [Lib.trimPrefix,if_pos h]
theorem trim_no {R P:List UInt8} (h:Lib.hasPrefix R P=false):Lib.trimPrefix R P=R:=by rw [Lib.trimPrefix,if_neg (by rw [h];simp)]
theorem atoi1:∀i:Fin 10,Lib.atoi [UInt8.ofNat (48+i.val)]=some (i.val:Int):=by decide +kernel
theorem atoi2:∀i j:Fin 10,Lib.atoi [UInt8.ofNat (48+i.val),UInt8.ofNat (48+j.val)]=some (10 * (i.val:Int)+(j.val:Int)):=by decide +kernel
theorem num_cases (D:List UInt8) (h:∀b∈D,isDig b=true):(2<D.length∧numV D=none)∨(D=[]∧numV D=none)∨(∃v,D.length≤2∧Lib.atoi D=some v∧0≤v∧v≤99∧((dig v=D∧numV D=some v)∨(dig v≠D∧numV D=none))):=by
 match D,h with
 | [],_=>exact Or.inr (Or.inl ⟨rfl,rfl⟩)
 | [a],h =>
  obtain ⟨h1,h2,h3⟩:=cQ (h a (by simp))
  have hn:numV [a]=some (dv a):=rfl
  obtain ⟨g1,g2,g3⟩:=eR h hn
  have e:=atoi1 ⟨a.toNat - 48,by omega⟩
  simp only at e
  rw [h1] at e
  refine Or.inr (Or.inr ⟨dv a,by simp,?_,g2,g3,Or.inl ⟨g1,hn⟩⟩)
  rw [e,dv]
  congr 1
  omega
 | [a,b],h =>
  obtain ⟨h1,h2,h3⟩:=cQ (h a (by simp))
  obtain ⟨h4,h5,h6⟩:=cQ (h b (by simp))
  have e:=atoi2 ⟨a.toNat - 48,by omega⟩ ⟨b.toNat - 48,by omega⟩
  simp only at e
  rw [h1,h4] at e
  have ev:Lib.atoi [a,b]=some (10 * dv a+dv b):=by rw [e,dv,dv];congr 1;omega
  refine Or.inr (Or.inr ⟨10 * dv a+dv b,by simp,ev,by unfold dv;omega,by unfold dv;omega,?_⟩)
  by_cases ha:a=48
  ·refine Or.inr ⟨?_,by rw [numV,if_pos ha]⟩
   subst ha
   have e2:10 * dv 48+dv b<10:=by
    have:dv 48=0:=rfl
    rw [this];unfold dv;omega
   intro hc
   have:=congrArg List.length hc
   rw [dig,if_pos e2] at this
   simp at this
  ·have hn:numV [a,b]=some (10 * dv a+dv b):=by rw [numV,if_neg ha]
   exact Or.inl ⟨(eR h hn).1,hn⟩
 | a::b::c::r,_=>exact Or.inl ⟨by simp,rfl⟩
def kd (k:Nat):Int:=if k=3 then 5 else (k:Int)+1
theorem kd_range {k:Nat} (h:k<4):1≤kd k∧kd k≤5:=by unfold kd;split<;>omega
theorem kdOf_at {R:List UInt8} {k:Nat} (hk:k<4) (h:∀j,j<k→Lib.hasPrefix R (wd (kd j))=false) (hp:Lib.hasPrefix R (wd (kd k))=true):kdOf R=kd k:=by
 have c:k=0∨k=1∨k=2∨k=3:=by omega
 rcases c with rfl|rfl|rfl|rfl
 ·rw [kdOf,if_pos (show Lib.hasPrefix R [110]=true from hp)];rfl
 ·have h0:Lib.hasPrefix R [110]=false:=h 0 (by omega)
  rw [kdOf,if_neg (by rw [h0];decide),if_pos (show Lib.hasPrefix R [107]=true from hp)];rfl
 ·have h0:Lib.hasPrefix R [110]=false:=h 0 (by omega)
  have h1:Lib.hasPrefix R [107]=false:=h 1 (by omega)
  rw [kdOf,if_neg (by rw [h0];decide),if_neg (by rw [h1];decide),if_pos (show Lib.hasPrefix R [115,101,97,108]=true from hp)];rfl
 ·have h0:Lib.hasPrefix R [110]=false:=h 0 (by omega)
  have h1:Lib.hasPrefix R [107]=false:=h 1 (by omega)
  have h2:Lib.hasPrefix R [115,101,97,108]=false:=h 2 (by omega)
  rw [kdOf,if_neg (by rw [h0];decide),if_neg (by rw [h1];decide),if_neg (by rw [h2];decide),if_pos (show Lib.hasPrefix R [100]=true from hp)];rfl
theorem kdOf_none {R:List UInt8} (h:∀j,j<4→Lib.hasPrefix R (wd (kd j))=false):kdOf R=4:=by
 have h0:Lib.hasPrefix R [110]=false:=h 0 (by omega)
 have h1:Lib.hasPrefix R [107]=false:=h 1 (by omega)
 have h2:Lib.hasPrefix R [115,101,97,108]=false:=h 2 (by omega)
 have h3:Lib.hasPrefix R [100]=false:=h 3 (by omega)
 rw [kdOf,if_neg (by rw [h0];decide),if_neg (by rw [h1];decide),if_neg (by rw [h2];decide),if_neg (by rw [h3];decide)]
def kds:List Value:=[.int .i64 1,.int .i64 2,.int .i64 3,.int .i64 5]
theorem kds_get {k:Nat} (h:k<4):kds[k]?=some (.int .i64 (kd k)):=by
 have c:k=0∨k=1∨k=2∨k=3:=by omega
 rcases c with rfl|rfl|rfl|rfl<;>rfl
theorem d4 (s:List UInt8):s.take (ldg s).length=ldg s:=by
 unfold ldg
 induction s with
 | nil=>rfl
 | cons x s ih =>
  rw [List.takeWhile_cons]
  split
  ·rw [List.length_cons,List.take_succ_cons,ih]
  ·rfl
theorem ao {P:Program} {R:Act→World→Prop} {T:World→Prop} {a:Act} {w w0:World} {S:List Nat} {rows:List (Nat×List Value×TypeId)} {id:Nat} {l:List Oper} (hmix:P.follows .mixedOrders=true) (hm:Mem w0 S w rows)
  (h:∀w',Below w.heap.size w w'→Mem w0 S w' rows→wpAnyH P .any l.toArray (endsIn R) T l.toArray.size (Array.replicate l.toArray.size false) a w'):(Code.region id l.toArray true).wp P (endsIn R) a w :=
 wp_region_held hmix (h _ ⟨rfl,rfl,rfl,Nat.le_refl _,fun _ _=>rfl⟩ hm.drew)
theorem run_bsl4 {P:Program} (w:World) {t elem:TypeId} (z v0 v1 v2 v3:Value) (hu:P.underlying t=some (.slice elem)) (hi:(P.info? elem).map (fun i=>(i.zero,i.size))=some (some z,1)) (hz:z.cells=#[z]) (h0:v0.cells=#[v0]) (h1:v1.cells=#[v1]) (h2:v2.cells=#[v2]) (h3:v3.cells=#[v3]) :
  (Instr.buildSlice t 4 #[(0,v0),(1,v1),(2,v2),(3,v3)]).run P w=.ok (.slice (some ⟨w.heap.size,0,none⟩) 4 4) (w.alloc (.cells [v0,v1,v2,v3].toArray elem)):=by
 obtain ⟨hz1,hs1⟩:=zero_of_info hi
 cases hq:P.info? elem with
 | none=>simp [hq] at hi
 | some q =>
  have hs:q.size=1:=by simpa [hq] using hs1
  have e:Array.map (fun x=>([z][x % 1]?).getD default) (Array.range 4)=#[z,z,z,z]:=by
   apply Array.ext
   ·simp
   ·intro i h1 h2
    have h3:i=0∨i=1∨i=2∨i=3:=by
     have:i<4:=by simpa using h2
     omega
    rcases h3 with rfl|rfl|rfl|rfl<;>simp
  simp [Instr.buildSlice,run_underlying hu,sizeOf,typeInfo,hq,hs,hz1,hz,Instr.fill,h0,h1,h2,h3,newRow,newObj]
  rw [e]
  rfl
theorem df {w w':World} (hg:w.grownBy w' none):Below w.heap.size w w':=⟨hg.os,hg.tape,hg.output,hg.size,fun k hk=>hg.block k hk (by simp)⟩
section
variable {ops:Array Oper} {rest:List Oper} {a:Act} {w w0:World} {Q:Exit→Act→World→Prop} {dst:Option Tmp} {typ:TypeId} {pos:String} {aft:Array Edge} {gd:Option (Nat×Bool)} {S:List Nat} {rows:List (Nat×List Value×TypeId)}
theorem wpl_kds (hw:Region.wanted {dst:=dst,op:=.buildSlice 41 4 #[(0,.const (.int .i64 1)),(1,.const (.int .i64 2)),(2,.const (.int .i64 3)),(3,.const (.int .i64 5))],type:=typ,pos:=pos,after:=aft,guard:=gd} (yielded ops a.tmps)=true) (hm:Mem w0 S w rows)
  (h:∀w' g,Mem w0 S w' ((g,kds,3)::rows)→wpList Tryz.prog ops Q rest (a.put dst (.slice (some ⟨g,0,none⟩) 4 4)) w') :
  wpList Tryz.prog ops Q ({dst:=dst,op:=.buildSlice 41 4 #[(0,.const (.int .i64 1)),(1,.const (.int .i64 2)),(2,.const (.int .i64 3)),(3,.const (.int .i64 5))],type:=typ,pos:=pos,after:=aft,guard:=gd}::rest) a w:=by
 refine wpList_step fun K hK=>?_
 rw [if_pos hw]
 have hh:=hK _ _ (h _ _ (hm.alloc kds 3))
 unfold Oper.wp execOp
 simp only [List.map_toArray,List.map_cons,List.map_nil,Act.eval,run_bsl4 (P:=Tryz.prog) w (.int .i64 0) (.int .i64 1) (.int .i64 2) (.int .i64 3) (.int .i64 5) aU bV rfl rfl rfl rfl rfl,Sem.run_bind,Sem.run_pure,Result.andThen_ok]
 exact hh
theorem exec_ixI0 {x ix:Operand} {b n cap:Nat} (i:Nat) {ii:Int} (hx:a.eval x=.slice (some ⟨b,0,none⟩) n cap) (hix:a.eval ix=.int .i64 ii) (hii:ii=(i:Int)) (hi:i<n) :
  (execOp a.eval {dst:=dst,op:=.indexAddr 41 x ix,type:=typ,pos:=pos,after:=aft,guard:=gd}).run Tryz.prog w=.ok (.value (.pointer (some ⟨b,i,none⟩))) w:=by
 subst hii
 have h0:(0:Int)≤(i:Int)∧(i:Int)<(n:Int):=by omega
 unfold execOp
 simp [hx,hix,Instr.indexAt,asIntOf,run_underlying aU,h0,aQ]
 omega
theorem wpl_makeT {x y:Operand} (hx:a.eval x=.int .i64 0) (n:Nat) {j:Int} (hy:a.eval y=.int .i64 j) (hj:j=(n:Int)) (hn:n≤100) {base:Nat} (hb:base≤w.heap.size)
  (h:∀w' g,w'.ownsRow base 24 3 (.slice (some ⟨g,0,none⟩) 0 n) 0 []→Below w.heap.size w w'→wpList Tryz.prog ops Q rest (a.put dst (.slice (some ⟨g,0,none⟩) 0 n)) w') :
  wpList Tryz.prog ops Q ({dst:=dst,op:=.makeSlice 22 x y,type:=typ,pos:=pos,after:=aft,guard:=none}::rest) a w:=by
 subst hj
 refine wpList_plain rfl fun K hK=>?_
 cases hq:Tryz.prog.info? 24 with
 | none=>have:=bI;simp [hq] at this
 | some q =>
  have hi:=bI
  simp only [hq,Option.map_some,Option.some.injEq,Prod.mk.injEq] at hi
  obtain ⟨h0,h1,h2⟩:=hi
  obtain ⟨w',hr,ho,hg⟩:=run_makeSlice_owned (P:=Tryz.prog) (w:=w) base 22 24 q _ 3 aZ hq h0 h1 .i64 .i64 n (by omega) (by rw [h2];omega) (by unfold maxLen;omega) hb
  have hh:=hK _ _ (h w' _ ho (df hg))
  unfold Oper.wp execOp
  simp only [hx,hy,hr,Sem.run_bind,Sem.run_pure,Result.andThen_ok]
  exact hh
theorem dx {x h:Operand} (s r:ByteArray) (n:Nat) (hn:n≤s.size) (hr:bs r=(bs s).take n) (hx:a.eval x=.string s) (hh:a.eval h=.int .i64 (n:Int)) :
  (execOp a.eval {dst:=dst,op:=.slice 9 x none (some h) none,type:=typ,pos:=pos,after:=aft,guard:=gd}).run Tryz.prog w=.ok (.value (.string r)) w:=by
 have e:s.extract 0 n=r:=bs_inj (by rw [hr];exact Lib.extract_from_zero s n)
 unfold execOp
 have hc:(0:Int)≤(n:Int)∧(n:Int)≤(s.size:Int):=by omega
 simp only [hx,Option.map_none,Option.map_some,hh,Sem.run_bind,run_sliceAt_string _ _ _ _ _ _ eG,run_slice_string_to_if _ _ _ _ _ eG,if_pos hc,Int.toNat_natCast,e,Result.andThen_ok,Sem.run_pure]
end
def Esx (w:World):Prop:=∃te pe,w.cell? ⟨1,0,none⟩=some (.iface te pe)
theorem Esx.below {w w':World} (h:Esx w) (hb:Below w.heap.size w w'):Esx w':=by
 obtain ⟨te,pe,hm⟩:=h
 exact ⟨te,pe,by rw [hb.cell (p:=⟨1,0,none⟩) (block_lt_of_cell hm)];exact hm⟩
theorem Esx.upd {w w':World} {g:Nat} (h:Esx w) (hu:Upd g w w') (hg:10≤g):Esx w':=by
 obtain ⟨te,pe,hm⟩:=h
 exact ⟨te,pe,by rw [hu.cell (p:=⟨1,0,none⟩) (block_lt_of_cell hm) (by show (_:Nat)≠g;simp only;omega)];exact hm⟩
theorem atoi_ok (s:ByteArray) (n:Int) (hl:s.size≤18) (h:Lib.atoi (bs s)=some n) (w:World) :
  Calls Tryz.prog 79 #[.string s] w fun e w'=>e=.returned (.tuple #[.int .i64 n,.nilIface])∧Below w.heap.size w w':=by
 refine (Any.strconv_Atoi atoiA s n hl h w).mono ?_
 rintro e w' ⟨rfl,t,rfl⟩
 exact ⟨rfl,Lib.bytesWorld_below _ _ _⟩
theorem atoi_no (s:ByteArray) (hl:s.size≤18) (h:Lib.atoi (bs s)=none) (w:World) (hE:Esx w) :
  Calls Tryz.prog 79 #[.string s] w fun e w'=>∃N T,e=.returned (.tuple #[.int .i64 0,.iface T (.pointer (some ⟨N,0,none⟩))])∧Below w.heap.size w w':=by
 obtain ⟨te,pe,hv⟩:=hE
 refine (Any.strconv_Atoi_err atoiC s hl h (.iface te pe) w hv (Or.inr ⟨te,pe,rfl⟩)).mono ?_
 rintro e w' ⟨N,rfl,_,_,hb⟩
 exact ⟨N,_,rfl,hb⟩
open Go Go.RowKit Go.Maps
theorem eI:Tryz.prog.underlying 50=some (.map 3 67):=Tryz.underlying50
theorem dD:∀w,(zeroValue 67).run Tryz.prog w=.ok (.agg [].toArray) w:=(zero_of_info (show (Tryz.prog.info? 67).map (fun i=>(i.zero,i.size))=some (some (.agg [].toArray),0) by kernel_rfl)).1
theorem sz_unitC:(Tryz.prog.info? 67).map (·.size)=some 0:=by kernel_rfl
theorem int_of (i:Nat) (h:i≤100000):∃kl,keyOf Tryz.prog 3 (.int .i64 (i:Int))=some kl:=⟨_,keyOf_int_mk Tryz.underlying3 (by
 have h1:=wrap64_wf (i:Int)
 rwa [show wrap64 (i:Int)=(i:Int) by unfold wrap64;omega] at h1)⟩
section
variable {a:Act} {w:World} {dst:Option Tmp} {typ:TypeId} {pos:String} {aft:Array Edge} {gd:Option (Nat×Bool)}
theorem exec_lookC {t:TypeId} {x k:Operand} {mv kv:Value} {r:Value} (h:(Instr.lookup t mv kv true).run Tryz.prog w=.ok r w) (hx:a.eval x=mv) (hk:a.eval k=kv) :
  (execOp a.eval {dst:=dst,op:=.lookup t x k true,type:=typ,pos:=pos,after:=aft,guard:=gd}).run Tryz.prog w=.ok (.value r) w:=by
 unfold execOp
 simp only [hx,hk,h,Sem.run_bind,Sem.run_pure,Result.andThen_ok]
end
structure DerR (w:World) (dg mk g:Nat) (T R:List Tm):Prop where
 row:∃vr,Row w dg [.pointer (some ⟨g,0,none⟩),.map (some mk),vr] 52
 km:∃q,KM Tryz.prog 3 w mk q (knownP T R)
theorem DerR.below {w w':World} {dg mk g:Nat} {T R:List Tm} (h:DerR w dg mk g T R) (hb:Below w.heap.size w w'):DerR w' dg mk g T R:=by
 obtain ⟨vr,h1⟩:=h.row
 obtain ⟨q,h2⟩:=h.km
 exact ⟨⟨vr,h1.below' hb⟩,⟨q,h2.below hb⟩⟩
theorem DerR.look {w:World} {dg mk g:Nat} {T R:List Tm} (h:DerR w dg mk g T R) {i:Nat} {t:Tm} (hi:i≤100000) (ht:T[i]?=some t) {b:Bool} (hb:b=true↔t∈R):(Instr.lookup 50 (.map (some mk)) (.int .i64 (i:Int)) true).run Tryz.prog w=.ok (.tuple #[.agg [].toArray,.bool b]) w:=by
 obtain ⟨q,hk⟩:=h.km
 obtain ⟨kl,hkl⟩:=int_of i hi
 cases b with
 | true=>exact hk.look eK eI (dD w) hkl ⟨rfl,i,t,ht,hb.1 rfl,rfl⟩
 | false =>
  refine hk.lookNo eK eI (dD w) hkl (fun v hv=>?_)
  obtain ⟨_,j,u,hu,hur,he⟩:=hv
  simp only [Value.int.injEq,true_and] at he
  have:j=i:=by omega
  subst this
  rw [ht] at hu
  have hh:t∈R:=by rw [Option.some.inj hu];exact hur
  have:=hb.2 hh
  cases this
theorem bc (w:World) (dg mk g i:Nat) (T R:List Tm) (t:Tm) (b:Bool) (h:DerR w dg mk g T R) (hi:i≤100000) (ht:T[i]?=some t) (hb:b=true↔t∈R) :
  Calls Tryz.prog 29 #[.pointer (some ⟨dg,0,none⟩),.int .i64 (i:Int)] w fun e w'=>e=.returned (.bool b)∧Below w.heap.size w w':=by
 have hm:=Mem.start w
 have HD:Hid (DerR w dg mk g T R):=h
 have HLK:Hid (∀W,Below w.heap.size w W→(Instr.lookup 50 (.map (some mk)) (.int .i64 (i:Int)) true).run Tryz.prog W=.ok (.tuple #[.agg [].toArray,.bool b]) W):=fun W hW=>(h.below hW).look hi ht hb
 obtain ⟨vr,hr⟩:=h.row
 have HR:Hid (Row w dg [.pointer (some ⟨g,0,none⟩),.map (some mk),vr] 52):=hr
 clear h ht hb hr
 go_enter Tryz.func29,Tryz.ntmps29
 go_wp2_with (first
  | ((with_reducible refine af (some 11) (.load 50 (.tmp 10)) ?_);go_must (refine aa (.map (some mk)) rfl (ad (.map (some mk)) ((HR.out.below' hm.below).cell 1) rfl fg) ?_))
  | ((with_reducible refine af (some 13) (.lookup 50 (.tmp 11) (.tmp 12) true) ?_);go_must (refine aa (.tuple #[.agg [].toArray,.bool b]) rfl (exec_lookC (HLK.out _ hm.below) rfl rfl) ?_))
  | ((with_reducible refine af (some 5) (.alloc 67) ?_);go_must (refine ap _ dD hm ?_);clear hm;intro w3 g5 hm)
  | ((with_reducible refine af none (.store 67 (.tmp 5) (.tmp 14)) ?_);go_must (refine au 0 [] hm rfl rfl rfl 0 sz_unitC rfl rfl (by intro v hv;cases hv) ?_);clear hm;intro w4 hm))
 go_ret
 exact ⟨rfl,hm.below⟩
theorem cH (w:World) (g i:Nat) (T:List Tm) (AR:Nat→Option Addr×Nat×List Nat) (m bs cs ba ca:Nat) (t:Tm) (h:WebR w g T AR m bs cs ba ca) (ht:T[i]?=some t) :
  Calls Tryz.prog 55 #[.pointer (some ⟨g,0,none⟩),.int .i64 (i:Int)] w fun e w'=>e=.returned (.slice (some ⟨bs,i * 5+3,none⟩) t.l.length 2)∧Below w.heap.size w w':=by
 have hm:=Mem.start w
 have hlt:i<T.length:=(List.getElem?_eq_some_iff.1 ht).1
 obtain ⟨L,hL⟩:∃L,L=T.length:=⟨_,rfl⟩
 obtain ⟨n,hn⟩:∃n,n=t.l.length:=⟨_,rfl⟩
 have hr:=h.row
 obtain ⟨_,_,a3,a4,_⟩:=h.sh i t ht
 rw [←hL] at hlt hr
 rw [←hn] at a3 a4 ⊢
 have HR:Hid (Row w g [.map (some m),.slice (some ⟨bs,0,none⟩) L cs,.slice (some ⟨ba,0,none⟩) L ca] 62):=hr
 have H3:Hid (∀W,Below w.heap.size w W→W.cell? ⟨bs,i * 5+2,none⟩=some (.int .i64 (n:Int))):=fun W hW=>(hW.cell (p:=⟨bs,_,none⟩) (block_lt_of_cell a3)).trans a3
 have HN2:Hid (n≤2):=a4
 have HLT:Hid (i<L):=hlt
 clear h ht hr a3 a4 hL hn hlt
 go_enter Tryz.func55,Tryz.ntmps55
 go_wp2_with (first
  | ((with_reducible refine af (some 9) (.load 59 (.tmp 8)) ?_);go_must (refine aa (.slice (some ⟨bs,0,none⟩) L cs) rfl (ad (.slice (some ⟨bs,0,none⟩) L cs) ((HR.out.below' hm.below).cell 1) rfl bw) ?_))
  | ((with_reducible refine af (some 11) (.indexAddr 59 (.tmp 9) (.tmp 10)) ?_);go_must (refine aa (.pointer (some ⟨bs,i * 5,none⟩)) rfl (bS i rfl rfl rfl HLT.out) ?_)))
 refine aq ?_
 refine ao (T:=fun W=>Below w.heap.size w W) (by kernel_rfl) hm ?_
 intro wc hbw hmw
 replace hm:Below w.heap.size w wc:=hbw
 clear hbw hmw
 refine aT 0 (v:=.pointer (some ⟨bs,i * 5,none⟩)) rfl (by kernel_rfl) rfl (fun W _=>by go_simp) hm ?_
 go_simp
 refine aT 1 (v:=.pointer (some ⟨bs,i * 5,none⟩)) rfl (by kernel_rfl) rfl (fun W _=>by go_simp) hm ?_
 go_simp
 refine aT 2 (v:=.pointer (some ⟨bs,i * 5+3,none⟩)) rfl (by kernel_rfl) rfl (fun W _=>by go_simp) hm ?_
 go_simp
 refine aT 3 (v:=.pointer (some ⟨bs,i * 5,none⟩)) rfl (by kernel_rfl) rfl (fun W _=>by go_simp) hm ?_
 go_simp
 refine aT 4 (v:=.pointer (some ⟨bs,i * 5,none⟩)) rfl (by kernel_rfl) rfl (fun W _=>by go_simp) hm ?_
 go_simp
 refine aT 5 (v:=.pointer (some ⟨bs,i * 5+2,none⟩)) rfl (by kernel_rfl) rfl (fun W _=>by go_simp) hm ?_
 go_simp
 refine aT 6 (v:=.int .i64 (n:Int)) rfl (by kernel_rfl) rfl (fun W hW=>ad (.int .i64 (n:Int)) (H3.out W hW) rfl ag) hm ?_
 go_simp
 refine aT 7 (v:=.slice (some ⟨bs,i * 5+3,none⟩) n 2) rfl (by kernel_rfl) rfl (fun W _=>ec HN2.out rfl rfl rfl) hm ?_
 go_simp
 refine aT 8 (v:=.slice (some ⟨bs,i * 5+3,none⟩) n 2) rfl (by kernel_rfl) rfl (fun W _=>by go_simp) hm ?_
 go_simp
 refine wpAnyH_done (by kernel_rfl) ?_ _
 simp only [endsIn]
 go_wp2_with fail
 go_ret
 exact ⟨rfl,hm⟩
end Go.Proofs.YtcibhfcjbokdlaaGreatDoor
