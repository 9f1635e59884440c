import Derived.Test.YtcibhfcjbokdlaaGreatDoorQt02
import Derived.Shelf.Strings.SlTrimAscii
import Derived.Shelf.Small.Wraps
import Derived.Shelf.Strings.OnBuilder
import Derived.Shelf.Strconv.Itoa3
import Derived.Shelf.Strconv.Atoi
import Derived.Shelf.Strconv.ErrVar
import Derived.Test.YtcibhfcjbokdlaaGreatDoorChecked
set_option maxRecDepth 100000
set_option maxHeartbeats 4000000
namespace Go.Proofs.YtcibhfcjbokdlaaGreatDoor
open Go Go.RowKit
theorem formed_any {F:Nat→Prop} (t:Tm):∀(s:Value) (w:World),cnt t≤100→SlT F w s t.l →
  Calls Tryz.prog 42 #[.agg (tcs t s).toArray] w fun e w'=>e=.returned (.bool (okT t))∧Below w.heap.size w w':=by
 induction t using Tm.ind with
 | h t ih =>
 intro s w hc hs
 have HIH:Hid _:=ih
 clear ih
 obtain ⟨p,cap,rfl,hcap⟩:=hs.len
 obtain ⟨m,hml⟩:∃m,m=t.l.length:=⟨_,rfl⟩
 have HM:Hid (∀_:Unit,m=t.l.length):=fun _=>hml
 have HS:Hid (SlT F w (.slice p m cap) t.l):=by rw [hml];exact hs
 have HOK:Hid (∀_:Unit,okT t=(decide (1≤t.k∧t.k≤5)&&decide (m=kn t.k)&&hasF (nb t.k) t.n&&t.l.all okT)):=fun _=>by rw [dH,hml];rfl
 rw [←hml]
 have hm100:m<100:=by
  have h1:=sum_ge (l:=t.l) (k:=t.l.length) (Nat.le_refl _)
  rw [List.take_length] at h1
  have h2:=bQ t
  omega
 have HC:Hid (cnt t≤100):=hc
 clear hs hml hcap hc
 have hm:=Mem.start w
 by_cases hk:1≤t.k∧t.k≤5
 ·have HF1:Hid (∀_:Unit,∀v∈[Value.string (mkS (wd t.k)),.bool (nb t.k),.int .i64 (kn t.k:Int)],v.oneCell'=true):=fun _=>by rw [←aW hk];exact bX _
  have HHAS:Hid (∀W,Calls Tryz.prog 54 #[.agg [Value.string (mkS (wd t.k)),.bool (nb t.k),.int .i64 (kn t.k:Int)].toArray,.int .i64 t.n] W fun e w'=>e=.returned (.bool (hasF (nb t.k) t.n))∧Below W.heap.size W w'):=fun W=>by
   have:=has_any t.k t.n hk W
   rw [aW hk] at this
   exact this
  have HFO:Hid (∀W,Calls Tryz.prog 53 #[.int .i64 t.k] W fun e w'=>e=.returned (.tuple #[.agg [Value.string (mkS (wd t.k)),.bool (nb t.k),.int .i64 (kn t.k:Int)].toArray,.bool true])∧Below W.heap.size W w'):=fun W=>by
   have:=bd t.k W
   rw [aW hk,decide_eq_true hk] at this
   exact this
  have HOK2:Hid (∀_:Unit,okT t=(decide (m=kn t.k)&&hasF (nb t.k) t.n&&t.l.all okT)):=fun _=>by rw [HOK.out (),decide_eq_true hk,Bool.true_and]
  clear hk HOK
  by_cases hmk:m=kn t.k
  ·have hne:((m:Int) != (kn t.k:Int))=false:=by simp [hmk]
   cases hh:hasF (nb t.k) t.n with
   | false =>
    have HR:Hid (∀_:Unit,okT t=false):=fun _=>by rw [HOK2.out (),hh,Bool.and_false,Bool.false_and]
    rw [hh] at HHAS
    clear hh hmk
    go_enter Tryz.func42,Tryz.ntmps42
    go_wp2_with (first
     | ((with_reducible refine af (some 1) (.box 24 (.tmp 0)) ?_);go_must (refine aw (tcs t (.slice p m cap)) rfl hm ?_);clear hm;intro w1 g1 hm)
     | ((with_reducible refine af (some 9) (.load 3 (.tmp 8)) ?_);go_must (refine aa (.int .i64 t.k) rfl (ad (.int .i64 t.k) (Mem.cell hm 0 rfl 0) rfl ag) ?_))
     | (go_at_call 53;go_must (refine (HFO.out _).mono ?_);rintro e w2 ⟨he,hb⟩;subst he;replace hm:=hm.call hb;clear hb)
     | ((with_reducible refine af (some 3) (.alloc 85) ?_);go_must (refine ap _ aI hm ?_);clear hm;intro w3 g3 hm)
     | ((with_reducible refine af none (.store 85 (.tmp 3) (.tmp 11)) ?_);go_must (refine au 0 ([Value.string (mkS (wd t.k)),.bool (nb t.k),.int .i64 (kn t.k:Int)]) hm rfl rfl rfl 3 aJ rfl rfl ((HF1.out ())) ?_);clear hm;intro w4 hm)
     | ((with_reducible refine aC (some 17) (.load 22 (.tmp 16)) (some (2,false)) ?_);go_must (refine aa (.slice p m cap) rfl (ad (.slice p m cap) (Mem.cell hm 1 rfl 2) rfl ah) ?_))
     | ((with_reducible refine aC (some 20) (.load 3 (.tmp 19)) (some (2,false)) ?_);go_must (refine aa (.int .i64 (kn t.k:Int)) rfl (ad (.int .i64 (kn t.k:Int)) (Mem.cell hm 0 rfl 2) rfl ag) ?_))
     | ((with_reducible refine aC (some 24) (.load 85 (.tmp 3)) (some (10,false)) ?_);go_must (refine aa (.agg ([Value.string (mkS (wd t.k)),.bool (nb t.k),.int .i64 (kn t.k:Int)]).toArray) rfl (aB 0 ([Value.string (mkS (wd t.k)),.bool (nb t.k),.int .i64 (kn t.k:Int)]) (Mem.get hm 0 rfl) rfl _ Tryz.underlying85 rfl 3 aJ (Nat.le_refl _) rfl) ?_))
     | ((with_reducible refine aC (some 26) (.load 3 (.tmp 25)) (some (10,false)) ?_);go_must (refine aa (.int .i64 t.n) rfl (ad (.int .i64 t.n) (Mem.cell hm 1 rfl 1) rfl ag) ?_))
     | (go_at_call 54;go_must (refine (HHAS.out _).mono ?_);rintro e w5 ⟨he,hb⟩;subst he;replace hm:=hm.call hb;clear hb))
    go_ret
    exact ⟨by rw [HR.out ()];rfl,hm.below⟩
   | true =>
    have HOK3:Hid (∀_:Unit,okT t=t.l.all okT):=fun _=>by rw [HOK2.out (),hh,decide_eq_true hmk];rfl
    rw [hh] at HHAS
    clear hh hmk HOK2
    go_enter Tryz.func42,Tryz.ntmps42
    go_wp2_with (first
     | ((with_reducible refine af (some 1) (.box 24 (.tmp 0)) ?_);go_must (refine aw (tcs t (.slice p m cap)) rfl hm ?_);clear hm;intro w1 g1 hm)
     | ((with_reducible refine af (some 9) (.load 3 (.tmp 8)) ?_);go_must (refine aa (.int .i64 t.k) rfl (ad (.int .i64 t.k) (Mem.cell hm 0 rfl 0) rfl ag) ?_))
     | (go_at_call 53;go_must (refine (HFO.out _).mono ?_);rintro e w2 ⟨he,hb⟩;subst he;replace hm:=hm.call hb;clear hb)
     | ((with_reducible refine af (some 3) (.alloc 85) ?_);go_must (refine ap _ aI hm ?_);clear hm;intro w3 g3 hm)
     | ((with_reducible refine af none (.store 85 (.tmp 3) (.tmp 11)) ?_);go_must (refine au 0 ([Value.string (mkS (wd t.k)),.bool (nb t.k),.int .i64 (kn t.k:Int)]) hm rfl rfl rfl 3 aJ rfl rfl ((HF1.out ())) ?_);clear hm;intro w4 hm)
     | ((with_reducible refine aC (some 17) (.load 22 (.tmp 16)) (some (2,false)) ?_);go_must (refine aa (.slice p m cap) rfl (ad (.slice p m cap) (Mem.cell hm 1 rfl 2) rfl ah) ?_))
     | ((with_reducible refine aC (some 20) (.load 3 (.tmp 19)) (some (2,false)) ?_);go_must (refine aa (.int .i64 (kn t.k:Int)) rfl (ad (.int .i64 (kn t.k:Int)) (Mem.cell hm 0 rfl 2) rfl ag) ?_))
     | ((with_reducible refine aC (some 24) (.load 85 (.tmp 3)) (some (10,false)) ?_);go_must (refine aa (.agg ([Value.string (mkS (wd t.k)),.bool (nb t.k),.int .i64 (kn t.k:Int)]).toArray) rfl (aB 0 ([Value.string (mkS (wd t.k)),.bool (nb t.k),.int .i64 (kn t.k:Int)]) (Mem.get hm 0 rfl) rfl _ Tryz.underlying85 rfl 3 aJ (Nat.le_refl _) rfl) ?_))
     | ((with_reducible refine aC (some 26) (.load 3 (.tmp 25)) (some (10,false)) ?_);go_must (refine aa (.int .i64 t.n) rfl (ad (.int .i64 t.n) (Mem.cell hm 1 rfl 1) rfl ag) ?_))
     | (go_at_call 54;go_must (refine (HHAS.out _).mono ?_);rintro e w5 ⟨he,hb⟩;subst he;replace hm:=hm.call hb;clear hb)
     | ((with_reducible refine af (some 31) (.load 22 (.tmp 30)) ?_);go_must (refine aa (.slice p m cap) rfl (ad (.slice p m cap) (Mem.cell hm 1 rfl 2) rfl ah) ?_)))
    go_loopw [33] (fun vi wr=>∃k:Nat,k≤m∧vi=.int .i64 (k:Int)∧Hid ((t.l.take k).all okT=true)∧Hid (Mem w [] wr [])) (fun vi _=>m - (intOf vi).toNat)
    case atStart=>exact ⟨0,by omega,rfl,rfl,hm.sub (List.nil_sublist _)⟩
    case round =>
     clear hm
     obtain ⟨k,hk,rfl,HA,HMM⟩:=hrel
     by_cases hlt:k<m
     ·have hki:(k:Int)<(m:Int):=by omega
      obtain ⟨b,o,rfl⟩:=HS.out.at (show 0<m by omega)
      obtain ⟨x,hx⟩:=aX (HM.out ()) hlt
      have hm:=HMM.out
      obtain ⟨px,mx,cx,c0,c1,c2,hmx,hsx⟩:=(HS.out.below hm.below).cells hx
      have HMX:Hid (x∈t.l):=List.mem_of_getElem? hx
      have HCX:Hid (cnt x≤100):=by show _≤_;have:=bE HMX.out;have:=HC.out;omega
      have HX2:Hid (SlT F wr (.slice px mx cx) x.l):=hsx
      have HNX:Hid (∀_:Unit,(t.l.take (k+1)).all okT=okT x):=fun _=>by rw [List.take_add_one,hx];simp only [List.all_append,HA.out];simp
      have HB0:Hid (Mem w [] wr []):=hm
      replace hm:=Mem.start wr
      clear hsx hx HMM HA hmx
      cases hox:okT x with
      | false =>
       have HR:Hid (∀_:Unit,okT t=false):=fun _=>by
        rw [HOK3.out (),List.all_eq_false]
        exact ⟨x,HMX.out,by rw [hox];decide⟩
       have HCALL:Hid (∀W,Below wr.heap.size wr W→Calls Tryz.prog 42 #[.agg (tcs x (.slice px mx cx)).toArray] W fun e w'=>e=.returned (.bool false)∧Below W.heap.size W w'):=fun W hW=>by
        have h9:=HIH.out x HMX.out (.slice px mx cx) W HCX.out (HX2.out.below hW)
        rw [hox] at h9
        exact h9
       clear hox HNX
       go_wp2_with (first
        | ((with_reducible refine af (some 35) (.indexAddr 22 (.tmp 31) (.tmp 33)) ?_);go_must (refine aa (.pointer (some ⟨b,o+k * 3,none⟩)) rfl (ak k rfl rfl rfl hlt) ?_))
        | ((with_reducible refine af (some 36) (.load 24 (.tmp 35)) ?_);go_must (refine aa (.agg (tcs x (.slice px mx cx)).toArray) rfl (am rfl c0 c1 c2) ?_))
        | ((with_reducible refine af (some 6) (.alloc 24) ?_);go_must (refine ap _ ax hm ?_);clear hm;intro w2 g2 hm)
        | ((with_reducible refine af none (.store 24 (.tmp 6) (.tmp 36)) ?_);go_must (refine au 0 (tcs x (.slice px mx cx)) hm rfl rfl rfl 3 aj rfl rfl (aY _ _ _ _) ?_);clear hm;intro w3 hm)
        | ((with_reducible refine af (some 37) (.load 24 (.tmp 6)) ?_);go_must (refine aE 0 hm rfl rfl _ Tryz.underlying24 rfl 3 aj rfl ?_))
        | (go_at_call 42;go_must (refine (HCALL.out _ hm.below).mono ?_);rintro e w4 ⟨he,hb⟩;subst he;replace hm:=hm.call hb;clear hb))
       go_ret
       exact ⟨by rw [HR.out ()];rfl,(HB0.out.call hm.below).below⟩
      | true =>
       have HCALL:Hid (∀W,Below wr.heap.size wr W→Calls Tryz.prog 42 #[.agg (tcs x (.slice px mx cx)).toArray] W fun e w'=>e=.returned (.bool true)∧Below W.heap.size W w'):=fun W hW=>by
        have h9:=HIH.out x HMX.out (.slice px mx cx) W HCX.out (HX2.out.below hW)
        rw [hox] at h9
        exact h9
       have HNY:Hid ((t.l.take (k+1)).all okT=true):=by show _=_;rw [HNX.out (),hox]
       clear hox HNX
       go_wp2_with (first
        | ((with_reducible refine af (some 35) (.indexAddr 22 (.tmp 31) (.tmp 33)) ?_);go_must (refine aa (.pointer (some ⟨b,o+k * 3,none⟩)) rfl (ak k rfl rfl rfl hlt) ?_))
        | ((with_reducible refine af (some 36) (.load 24 (.tmp 35)) ?_);go_must (refine aa (.agg (tcs x (.slice px mx cx)).toArray) rfl (am rfl c0 c1 c2) ?_))
        | ((with_reducible refine af (some 6) (.alloc 24) ?_);go_must (refine ap _ ax hm ?_);clear hm;intro w2 g2 hm)
        | ((with_reducible refine af none (.store 24 (.tmp 6) (.tmp 36)) ?_);go_must (refine au 0 (tcs x (.slice px mx cx)) hm rfl rfl rfl 3 aj rfl rfl (aY _ _ _ _) ?_);clear hm;intro w3 hm)
        | ((with_reducible refine af (some 37) (.load 24 (.tmp 6)) ?_);go_must (refine aE 0 hm rfl rfl _ Tryz.underlying24 rfl 3 aj rfl ?_))
        | (go_at_call 42;go_must (refine (HCALL.out _ hm.below).mono ?_);rintro e w4 ⟨he,hb⟩;subst he;replace hm:=hm.call hb;clear hb))
       go_roundw
       case rel=>exact ⟨k+1,by omega,by go_num,HNY.out,HB0.out.call hm.below⟩
       case measure=>simp [intOf];omega
     ·have hkn:m=k:=by omega
      subst hkn
      have hni:¬(m:Int)<(m:Int):=by omega
      have HR:Hid (∀_:Unit,okT t=true):=fun _=>by
       have h1:=HA.out
       rw [HM.out (),List.take_length] at h1
       rw [HOK3.out (),h1]
      have hm:=HMM.out
      clear HA
      go_wp2_with fail
      go_ret
      exact ⟨by rw [HR.out ()];rfl,hm.below⟩
  ·have hne:((m:Int) != (kn t.k:Int))=true:=by simp;omega
   have HR:Hid (∀_:Unit,okT t=false):=fun _=>by rw [HOK2.out (),decide_eq_false hmk];rfl
   clear hmk HOK2
   go_enter Tryz.func42,Tryz.ntmps42
   go_wp2_with (first
    | ((with_reducible refine af (some 1) (.box 24 (.tmp 0)) ?_);go_must (refine aw (tcs t (.slice p m cap)) rfl hm ?_);clear hm;intro w1 g1 hm)
    | ((with_reducible refine af (some 9) (.load 3 (.tmp 8)) ?_);go_must (refine aa (.int .i64 t.k) rfl (ad (.int .i64 t.k) (Mem.cell hm 0 rfl 0) rfl ag) ?_))
    | (go_at_call 53;go_must (refine (HFO.out _).mono ?_);rintro e w2 ⟨he,hb⟩;subst he;replace hm:=hm.call hb;clear hb)
    | ((with_reducible refine af (some 3) (.alloc 85) ?_);go_must (refine ap _ aI hm ?_);clear hm;intro w3 g3 hm)
    | ((with_reducible refine af none (.store 85 (.tmp 3) (.tmp 11)) ?_);go_must (refine au 0 ([Value.string (mkS (wd t.k)),.bool (nb t.k),.int .i64 (kn t.k:Int)]) hm rfl rfl rfl 3 aJ rfl rfl ((HF1.out ())) ?_);clear hm;intro w4 hm)
    | ((with_reducible refine aC (some 17) (.load 22 (.tmp 16)) (some (2,false)) ?_);go_must (refine aa (.slice p m cap) rfl (ad (.slice p m cap) (Mem.cell hm 1 rfl 2) rfl ah) ?_))
    | ((with_reducible refine aC (some 20) (.load 3 (.tmp 19)) (some (2,false)) ?_);go_must (refine aa (.int .i64 (kn t.k:Int)) rfl (ad (.int .i64 (kn t.k:Int)) (Mem.cell hm 0 rfl 2) rfl ag) ?_)))
   go_ret
   exact ⟨by rw [HR.out ()];rfl,hm.below⟩
 ·have HF1:Hid (∀_:Unit,∀v∈[Value.string noStr,.bool false,.int .i64 0],v.oneCell'=true):=fun _=>by
   intro v hv;simp only [List.mem_cons,List.not_mem_nil,or_false] at hv;rcases hv with rfl|rfl|rfl<;>rfl
  have HFO:Hid (∀W,Calls Tryz.prog 53 #[.int .i64 t.k] W fun e w'=>e=.returned (.tuple #[.agg [.string noStr,.bool false,.int .i64 0].toArray,.bool false])∧Below W.heap.size W w'):=fun W=>by
   have:=bd t.k W
   rw [fmv,if_neg hk,decide_eq_false hk] at this
   exact this
  have HR:Hid (∀_:Unit,okT t=false):=fun _=>by rw [HOK.out (),decide_eq_false hk];rfl
  clear hk HOK
  go_enter Tryz.func42,Tryz.ntmps42
  go_wp2_with (first
   | ((with_reducible refine af (some 1) (.box 24 (.tmp 0)) ?_);go_must (refine aw (tcs t (.slice p m cap)) rfl hm ?_);clear hm;intro w1 g1 hm)
   | ((with_reducible refine af (some 9) (.load 3 (.tmp 8)) ?_);go_must (refine aa (.int .i64 t.k) rfl (ad (.int .i64 t.k) (Mem.cell hm 0 rfl 0) rfl ag) ?_))
   | (go_at_call 53;go_must (refine (HFO.out _).mono ?_);rintro e w2 ⟨he,hb⟩;subst he;replace hm:=hm.call hb;clear hb)
   | ((with_reducible refine af (some 3) (.alloc 85) ?_);go_must (refine ap _ aI hm ?_);clear hm;intro w3 g3 hm)
   | ((with_reducible refine af none (.store 85 (.tmp 3) (.tmp 11)) ?_);go_must (refine au 0 ([.string noStr,.bool false,.int .i64 0]) hm rfl rfl rfl 3 aJ rfl rfl ((HF1.out ())) ?_);clear hm;intro w4 hm))
  go_ret
  exact ⟨by rw [HR.out ()];rfl,hm.below⟩
theorem dL {F:Nat→Prop} (t:Tm) (s:Value) (w:World) (hs:SlT F w s t.l) :
  Calls Tryz.prog 23 #[.agg (tcs t s).toArray] w fun e w'=>e=.returned (.bool (isT t))∧Below w.heap.size w w':=by
 have hm:=Mem.start w
 have HS:Hid (SlT F w s t.l):=hs
 have HC:Hid (∀W,Below w.heap.size w W→Calls Tryz.prog 41 #[.agg (tcs t s).toArray] W fun e w'=>e=.returned (.int .i64 ((min 61 (cnt t):Nat):Int))∧Below W.heap.size W w'):=fun W hW=>count_any t s W (HS.out.below hW)
 obtain ⟨c,hc⟩:∃c,c=min 61 (cnt t):=⟨_,rfl⟩
 rw [←hc] at HC
 by_cases h60:cnt t≤60
 ·have hci:decide ((c:Int)≤60)=true:=decide_eq_true (by omega)
  have HFM:Hid (∀W,Below w.heap.size w W→Calls Tryz.prog 42 #[.agg (tcs t s).toArray] W fun e w'=>e=.returned (.bool (okT t))∧Below W.heap.size W w'):=fun W hW=>formed_any t s W (by omega) (HS.out.below hW)
  have HR:Hid (∀_:Unit,isT t=okT t):=fun _=>by rw [isT,decide_eq_true h60,Bool.true_and]
  clear hs hc h60
  go_enter Tryz.func23,Tryz.ntmps23
  go_wp2_with (first
   | ((with_reducible refine af (some 1) (.box 24 (.tmp 0)) ?_);go_must (refine aw (tcs t s) rfl hm ?_);clear hm;intro w1 g1 hm)
   | ((with_reducible refine af (some 3) (.load 24 (.tmp 1)) ?_);go_must (refine aE 0 hm rfl rfl _ Tryz.underlying24 rfl 3 aj rfl ?_))
   | (go_at_call 41;go_must (refine (HC.out _ hm.below).mono ?_);rintro e w2 ⟨he,hb⟩;subst he;replace hm:=hm.call hb;clear hb)
   | ((with_reducible refine aC (some 7) (.load 24 (.tmp 1)) (some (3,true)) ?_);go_must (refine aa (.agg (tcs t s).toArray) rfl (aB 0 (tcs t s) (Mem.get hm 0 rfl) rfl _ Tryz.underlying24 rfl 3 aj (Nat.le_refl _) rfl) ?_))
   | (go_at_call 42;go_must (refine (HFM.out _ hm.below).mono ?_);rintro e w3 ⟨he,hb⟩;subst he;replace hm:=hm.call hb;clear hb))
  go_ret
  exact ⟨by rw [HR.out ()];rfl,hm.below⟩
 ·have hci:decide ((c:Int)≤60)=false:=decide_eq_false (by omega)
  have HR:Hid (∀_:Unit,isT t=false):=fun _=>by rw [isT,decide_eq_false h60,Bool.false_and]
  clear hs hc h60
  go_enter Tryz.func23,Tryz.ntmps23
  go_wp2_with (first
   | ((with_reducible refine af (some 1) (.box 24 (.tmp 0)) ?_);go_must (refine aw (tcs t s) rfl hm ?_);clear hm;intro w1 g1 hm)
   | ((with_reducible refine af (some 3) (.load 24 (.tmp 1)) ?_);go_must (refine aE 0 hm rfl rfl _ Tryz.underlying24 rfl 3 aj rfl ?_))
   | (go_at_call 41;go_must (refine (HC.out _ hm.below).mono ?_);rintro e w2 ⟨he,hb⟩;subst he;replace hm:=hm.call hb;clear hb))
  go_ret
  exact ⟨by rw [HR.out ()];rfl,hm.below⟩
open Go Go.RowKit Go.Shelf
def trimA_ren:Go.Shelf.Ren:=⟨fun | 161=>78 | 231=>90 | 227=>91 | 233=>92 | 235=>93 | 228=>101 | 197=>102 | 151=>103 | 260=>116 | 152=>117 | 137=>125 | 119=>126 | 224=>127 | 225=>128 | 217=>133 | 266=>134|n=>n,fun | 9=>9 | 4=>4 | 3=>3 | 5=>5 | 117=>131 | 116=>130 | 0=>0 | 124=>134 | 105=>142 | 21=>21 | 119=>170 | 46=>32 | 139=>173 | 138=>172|n=>n,fun | 3=>4 | 4=>5|n=>n⟩
theorem trimA:Go.Proofs.Lays.n161 Tryz.prog trimA_ren:={
 mixed:=by kernel_rfl
 f119:=Tryz.func126.trans (congrArg some (by kernel_rfl))
 f137:=Tryz.func125.trans (congrArg some (by kernel_rfl))
 f151:=Tryz.func103.trans (congrArg some (by kernel_rfl))
 f152:=Tryz.func117.trans (congrArg some (by kernel_rfl))
 f161:=Tryz.func78.trans (congrArg some (by kernel_rfl))
 f197:=Tryz.func102.trans (congrArg some (by kernel_rfl))
 f217:=Tryz.func133.trans (congrArg some (by kernel_rfl))
 f224:=Tryz.func127.trans (congrArg some (by kernel_rfl))
 f225:=Tryz.func128.trans (congrArg some (by kernel_rfl))
 f227:=Tryz.func91.trans (congrArg some (by kernel_rfl))
 f228:=Tryz.func101.trans (congrArg some (by kernel_rfl))
 f231:=Tryz.func90.trans (congrArg some (by kernel_rfl))
 f233:=Tryz.func92.trans (congrArg some (by kernel_rfl))
 f235:=Tryz.func93.trans (congrArg some (by kernel_rfl))
 f260:=Tryz.func116.trans (congrArg some (by kernel_rfl))
 f266:=Tryz.func134.trans (congrArg some (by kernel_rfl))
 t0:=Tryz.underlying0
 a0:=Tryz.isAgg0
 z0:=Tryz.sizeOf0
 v0:=Tryz.zeroValue0
 t3:=Tryz.underlying3
 a3:=Tryz.isAgg3
 z3:=Tryz.sizeOf3
 v3:=Tryz.zeroValue3
 t4:=Tryz.underlying4
 a4:=Tryz.isAgg4
 z4:=Tryz.sizeOf4
 v4:=Tryz.zeroValue4
 t5:=Tryz.underlying5
 a5:=Tryz.isAgg5
 z5:=Tryz.sizeOf5
 v5:=Tryz.zeroValue5
 t9:=Tryz.underlying9
 a9:=Tryz.isAgg9
 z9:=Tryz.sizeOf9
 v9:=Tryz.zeroValue9
 t21:=Tryz.underlying21
 a21:=Tryz.isAgg21
 z21:=Tryz.sizeOf21
 v21:=Tryz.zeroValue21
 t46:=Tryz.underlying32
 a46:=Tryz.isAgg32
 z46:=Tryz.sizeOf32
 v46:=Tryz.zeroValue32
 t105:=Tryz.underlying142
 a105:=Tryz.isAgg142
 z105:=Tryz.sizeOf142
 v105:=Tryz.zeroValue142
 t116:=Tryz.underlying130
 a116:=Tryz.isAgg130
 z116:=Tryz.sizeOf130
 t117:=Tryz.underlying131
 a117:=Tryz.isAgg131
 z117:=Tryz.sizeOf131
 v117:=Tryz.zeroValue131
 t119:=Tryz.underlying170
 a119:=Tryz.isAgg170
 z119:=Tryz.sizeOf170
 t124:=Tryz.underlying134
 a124:=Tryz.isAgg134
 z124:=Tryz.sizeOf134
 v124:=Tryz.zeroValue134
 t138:=Tryz.underlying172
 a138:=Tryz.isAgg172
 z138:=Tryz.sizeOf172
 v138:=Tryz.zeroValue172
 t139:=Tryz.underlying173
 a139:=Tryz.isAgg173
 z139:=Tryz.sizeOf173
 v139:=Tryz.zeroValue173
 g3:=by kernel_rfl
 g4:=by kernel_rfl}
def cutpA_ren:Go.Shelf.Ren:=⟨fun | 103=>89 | 210=>100 | 206=>115|n=>n,fun | 9=>9 | 4=>4 | 24=>126 | 3=>3|n=>n,fun|n=>n⟩
theorem cutpA:Go.Proofs.Lays.n103 Tryz.prog cutpA_ren:={
 mixed:=by kernel_rfl
 f103:=Tryz.func89.trans (congrArg some (by kernel_rfl))
 f206:=Tryz.func115.trans (congrArg some (by kernel_rfl))
 f210:=Tryz.func100.trans (congrArg some (by kernel_rfl))
 t3:=Tryz.underlying3
 a3:=Tryz.isAgg3
 z3:=Tryz.sizeOf3
 v3:=Tryz.zeroValue3
 t4:=Tryz.underlying4
 a4:=Tryz.isAgg4
 z4:=Tryz.sizeOf4
 v4:=Tryz.zeroValue4
 t9:=Tryz.underlying9
 a9:=Tryz.isAgg9
 z9:=Tryz.sizeOf9
 v9:=Tryz.zeroValue9
 t24:=Tryz.underlying126
 a24:=Tryz.isAgg126
 z24:=Tryz.sizeOf126
 v24:=Tryz.zeroValue126}
def joinA_ren:Go.Shelf.Ren:=⟨fun | 156=>65 | 165=>81 | 166=>82 | 169=>83 | 240=>97 | 241=>98 | 276=>113 | 277=>114|n=>n,fun | 31=>97 | 9=>9 | 3=>3 | 4=>4 | 0=>0 | 20=>20 | 72=>118 | 76=>114 | 70=>116 | 37=>90 | 75=>113 | 127=>137 | 164=>155 | 5=>5 | 80=>119|n=>n,fun|n=>n⟩
theorem joinA:Go.Proofs.Lays.n156 Tryz.prog joinA_ren:={
 mixed:=by kernel_rfl
 f156:=Tryz.func65.trans (congrArg some (by kernel_rfl))
 f165:=Tryz.func81.trans (congrArg some (by kernel_rfl))
 f166:=Tryz.func82.trans (congrArg some (by kernel_rfl))
 f169:=Tryz.func83.trans (congrArg some (by kernel_rfl))
 f240:=Tryz.func97.trans (congrArg some (by kernel_rfl))
 f241:=Tryz.func98.trans (congrArg some (by kernel_rfl))
 f276:=Tryz.func113.trans (congrArg some (by kernel_rfl))
 f277:=Tryz.func114.trans (congrArg some (by kernel_rfl))
 t0:=Tryz.underlying0
 a0:=Tryz.isAgg0
 z0:=Tryz.sizeOf0
 v0:=Tryz.zeroValue0
 t3:=Tryz.underlying3
 a3:=Tryz.isAgg3
 z3:=Tryz.sizeOf3
 v3:=Tryz.zeroValue3
 t4:=Tryz.underlying4
 a4:=Tryz.isAgg4
 z4:=Tryz.sizeOf4
 v4:=Tryz.zeroValue4
 t9:=Tryz.underlying9
 a9:=Tryz.isAgg9
 z9:=Tryz.sizeOf9
 v9:=Tryz.zeroValue9
 t20:=Tryz.underlying20
 a20:=Tryz.isAgg20
 z20:=Tryz.sizeOf20
 v20:=Tryz.zeroValue20
 t31:=Tryz.underlying97
 a31:=Tryz.isAgg97
 z31:=Tryz.sizeOf97
 v31:=Tryz.zeroValue97
 t37:=Tryz.underlying90
 a37:=Tryz.isAgg90
 z37:=Tryz.sizeOf90
 v37:=Tryz.zeroValue90
 t70:=Tryz.underlying116
 a70:=Tryz.isAgg116
 z70:=Tryz.sizeOf116
 v70:=Tryz.zeroValue116
 t72:=Tryz.underlying118
 a72:=Tryz.isAgg118
 z72:=Tryz.sizeOf118
 v72:=Tryz.zeroValue118
 t75:=Tryz.underlying113
 a75:=Tryz.isAgg113
 z75:=Tryz.sizeOf113
 v75:=Tryz.zeroValue113
 t76:=Tryz.underlying114
 a76:=Tryz.isAgg114
 z76:=Tryz.sizeOf114
 v76:=Tryz.zeroValue114
 t127:=Tryz.underlying137
 a127:=Tryz.isAgg137
 z127:=Tryz.sizeOf137
 v127:=Tryz.zeroValue137
 t164:=Tryz.underlying155
 a164:=Tryz.isAgg155
 z164:=Tryz.sizeOf155
 v164:=Tryz.zeroValue155}
def itoaA_ren:Go.Shelf.Ren:=⟨fun | 171=>64 | 243=>80 | 246=>96 | 283=>109 | 284=>110 | 285=>111 | 286=>112 | 129=>75 | 317=>121 | 318=>122 | 319=>123 | 320=>124 | 337=>131 | 338=>132|n=>n,fun | 3=>3 | 9=>9 | 2=>2 | 4=>4 | 171=>151 | 0=>0 | 53=>109 | 37=>90 | 5=>5 | 173=>153 | 212=>168 | 51=>107 | 20=>20 | 213=>169 | 46=>32 | 232=>180 | 233=>181|n=>n,fun | 17=>3 | 18=>6 | 19=>7|n=>n⟩
theorem itoaA:Go.Proofs.Lays.n171 Tryz.prog itoaA_ren:={
 mixed:=by kernel_rfl
 f129:=Tryz.func75.trans (congrArg some (by kernel_rfl))
 f171:=Tryz.func64.trans (congrArg some (by kernel_rfl))
 f243:=Tryz.func80.trans (congrArg some (by kernel_rfl))
 f246:=Tryz.func96.trans (congrArg some (by kernel_rfl))
 f283:=Tryz.func109.trans (congrArg some (by kernel_rfl))
 f284:=Tryz.func110.trans (congrArg some (by kernel_rfl))
 f285:=Tryz.func111.trans (congrArg some (by kernel_rfl))
 f286:=Tryz.func112.trans (congrArg some (by kernel_rfl))
 f317:=Tryz.func121.trans (congrArg some (by kernel_rfl))
 f318:=Tryz.func122.trans (congrArg some (by kernel_rfl))
 f319:=Tryz.func123.trans (congrArg some (by kernel_rfl))
 f320:=Tryz.func124.trans (congrArg some (by kernel_rfl))
 f337:=Tryz.func131.trans (congrArg some (by kernel_rfl))
 f338:=Tryz.func132.trans (congrArg some (by kernel_rfl))
 t0:=Tryz.underlying0
 a0:=Tryz.isAgg0
 z0:=Tryz.sizeOf0
 v0:=Tryz.zeroValue0
 t2:=Tryz.underlying2
 a2:=Tryz.isAgg2
 z2:=Tryz.sizeOf2
 v2:=Tryz.zeroValue2
 t3:=Tryz.underlying3
 a3:=Tryz.isAgg3
 z3:=Tryz.sizeOf3
 v3:=Tryz.zeroValue3
 t4:=Tryz.underlying4
 a4:=Tryz.isAgg4
 z4:=Tryz.sizeOf4
 v4:=Tryz.zeroValue4
 t5:=Tryz.underlying5
 a5:=Tryz.isAgg5
 z5:=Tryz.sizeOf5
 v5:=Tryz.zeroValue5
 t9:=Tryz.underlying9
 a9:=Tryz.isAgg9
 z9:=Tryz.sizeOf9
 v9:=Tryz.zeroValue9
 t20:=Tryz.underlying20
 a20:=Tryz.isAgg20
 z20:=Tryz.sizeOf20
 v20:=Tryz.zeroValue20
 t37:=Tryz.underlying90
 a37:=Tryz.isAgg90
 z37:=Tryz.sizeOf90
 v37:=Tryz.zeroValue90
 t46:=Tryz.underlying32
 a46:=Tryz.isAgg32
 z46:=Tryz.sizeOf32
 v46:=Tryz.zeroValue32
 t51:=Tryz.underlying107
 a51:=Tryz.isAgg107
 z51:=Tryz.sizeOf107
 v51:=Tryz.zeroValue107
 t53:=Tryz.underlying109
 a53:=Tryz.isAgg109
 z53:=Tryz.sizeOf109
 v53:=Tryz.zeroValue109
 t171:=Tryz.underlying151
 a171:=Tryz.isAgg151
 z171:=Tryz.sizeOf151
 v171:=Tryz.zeroValue151
 t173:=Tryz.underlying153
 a173:=Tryz.isAgg153
 z173:=Tryz.sizeOf153
 v173:=Tryz.zeroValue153
 t212:=Tryz.underlying168
 a212:=Tryz.isAgg168
 z212:=Tryz.sizeOf168
 v212:=Tryz.zeroValue168
 t213:=Tryz.underlying169
 a213:=Tryz.isAgg169
 z213:=Tryz.sizeOf169
 t232:=Tryz.underlying180
 a232:=Tryz.isAgg180
 z232:=Tryz.sizeOf180
 v232:=Tryz.zeroValue180
 t233:=Tryz.underlying181
 a233:=Tryz.isAgg181
 z233:=Tryz.sizeOf181
 v233:=Tryz.zeroValue181
 g17:=by kernel_rfl
 g18:=by kernel_rfl
 g19:=by kernel_rfl}
def atoiA_ren:Go.Shelf.Ren:=⟨fun | 172=>79 | 244=>94 | 245=>95 | 247=>104 | 279=>105 | 280=>106 | 281=>107 | 282=>108 | 287=>118 | 316=>119 | 171=>64 | 205=>120 | 321=>129 | 322=>130 | 243=>80 | 246=>96 | 283=>109 | 284=>110 | 285=>111 | 286=>112 | 129=>75 | 317=>121 | 318=>122 | 319=>123 | 320=>124 | 337=>131 | 338=>132|n=>n,fun | 9=>9 | 3=>3 | 75=>113 | 76=>114 | 4=>4 | 5=>5 | 167=>145 | 37=>90 | 0=>0 | 85=>146 | 2=>2 | 168=>148 | 53=>109 | 175=>160 | 46=>32 | 210=>164 | 127=>137 | 145=>179 | 143=>177 | 21=>21 | 171=>151 | 173=>153 | 212=>168 | 51=>107 | 20=>20 | 213=>169 | 232=>180 | 233=>181 | 80=>119|n=>n,fun | 15=>1 | 16=>2 | 17=>3 | 18=>6 | 19=>7|n=>n⟩
theorem atoiA:Go.Proofs.Lays.n172 Tryz.prog atoiA_ren:={
 mixed:=by kernel_rfl
 f129:=Tryz.func75.trans (congrArg some (by kernel_rfl))
 f171:=Tryz.func64.trans (congrArg some (by kernel_rfl))
 f172:=Tryz.func79.trans (congrArg some (by kernel_rfl))
 f205:=Tryz.func120.trans (congrArg some (by kernel_rfl))
 f243:=Tryz.func80.trans (congrArg some (by kernel_rfl))
 f244:=Tryz.func94.trans (congrArg some (by kernel_rfl))
 f245:=Tryz.func95.trans (congrArg some (by kernel_rfl))
 f246:=Tryz.func96.trans (congrArg some (by kernel_rfl))
 f247:=Tryz.func104.trans (congrArg some (by kernel_rfl))
 f279:=Tryz.func105.trans (congrArg some (by kernel_rfl))
 f280:=Tryz.func106.trans (congrArg some (by kernel_rfl))
 f281:=Tryz.func107.trans (congrArg some (by kernel_rfl))
 f282:=Tryz.func108.trans (congrArg some (by kernel_rfl))
 f283:=Tryz.func109.trans (congrArg some (by kernel_rfl))
 f284:=Tryz.func110.trans (congrArg some (by kernel_rfl))
 f285:=Tryz.func111.trans (congrArg some (by kernel_rfl))
 f286:=Tryz.func112.trans (congrArg some (by kernel_rfl))
 f287:=Tryz.func118.trans (congrArg some (by kernel_rfl))
 f316:=Tryz.func119.trans (congrArg some (by kernel_rfl))
 f317:=Tryz.func121.trans (congrArg some (by kernel_rfl))
 f318:=Tryz.func122.trans (congrArg some (by kernel_rfl))
 f319:=Tryz.func123.trans (congrArg some (by kernel_rfl))
 f320:=Tryz.func124.trans (congrArg some (by kernel_rfl))
 f321:=Tryz.func129.trans (congrArg some (by kernel_rfl))
 f322:=Tryz.func130.trans (congrArg some (by kernel_rfl))
 f337:=Tryz.func131.trans (congrArg some (by kernel_rfl))
 f338:=Tryz.func132.trans (congrArg some (by kernel_rfl))
 t0:=Tryz.underlying0
 a0:=Tryz.isAgg0
 z0:=Tryz.sizeOf0
 v0:=Tryz.zeroValue0
 t2:=Tryz.underlying2
 a2:=Tryz.isAgg2
 z2:=Tryz.sizeOf2
 v2:=Tryz.zeroValue2
 t3:=Tryz.underlying3
 a3:=Tryz.isAgg3
 z3:=Tryz.sizeOf3
 v3:=Tryz.zeroValue3
 t4:=Tryz.underlying4
 a4:=Tryz.isAgg4
 z4:=Tryz.sizeOf4
 v4:=Tryz.zeroValue4
 t5:=Tryz.underlying5
 a5:=Tryz.isAgg5
 z5:=Tryz.sizeOf5
 v5:=Tryz.zeroValue5
 t9:=Tryz.underlying9
 a9:=Tryz.isAgg9
 z9:=Tryz.sizeOf9
 v9:=Tryz.zeroValue9
 t20:=Tryz.underlying20
 a20:=Tryz.isAgg20
 z20:=Tryz.sizeOf20
 v20:=Tryz.zeroValue20
 t21:=Tryz.underlying21
 a21:=Tryz.isAgg21
 z21:=Tryz.sizeOf21
 v21:=Tryz.zeroValue21
 t37:=Tryz.underlying90
 a37:=Tryz.isAgg90
 z37:=Tryz.sizeOf90
 v37:=Tryz.zeroValue90
 t46:=Tryz.underlying32
 a46:=Tryz.isAgg32
 z46:=Tryz.sizeOf32
 v46:=Tryz.zeroValue32
 t51:=Tryz.underlying107
 a51:=Tryz.isAgg107
 z51:=Tryz.sizeOf107
 v51:=Tryz.zeroValue107
 t53:=Tryz.underlying109
 a53:=Tryz.isAgg109
 z53:=Tryz.sizeOf109
 v53:=Tryz.zeroValue109
 t75:=Tryz.underlying113
 a75:=Tryz.isAgg113
 z75:=Tryz.sizeOf113
 v75:=Tryz.zeroValue113
 t76:=Tryz.underlying114
 a76:=Tryz.isAgg114
 z76:=Tryz.sizeOf114
 v76:=Tryz.zeroValue114
 t85:=Tryz.underlying146
 a85:=Tryz.isAgg146
 z85:=Tryz.sizeOf146
 v85:=Tryz.zeroValue146
 t127:=Tryz.underlying137
 a127:=Tryz.isAgg137
 z127:=Tryz.sizeOf137
 v127:=Tryz.zeroValue137
 t143:=Tryz.underlying177
 a143:=Tryz.isAgg177
 z143:=Tryz.sizeOf177
 v143:=Tryz.zeroValue177
 t145:=Tryz.underlying179
 a145:=Tryz.isAgg179
 z145:=Tryz.sizeOf179
 v145:=Tryz.zeroValue179
 t167:=Tryz.underlying145
 a167:=Tryz.isAgg145
 z167:=Tryz.sizeOf145
 v167:=Tryz.zeroValue145
 t168:=Tryz.underlying148
 a168:=Tryz.isAgg148
 z168:=Tryz.sizeOf148
 v168:=Tryz.zeroValue148
 t171:=Tryz.underlying151
 a171:=Tryz.isAgg151
 z171:=Tryz.sizeOf151
 v171:=Tryz.zeroValue151
 t173:=Tryz.underlying153
 a173:=Tryz.isAgg153
 z173:=Tryz.sizeOf153
 v173:=Tryz.zeroValue153
 t175:=Tryz.underlying160
 a175:=Tryz.isAgg160
 z175:=Tryz.sizeOf160
 v175:=Tryz.zeroValue160
 t210:=Tryz.underlying164
 a210:=Tryz.isAgg164
 z210:=Tryz.sizeOf164
 v210:=Tryz.zeroValue164
 t212:=Tryz.underlying168
 a212:=Tryz.isAgg168
 z212:=Tryz.sizeOf168
 v212:=Tryz.zeroValue168
 t213:=Tryz.underlying169
 a213:=Tryz.isAgg169
 z213:=Tryz.sizeOf169
 t232:=Tryz.underlying180
 a232:=Tryz.isAgg180
 z232:=Tryz.sizeOf180
 v232:=Tryz.zeroValue180
 t233:=Tryz.underlying181
 a233:=Tryz.isAgg181
 z233:=Tryz.sizeOf181
 v233:=Tryz.zeroValue181
 g15:=by kernel_rfl
 g16:=by kernel_rfl
 g17:=by kernel_rfl
 g18:=by kernel_rfl
 g19:=by kernel_rfl}
def atoiC_ren:Go.Shelf.Ren:=⟨fun | 172=>79 | 244=>94 | 245=>95 | 247=>104 | 279=>105 | 280=>106 | 281=>107 | 282=>108 | 287=>118 | 316=>119 | 171=>64 | 205=>120 | 321=>129 | 322=>130 | 243=>80 | 246=>96 | 283=>109 | 284=>110 | 285=>111 | 286=>112 | 129=>75 | 317=>121 | 318=>122 | 319=>123 | 320=>124 | 337=>131 | 338=>132|n=>n,fun | 9=>9 | 3=>3 | 75=>113 | 76=>114 | 4=>4 | 5=>5 | 167=>145 | 37=>90 | 0=>0 | 85=>146 | 2=>2 | 168=>148 | 53=>109 | 175=>160 | 46=>32 | 210=>164 | 127=>137 | 145=>179 | 143=>177 | 21=>21 | 171=>151 | 173=>153 | 212=>168 | 51=>107 | 20=>20 | 213=>169 | 232=>180 | 233=>181 | 80=>119|n=>n,fun | 15=>1 | 16=>2 | 17=>3 | 18=>6 | 19=>7|n=>n⟩
theorem atoiC:Go.Proofs.LaysC.n172 Tryz.prog atoiC_ren:={
 mixed:=by kernel_rfl
 f129:=Tryz.func75.trans (congrArg some (by kernel_rfl))
 f171:=Tryz.func64.trans (congrArg some (by kernel_rfl))
 f172:=Tryz.func79.trans (congrArg some (by kernel_rfl))
 f205:=Tryz.func120.trans (congrArg some (by kernel_rfl))
 f243:=Tryz.func80.trans (congrArg some (by kernel_rfl))
 f244:=Tryz.func94.trans (congrArg some (by kernel_rfl))
 f245:=Tryz.func95.trans (congrArg some (by kernel_rfl))
 f246:=Tryz.func96.trans (congrArg some (by kernel_rfl))
 f247:=Tryz.func104.trans (congrArg some (by kernel_rfl))
 f279:=Tryz.func105.trans (congrArg some (by kernel_rfl))
 f280:=Tryz.func106.trans (congrArg some (by kernel_rfl))
 f281:=Tryz.func107.trans (congrArg some (by kernel_rfl))
 f282:=Tryz.func108.trans (congrArg some (by kernel_rfl))
 f283:=Tryz.func109.trans (congrArg some (by kernel_rfl))
 f284:=Tryz.func110.trans (congrArg some (by kernel_rfl))
 f285:=Tryz.func111.trans (congrArg some (by kernel_rfl))
 f286:=Tryz.func112.trans (congrArg some (by kernel_rfl))
 f287:=Tryz.func118.trans (congrArg some (by kernel_rfl))
 f316:=Tryz.func119.trans (congrArg some (by kernel_rfl))
 f317:=Tryz.func121.trans (congrArg some (by kernel_rfl))
 f318:=Tryz.func122.trans (congrArg some (by kernel_rfl))
 f319:=Tryz.func123.trans (congrArg some (by kernel_rfl))
 f320:=Tryz.func124.trans (congrArg some (by kernel_rfl))
 f321:=Tryz.func129.trans (congrArg some (by kernel_rfl))
 f322:=Tryz.func130.trans (congrArg some (by kernel_rfl))
 f337:=Tryz.func131.trans (congrArg some (by kernel_rfl))
 f338:=Tryz.func132.trans (congrArg some (by kernel_rfl))
 t0:=Tryz.underlying0
 a0:=Tryz.isAgg0
 z0:=Tryz.sizeOf0
 v0:=Tryz.zeroValue0
 t2:=Tryz.underlying2
 a2:=Tryz.isAgg2
 z2:=Tryz.sizeOf2
 v2:=Tryz.zeroValue2
 t3:=Tryz.underlying3
 a3:=Tryz.isAgg3
 z3:=Tryz.sizeOf3
 v3:=Tryz.zeroValue3
 t4:=Tryz.underlying4
 a4:=Tryz.isAgg4
 z4:=Tryz.sizeOf4
 v4:=Tryz.zeroValue4
 t5:=Tryz.underlying5
 a5:=Tryz.isAgg5
 z5:=Tryz.sizeOf5
 v5:=Tryz.zeroValue5
 t9:=Tryz.underlying9
 a9:=Tryz.isAgg9
 z9:=Tryz.sizeOf9
 v9:=Tryz.zeroValue9
 t20:=Tryz.underlying20
 a20:=Tryz.isAgg20
 z20:=Tryz.sizeOf20
 v20:=Tryz.zeroValue20
 t21:=Tryz.underlying21
 a21:=Tryz.isAgg21
 z21:=Tryz.sizeOf21
 v21:=Tryz.zeroValue21
 t37:=Tryz.underlying90
 a37:=Tryz.isAgg90
 z37:=Tryz.sizeOf90
 v37:=Tryz.zeroValue90
 t46:=Tryz.underlying32
 a46:=Tryz.isAgg32
 z46:=Tryz.sizeOf32
 v46:=Tryz.zeroValue32
 t51:=Tryz.underlying107
 a51:=Tryz.isAgg107
 z51:=Tryz.sizeOf107
 v51:=Tryz.zeroValue107
 t53:=Tryz.underlying109
 a53:=Tryz.isAgg109
 z53:=Tryz.sizeOf109
 v53:=Tryz.zeroValue109
 t75:=Tryz.underlying113
 a75:=Tryz.isAgg113
 z75:=Tryz.sizeOf113
 v75:=Tryz.zeroValue113
 t76:=Tryz.underlying114
 a76:=Tryz.isAgg114
 z76:=Tryz.sizeOf114
 v76:=Tryz.zeroValue114
 t85:=Tryz.underlying146
 a85:=Tryz.isAgg146
 z85:=Tryz.sizeOf146
 v85:=Tryz.zeroValue146
 t127:=Tryz.underlying137
 a127:=Tryz.isAgg137
 z127:=Tryz.sizeOf137
 v127:=Tryz.zeroValue137
 t143:=Tryz.underlying177
 a143:=Tryz.isAgg177
 z143:=Tryz.sizeOf177
 v143:=Tryz.zeroValue177
 t145:=Tryz.underlying179
 a145:=Tryz.isAgg179
 z145:=Tryz.sizeOf179
 v145:=Tryz.zeroValue179
 t167:=Tryz.underlying145
 a167:=Tryz.isAgg145
 z167:=Tryz.sizeOf145
 v167:=Tryz.zeroValue145
 t168:=Tryz.underlying148
 a168:=Tryz.isAgg148
 z168:=Tryz.sizeOf148
 v168:=Tryz.zeroValue148
 t171:=Tryz.underlying151
 a171:=Tryz.isAgg151
 z171:=Tryz.sizeOf151
 v171:=Tryz.zeroValue151
 t173:=Tryz.underlying153
 a173:=Tryz.isAgg153
 z173:=Tryz.sizeOf153
 v173:=Tryz.zeroValue153
 t175:=Tryz.underlying160
 a175:=Tryz.isAgg160
 z175:=Tryz.sizeOf160
 v175:=Tryz.zeroValue160
 t210:=Tryz.underlying164
 a210:=Tryz.isAgg164
 z210:=Tryz.sizeOf164
 v210:=Tryz.zeroValue164
 t212:=Tryz.underlying168
 a212:=Tryz.isAgg168
 z212:=Tryz.sizeOf168
 v212:=Tryz.zeroValue168
 t213:=Tryz.underlying169
 a213:=Tryz.isAgg169
 z213:=Tryz.sizeOf169
 t232:=Tryz.underlying180
 a232:=Tryz.isAgg180
 z232:=Tryz.sizeOf180
 v232:=Tryz.zeroValue180
 t233:=Tryz.underlying181
 a233:=Tryz.isAgg181
 z233:=Tryz.sizeOf181
 v233:=Tryz.zeroValue181
 g15:=by kernel_rfl
 g16:=by kernel_rfl
 g17:=by kernel_rfl
 g18:=by kernel_rfl
 g19:=by kernel_rfl
 t80:=Tryz.underlying119
 a80:=Tryz.isAgg119
 z80:=Tryz.sizeOf119
 v80:=Tryz.zeroValue119
 i0:=by kernel_rfl
 i2:=by kernel_rfl
 i3:=by kernel_rfl
 i4:=by kernel_rfl
 i5:=by kernel_rfl
 i9:=by kernel_rfl
 i20:=by kernel_rfl
 i21:=by kernel_rfl
 i37:=by kernel_rfl
 i46:=by kernel_rfl
 i51:=by kernel_rfl
 i53:=by kernel_rfl
 i75:=by kernel_rfl
 i76:=by kernel_rfl
 i80:=by kernel_rfl
 i85:=by kernel_rfl
 i127:=by kernel_rfl
 i143:=by kernel_rfl
 i145:=by kernel_rfl
 i167:=by kernel_rfl
 i168:=by kernel_rfl
 i171:=by kernel_rfl
 i173:=by kernel_rfl
 i175:=by kernel_rfl
 i210:=by kernel_rfl
 i212:=by kernel_rfl
 i232:=by kernel_rfl
 i233:=by kernel_rfl
 m15:=by kernel_rfl
 m16:=by kernel_rfl
 m17:=by kernel_rfl
 m18:=by kernel_rfl
 m19:=by kernel_rfl
 c0:=by kernel_rfl
 c2:=by kernel_rfl
 c3:=by kernel_rfl
 c4:=by kernel_rfl
 c5:=by kernel_rfl
 c9:=by kernel_rfl
 c20:=by kernel_rfl
 c21:=by kernel_rfl
 c37:=by kernel_rfl
 c46:=by kernel_rfl
 c51:=by kernel_rfl
 c53:=by kernel_rfl
 c75:=by kernel_rfl
 c76:=by kernel_rfl
 c80:=by kernel_rfl
 c85:=by kernel_rfl
 c127:=by kernel_rfl
 c143:=by kernel_rfl
 c145:=by kernel_rfl
 c167:=by kernel_rfl
 c168:=by kernel_rfl
 c171:=by kernel_rfl
 c173:=by kernel_rfl
 c175:=by kernel_rfl
 c210:=by kernel_rfl
 c212:=by kernel_rfl
 c213:=by kernel_rfl
 c232:=by kernel_rfl
 c233:=by kernel_rfl}
open Go Go.RowKit
theorem bex:Builder.Extra Tryz.prog joinA_ren:={sizeBuilder:=by kernel_rfl,liesBuilder:=by kernel_rfl,t5:=Tryz.underlying5,a5:=Tryz.isAgg5,z5:=Tryz.sizeOf5,v5:=Tryz.zeroValue5,infoByte:=by kernel_rfl,cellsByte:=by kernel_rfl,sizeByte:=by kernel_rfl,neB5:=by decide}
theorem eqs_no {a b:ByteArray} (h:a≠b):(a==b)=false:=by
 cases hc:(a==b) with
 | false=>rfl
 | true =>
  refine absurd ?_ h
  rw [beq_toListBytes,beq_iff_eq,ByteArray.toList_eq,ByteArray.toList_eq] at hc
  exact bs_inj hc
theorem eqs_yes (a:ByteArray):(a==a)=true:=beq_self_str a
section
variable {P:Program} {a:Act} {w:World} {dst:Option Tmp} {typ:TypeId} {pos:String} {aft:Array Edge} {gd:Option (Nat×Bool)}
theorem bh (x y:List UInt8):mkS x++mkS y=mkS (x++y):=by
 apply ByteArray.ext
 simp [mkS]
theorem aH {t:TypeId} {x y:Operand} {rt:TypeId} (s s' r:ByteArray) (hr:r=s++s') (hx:a.eval x=.string s) (hy:a.eval y=.string s') (hl:s.size+s'.size≤1000000000) :
  (execOp a.eval {dst:=dst,op:=.binOp .add t x y rt,type:=typ,pos:=pos,after:=aft,guard:=gd}).run P w=.ok (.value (.string r)) w:=by
 subst hr
 unfold execOp
 simp only [hx,hy]
 simp [eqGuard,binOp,Op.stringOp]
 omega
theorem eS {t:TypeId} {x y:Operand} {rt:TypeId} (s s':ByteArray) (v:Bool) (hx:a.eval x=.string s) (hy:a.eval y=.string s') (hv:(s==s')=v) :
  (execOp a.eval {dst:=dst,op:=.binOp .neq t x y rt,type:=typ,pos:=pos,after:=aft,guard:=gd}).run P w=.ok (.value (.bool (!v))) w:=by
 subst hv
 unfold execOp
 simp only [hx,hy]
 simp [eqGuard,binOp,Op.stringOp,beq_toListBytes]
end
theorem jnB_join (l:List (List UInt8)):Lib.join l [44]=jnB l:=by
 induction l with
 | nil=>rfl
 | cons x l ih =>
  cases l with
  | nil=>exact Lib.join_one x [44]
  | cons y r =>
   rw [Lib.join_cons,jnB,←ih,Lib.join_cons]
   simp [Lib.joinTail]
def SlS (w:World) (v:Value) (l:List ByteArray):Prop:=SlV 1 w v l.length (strs l)
theorem join_any (xs:List ByteArray) (v:Value) (w:World) (hv:SlS w v xs) (hl:xs.length≤100) (hs:(jnB (xs.map bs)).length≤100000) :
  Calls Tryz.prog 65 #[v,.string ⟨#[44]⟩] w fun e w'=>e=.returned (.string (mkS (jnB (xs.map bs))))∧Below w.heap.size w w':=by
 obtain ⟨p,cap,rfl,hcap,_,hseg⟩:=hv
 by_cases h0:xs=[]
 ·subst h0
  refine (Any.strings_Join_none joinA bex p cap ⟨#[44]⟩ w).mono ?_
  rintro e w' ⟨rfl,rfl⟩
  exact ⟨rfl,Below.refl _ _⟩
 ·obtain ⟨b,off,rfl,hc⟩:=hseg (List.length_pos_iff.2 h0)
  have hcells:∀(j:Nat) x,xs[j]?=some x→w.cell? ⟨b,off+j,none⟩=some (.string x):=fun j x hx=>hc j _ (by simp [strs,hx])
  have hb:b<w.heap.size:=by
   have:=hcells 0 (xs[0]'(List.length_pos_iff.2 h0)) (by simp)
   exact block_lt_of_cell this
  have hlen:(Lib.join (xs.map (·.data.toList)) [44]).length≤140737488355328:=by
   rw [jnB_join]
   exact Nat.le_trans hs (by omega)
  refine (Any.strings_Join joinA bex b off cap xs ⟨#[44]⟩ w hcells hb (by omega) hcap hlen).mono ?_
  rintro e w' ⟨rfl,h⟩
  refine ⟨?_,h⟩
  show Ending.returned (.string (mkS (Lib.join (xs.map (·.data.toList)) [44])))=_
  rw [jnB_join]
  rfl
theorem dig_lib {n:Nat} (h:n<100):Lib.decDigits n=dig (n:Int):=by
 rw [Lib.decDigits,dig]
 by_cases h1:n<10
 ·rw [dif_pos h1,if_pos (by omega)];rfl
 ·rw [dif_neg h1,if_neg (by omega),Lib.decDigits,dif_pos (by omega)];rfl
theorem cm (n:Int) (h0:0≤n) (h1:n≤99) (w:World) :
  Calls Tryz.prog 64 #[.int .i64 n] w fun e w'=>e=.returned (.string (mkS (dig n)))∧w'=w:=by
 obtain ⟨m,rfl⟩:∃m:Nat,n=(m:Int):=⟨n.toNat,by omega⟩
 rw [←dig_lib (by omega)]
 exact Any.strconv_Itoa_small itoaA m (by omega) w
theorem cutp_any (s p:ByteArray) (w:World) :
  Calls Tryz.prog 89 #[.string s,.string p] w fun e w'=>e=.returned (.tuple #[.string (mkS (Lib.trimPrefix (bs s) (bs p))),.bool (Lib.hasPrefix (bs s) (bs p))])∧w'=w :=
 Any.strings_CutPrefix cutpA s p w
theorem dV (s:ByteArray) (w:World) :
  Calls Tryz.prog 78 #[.string s,.string ⟨#[48,49,50,51,52,53,54,55,56,57]⟩] w fun e w'=>e=.returned (.string (mkS ((bs s).drop (ldg (bs s)).length)))∧Below w.heap.size w w':=by
 refine (Any.strings_TrimLeft_laid trimA (by kernel_rfl) s ⟨#[48,49,50,51,52,53,54,55,56,57]⟩ w (by decide) (Go.Proofs.ascii_of_all (by decide))).mono ?_
 rintro e w' ⟨rfl,h⟩
 refine ⟨?_,h⟩
 show Ending.returned (.string (mkS (Lib.trimLeftS (bs s) [48,49,50,51,52,53,54,55,56,57])))=_
 congr 3
 generalize bs s=l
 unfold Lib.trimLeftS ldg
 induction l with
 | nil=>rfl
 | cons x l ih =>
  have hx:[48,49,50,51,52,53,54,55,56,57].contains x=isDig x:=by
   have key:∀i:Fin 256,([48,49,50,51,52,53,54,55,56,57]:List UInt8).contains (UInt8.ofNat i.val)=isDig (UInt8.ofNat i.val):=by decide +kernel
   have:=key ⟨x.toNat,x.toNat_lt⟩
   rwa [show UInt8.ofNat (⟨x.toNat,x.toNat_lt⟩:Fin 256).val=x from UInt8.ofNat_toNat ..] at this
  rw [List.dropWhile_cons,List.takeWhile_cons,hx]
  cases isDig x with
  | true=>simpa using ih
  | false=>rfl
end Go.Proofs.YtcibhfcjbokdlaaGreatDoor
