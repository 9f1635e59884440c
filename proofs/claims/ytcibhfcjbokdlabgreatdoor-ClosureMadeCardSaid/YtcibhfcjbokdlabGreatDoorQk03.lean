import Derived.Test.YtcibhfcjbokdlabGreatDoorQk02
import Derived.Shelf.Strings.SlTrimAscii
import Derived.Shelf.Small.Wraps
import Derived.Shelf.Strings.OnBuilder
import Derived.Shelf.Strconv.Itoa3
import Derived.Shelf.Strconv.Atoi
import Derived.Shelf.Strconv.ErrVar
import Derived.Test.YtcibhfcjbokdlabGreatDoorChecked
set_option maxRecDepth 100000
set_option maxHeartbeats 4000000
namespace Go.Proofs.YtcibhfcjbokdlabGreatDoor
open Go Go.RowKit
theorem formed_any {F:Nat→Prop} (t:Tm):∀(s:Value) (w:World),cnt t≤100→SlT F w s t.l →
  Calls Tryz.prog 26 #[.agg (tcs t s).toArray] w fun e w'=>e=.returned (.bool (okT t))∧Below w.heap.size w w':=by
 induction t using Tm.ind with
 | h t ih =>
 intro s w hc hs
 have HIH:Hid _:=ih
 clear ih
 obtain ⟨p,cap,rfl,hcap⟩:=hs.len
 obtain ⟨m,hml⟩:∃m,m=t.l.length:=⟨_,rfl⟩
 have HM:Hid (∀_:Unit,m=t.l.length):=fun _=>hml
 have HS:Hid (SlT F w (.slice p m cap) t.l):=by rw [hml];exact hs
 have HOK:Hid (∀_:Unit,okT t=(decide (1≤t.k∧t.k≤5)&&decide (m=kn t.k)&&hasF (nb t.k) t.n&&t.l.all okT)):=fun _=>by rw [dj,hml];rfl
 rw [←hml]
 have hm100:m<100:=by
  have h1:=sum_ge (l:=t.l) (k:=t.l.length) (Nat.le_refl _)
  rw [List.take_length] at h1
  have h2:=ci t
  omega
 have HC:Hid (cnt t≤100):=hc
 clear hs hml hcap hc
 have hm:=Mem.start w
 by_cases hk:1≤t.k∧t.k≤5
 ·have HF1:Hid (∀_:Unit,∀v∈[Value.string (mkS (wd t.k)),.bool (nb t.k),.int .i64 (kn t.k:Int)],v.oneCell'=true):=fun _=>by rw [←aS hk];exact bR _
  have HHAS:Hid (∀W,Calls Tryz.prog 37 #[.agg [Value.string (mkS (wd t.k)),.bool (nb t.k),.int .i64 (kn t.k:Int)].toArray,.int .i64 t.n] W fun e w'=>e=.returned (.bool (hasF (nb t.k) t.n))∧Below W.heap.size W w'):=fun W=>by
   have:=has_any t.k t.n hk W
   rw [aS hk] at this
   exact this
  have HFO:Hid (∀W,Calls Tryz.prog 36 #[.int .i64 t.k] W fun e w'=>e=.returned (.tuple #[.agg [Value.string (mkS (wd t.k)),.bool (nb t.k),.int .i64 (kn t.k:Int)].toArray,.bool true])∧Below W.heap.size W w'):=fun W=>by
   have:=aY t.k W
   rw [aS hk,decide_eq_true hk] at this
   exact this
  have HOK2:Hid (∀_:Unit,okT t=(decide (m=kn t.k)&&hasF (nb t.k) t.n&&t.l.all okT)):=fun _=>by rw [HOK.out (),decide_eq_true hk,Bool.true_and]
  clear hk HOK
  by_cases hmk:m=kn t.k
  ·have hne:((m:Int) != (kn t.k:Int))=false:=by simp [hmk]
   cases hh:hasF (nb t.k) t.n with
   | false =>
    have HR:Hid (∀_:Unit,okT t=false):=fun _=>by rw [HOK2.out (),hh,Bool.and_false,Bool.false_and]
    rw [hh] at HHAS
    clear hh hmk
    go_enter Tryz.func26,Tryz.ntmps26
    go_wp2_with (first
     | ((with_reducible refine af (some 1) (.box 24 (.tmp 0)) ?_);go_must (refine ax (tcs t (.slice p m cap)) rfl hm ?_);clear hm;intro w1 g1 hm)
     | ((with_reducible refine af (some 9) (.load 3 (.tmp 8)) ?_);go_must (refine aa (.int .i64 t.k) rfl (ae (.int .i64 t.k) (Mem.cell hm 0 rfl 0) rfl ah) ?_))
     | (go_at_call 36;go_must (refine (HFO.out _).mono ?_);rintro e w2 ⟨he,hb⟩;subst he;replace hm:=hm.call hb;clear hb)
     | ((with_reducible refine af (some 3) (.alloc 79) ?_);go_must (refine aj _ aD hm ?_);clear hm;intro w3 g3 hm)
     | ((with_reducible refine af none (.store 79 (.tmp 3) (.tmp 11)) ?_);go_must (refine am 0 ([Value.string (mkS (wd t.k)),.bool (nb t.k),.int .i64 (kn t.k:Int)]) hm rfl rfl rfl 3 aF rfl rfl ((HF1.out ())) ?_);clear hm;intro w4 hm)
     | ((with_reducible refine ay (some 17) (.load 22 (.tmp 16)) (some (2,false)) ?_);go_must (refine aa (.slice p m cap) rfl (ae (.slice p m cap) (Mem.cell hm 1 rfl 2) rfl ao) ?_))
     | ((with_reducible refine ay (some 20) (.load 3 (.tmp 19)) (some (2,false)) ?_);go_must (refine aa (.int .i64 (kn t.k:Int)) rfl (ae (.int .i64 (kn t.k:Int)) (Mem.cell hm 0 rfl 2) rfl ah) ?_))
     | ((with_reducible refine ay (some 24) (.load 79 (.tmp 3)) (some (10,false)) ?_);go_must (refine aa (.agg ([Value.string (mkS (wd t.k)),.bool (nb t.k),.int .i64 (kn t.k:Int)]).toArray) rfl (ak 0 ([Value.string (mkS (wd t.k)),.bool (nb t.k),.int .i64 (kn t.k:Int)]) (Mem.get hm 0 rfl) rfl _ Tryz.underlying79 rfl 3 aF (Nat.le_refl _) rfl) ?_))
     | ((with_reducible refine ay (some 26) (.load 3 (.tmp 25)) (some (10,false)) ?_);go_must (refine aa (.int .i64 t.n) rfl (ae (.int .i64 t.n) (Mem.cell hm 1 rfl 1) rfl ah) ?_))
     | (go_at_call 37;go_must (refine (HHAS.out _).mono ?_);rintro e w5 ⟨he,hb⟩;subst he;replace hm:=hm.call hb;clear hb))
    go_ret
    exact ⟨by rw [HR.out ()];rfl,hm.below⟩
   | true =>
    have HOK3:Hid (∀_:Unit,okT t=t.l.all okT):=fun _=>by rw [HOK2.out (),hh,decide_eq_true hmk];rfl
    rw [hh] at HHAS
    clear hh hmk HOK2
    go_enter Tryz.func26,Tryz.ntmps26
    go_wp2_with (first
     | ((with_reducible refine af (some 1) (.box 24 (.tmp 0)) ?_);go_must (refine ax (tcs t (.slice p m cap)) rfl hm ?_);clear hm;intro w1 g1 hm)
     | ((with_reducible refine af (some 9) (.load 3 (.tmp 8)) ?_);go_must (refine aa (.int .i64 t.k) rfl (ae (.int .i64 t.k) (Mem.cell hm 0 rfl 0) rfl ah) ?_))
     | (go_at_call 36;go_must (refine (HFO.out _).mono ?_);rintro e w2 ⟨he,hb⟩;subst he;replace hm:=hm.call hb;clear hb)
     | ((with_reducible refine af (some 3) (.alloc 79) ?_);go_must (refine aj _ aD hm ?_);clear hm;intro w3 g3 hm)
     | ((with_reducible refine af none (.store 79 (.tmp 3) (.tmp 11)) ?_);go_must (refine am 0 ([Value.string (mkS (wd t.k)),.bool (nb t.k),.int .i64 (kn t.k:Int)]) hm rfl rfl rfl 3 aF rfl rfl ((HF1.out ())) ?_);clear hm;intro w4 hm)
     | ((with_reducible refine ay (some 17) (.load 22 (.tmp 16)) (some (2,false)) ?_);go_must (refine aa (.slice p m cap) rfl (ae (.slice p m cap) (Mem.cell hm 1 rfl 2) rfl ao) ?_))
     | ((with_reducible refine ay (some 20) (.load 3 (.tmp 19)) (some (2,false)) ?_);go_must (refine aa (.int .i64 (kn t.k:Int)) rfl (ae (.int .i64 (kn t.k:Int)) (Mem.cell hm 0 rfl 2) rfl ah) ?_))
     | ((with_reducible refine ay (some 24) (.load 79 (.tmp 3)) (some (10,false)) ?_);go_must (refine aa (.agg ([Value.string (mkS (wd t.k)),.bool (nb t.k),.int .i64 (kn t.k:Int)]).toArray) rfl (ak 0 ([Value.string (mkS (wd t.k)),.bool (nb t.k),.int .i64 (kn t.k:Int)]) (Mem.get hm 0 rfl) rfl _ Tryz.underlying79 rfl 3 aF (Nat.le_refl _) rfl) ?_))
     | ((with_reducible refine ay (some 26) (.load 3 (.tmp 25)) (some (10,false)) ?_);go_must (refine aa (.int .i64 t.n) rfl (ae (.int .i64 t.n) (Mem.cell hm 1 rfl 1) rfl ah) ?_))
     | (go_at_call 37;go_must (refine (HHAS.out _).mono ?_);rintro e w5 ⟨he,hb⟩;subst he;replace hm:=hm.call hb;clear hb)
     | ((with_reducible refine af (some 31) (.load 22 (.tmp 30)) ?_);go_must (refine aa (.slice p m cap) rfl (ae (.slice p m cap) (Mem.cell hm 1 rfl 2) rfl ao) ?_)))
    go_loopw [33] (fun vi wr=>∃k:Nat,k≤m∧vi=.int .i64 (k:Int)∧Hid ((t.l.take k).all okT=true)∧Hid (Mem w [] wr [])) (fun vi _=>m - (intOf vi).toNat)
    case atStart=>exact ⟨0,by omega,rfl,rfl,hm.sub (List.nil_sublist _)⟩
    case round =>
     clear hm
     obtain ⟨k,hk,rfl,HA,HMM⟩:=hrel
     by_cases hlt:k<m
     ·have hki:(k:Int)<(m:Int):=by omega
      obtain ⟨b,o,rfl⟩:=HS.out.at (show 0<m by omega)
      obtain ⟨x,hx⟩:=bC (HM.out ()) hlt
      have hm:=HMM.out
      obtain ⟨px,mx,cx,c0,c1,c2,hmx,hsx⟩:=(HS.out.below hm.below).cells hx
      have HMX:Hid (x∈t.l):=List.mem_of_getElem? hx
      have HCX:Hid (cnt x≤100):=by show _≤_;have:=cnt_lt HMX.out;have:=HC.out;omega
      have HX2:Hid (SlT F wr (.slice px mx cx) x.l):=hsx
      have HNX:Hid (∀_:Unit,(t.l.take (k+1)).all okT=okT x):=fun _=>by rw [List.take_add_one,hx];simp only [List.all_append,HA.out];simp
      have HB0:Hid (Mem w [] wr []):=hm
      replace hm:=Mem.start wr
      clear hsx hx HMM HA hmx
      cases hox:okT x with
      | false =>
       have HR:Hid (∀_:Unit,okT t=false):=fun _=>by
        rw [HOK3.out (),List.all_eq_false]
        exact ⟨x,HMX.out,by rw [hox];decide⟩
       have HCALL:Hid (∀W,Below wr.heap.size wr W→Calls Tryz.prog 26 #[.agg (tcs x (.slice px mx cx)).toArray] W fun e w'=>e=.returned (.bool false)∧Below W.heap.size W w'):=fun W hW=>by
        have h9:=HIH.out x HMX.out (.slice px mx cx) W HCX.out (HX2.out.below hW)
        rw [hox] at h9
        exact h9
       clear hox HNX
       go_wp2_with (first
        | ((with_reducible refine af (some 35) (.indexAddr 22 (.tmp 31) (.tmp 33)) ?_);go_must (refine aa (.pointer (some ⟨b,o+k * 3,none⟩)) rfl (aB k rfl rfl rfl hlt) ?_))
        | ((with_reducible refine af (some 36) (.load 24 (.tmp 35)) ?_);go_must (refine aa (.agg (tcs x (.slice px mx cx)).toArray) rfl (aJ rfl c0 c1 c2) ?_))
        | ((with_reducible refine af (some 6) (.alloc 24) ?_);go_must (refine aj _ aq hm ?_);clear hm;intro w2 g2 hm)
        | ((with_reducible refine af none (.store 24 (.tmp 6) (.tmp 36)) ?_);go_must (refine am 0 (tcs x (.slice px mx cx)) hm rfl rfl rfl 3 ag rfl rfl (aM _ _ _ _) ?_);clear hm;intro w3 hm)
        | ((with_reducible refine af (some 37) (.load 24 (.tmp 6)) ?_);go_must (refine aI 0 hm rfl rfl _ Tryz.underlying24 rfl 3 ag rfl ?_))
        | (go_at_call 26;go_must (refine (HCALL.out _ hm.below).mono ?_);rintro e w4 ⟨he,hb⟩;subst he;replace hm:=hm.call hb;clear hb))
       go_ret
       exact ⟨by rw [HR.out ()];rfl,(HB0.out.call hm.below).below⟩
      | true =>
       have HCALL:Hid (∀W,Below wr.heap.size wr W→Calls Tryz.prog 26 #[.agg (tcs x (.slice px mx cx)).toArray] W fun e w'=>e=.returned (.bool true)∧Below W.heap.size W w'):=fun W hW=>by
        have h9:=HIH.out x HMX.out (.slice px mx cx) W HCX.out (HX2.out.below hW)
        rw [hox] at h9
        exact h9
       have HNY:Hid ((t.l.take (k+1)).all okT=true):=by show _=_;rw [HNX.out (),hox]
       clear hox HNX
       go_wp2_with (first
        | ((with_reducible refine af (some 35) (.indexAddr 22 (.tmp 31) (.tmp 33)) ?_);go_must (refine aa (.pointer (some ⟨b,o+k * 3,none⟩)) rfl (aB k rfl rfl rfl hlt) ?_))
        | ((with_reducible refine af (some 36) (.load 24 (.tmp 35)) ?_);go_must (refine aa (.agg (tcs x (.slice px mx cx)).toArray) rfl (aJ rfl c0 c1 c2) ?_))
        | ((with_reducible refine af (some 6) (.alloc 24) ?_);go_must (refine aj _ aq hm ?_);clear hm;intro w2 g2 hm)
        | ((with_reducible refine af none (.store 24 (.tmp 6) (.tmp 36)) ?_);go_must (refine am 0 (tcs x (.slice px mx cx)) hm rfl rfl rfl 3 ag rfl rfl (aM _ _ _ _) ?_);clear hm;intro w3 hm)
        | ((with_reducible refine af (some 37) (.load 24 (.tmp 6)) ?_);go_must (refine aI 0 hm rfl rfl _ Tryz.underlying24 rfl 3 ag rfl ?_))
        | (go_at_call 26;go_must (refine (HCALL.out _ hm.below).mono ?_);rintro e w4 ⟨he,hb⟩;subst he;replace hm:=hm.call hb;clear hb))
       go_roundw
       case rel=>exact ⟨k+1,by omega,by go_num,HNY.out,HB0.out.call hm.below⟩
       case measure=>simp [intOf];omega
     ·have hkn:m=k:=by omega
      subst hkn
      have hni:¬(m:Int)<(m:Int):=by omega
      have HR:Hid (∀_:Unit,okT t=true):=fun _=>by
       have h1:=HA.out
       rw [HM.out (),List.take_length] at h1
       rw [HOK3.out (),h1]
      have hm:=HMM.out
      clear HA
      go_wp2_with fail
      go_ret
      exact ⟨by rw [HR.out ()];rfl,hm.below⟩
  ·have hne:((m:Int) != (kn t.k:Int))=true:=by simp;omega
   have HR:Hid (∀_:Unit,okT t=false):=fun _=>by rw [HOK2.out (),decide_eq_false hmk];rfl
   clear hmk HOK2
   go_enter Tryz.func26,Tryz.ntmps26
   go_wp2_with (first
    | ((with_reducible refine af (some 1) (.box 24 (.tmp 0)) ?_);go_must (refine ax (tcs t (.slice p m cap)) rfl hm ?_);clear hm;intro w1 g1 hm)
    | ((with_reducible refine af (some 9) (.load 3 (.tmp 8)) ?_);go_must (refine aa (.int .i64 t.k) rfl (ae (.int .i64 t.k) (Mem.cell hm 0 rfl 0) rfl ah) ?_))
    | (go_at_call 36;go_must (refine (HFO.out _).mono ?_);rintro e w2 ⟨he,hb⟩;subst he;replace hm:=hm.call hb;clear hb)
    | ((with_reducible refine af (some 3) (.alloc 79) ?_);go_must (refine aj _ aD hm ?_);clear hm;intro w3 g3 hm)
    | ((with_reducible refine af none (.store 79 (.tmp 3) (.tmp 11)) ?_);go_must (refine am 0 ([Value.string (mkS (wd t.k)),.bool (nb t.k),.int .i64 (kn t.k:Int)]) hm rfl rfl rfl 3 aF rfl rfl ((HF1.out ())) ?_);clear hm;intro w4 hm)
    | ((with_reducible refine ay (some 17) (.load 22 (.tmp 16)) (some (2,false)) ?_);go_must (refine aa (.slice p m cap) rfl (ae (.slice p m cap) (Mem.cell hm 1 rfl 2) rfl ao) ?_))
    | ((with_reducible refine ay (some 20) (.load 3 (.tmp 19)) (some (2,false)) ?_);go_must (refine aa (.int .i64 (kn t.k:Int)) rfl (ae (.int .i64 (kn t.k:Int)) (Mem.cell hm 0 rfl 2) rfl ah) ?_)))
   go_ret
   exact ⟨by rw [HR.out ()];rfl,hm.below⟩
 ·have HF1:Hid (∀_:Unit,∀v∈[Value.string noStr,.bool false,.int .i64 0],v.oneCell'=true):=fun _=>by
   intro v hv;simp only [List.mem_cons,List.not_mem_nil,or_false] at hv;rcases hv with rfl|rfl|rfl<;>rfl
  have HFO:Hid (∀W,Calls Tryz.prog 36 #[.int .i64 t.k] W fun e w'=>e=.returned (.tuple #[.agg [.string noStr,.bool false,.int .i64 0].toArray,.bool false])∧Below W.heap.size W w'):=fun W=>by
   have:=aY t.k W
   rw [fmv,if_neg hk,decide_eq_false hk] at this
   exact this
  have HR:Hid (∀_:Unit,okT t=false):=fun _=>by rw [HOK.out (),decide_eq_false hk];rfl
  clear hk HOK
  go_enter Tryz.func26,Tryz.ntmps26
  go_wp2_with (first
   | ((with_reducible refine af (some 1) (.box 24 (.tmp 0)) ?_);go_must (refine ax (tcs t (.slice p m cap)) rfl hm ?_);clear hm;intro w1 g1 hm)
   | ((with_reducible refine af (some 9) (.load 3 (.tmp 8)) ?_);go_must (refine aa (.int .i64 t.k) rfl (ae (.int .i64 t.k) (Mem.cell hm 0 rfl 0) rfl ah) ?_))
   | (go_at_call 36;go_must (refine (HFO.out _).mono ?_);rintro e w2 ⟨he,hb⟩;subst he;replace hm:=hm.call hb;clear hb)
   | ((with_reducible refine af (some 3) (.alloc 79) ?_);go_must (refine aj _ aD hm ?_);clear hm;intro w3 g3 hm)
   | ((with_reducible refine af none (.store 79 (.tmp 3) (.tmp 11)) ?_);go_must (refine am 0 ([.string noStr,.bool false,.int .i64 0]) hm rfl rfl rfl 3 aF rfl rfl ((HF1.out ())) ?_);clear hm;intro w4 hm))
  go_ret
  exact ⟨by rw [HR.out ()];rfl,hm.below⟩
theorem dk {F:Nat→Prop} (t:Tm) (s:Value) (w:World) (hs:SlT F w s t.l) :
  Calls Tryz.prog 13 #[.agg (tcs t s).toArray] w fun e w'=>e=.returned (.bool (isT t))∧Below w.heap.size w w':=by
 have hm:=Mem.start w
 have HS:Hid (SlT F w s t.l):=hs
 have HC:Hid (∀W,Below w.heap.size w W→Calls Tryz.prog 25 #[.agg (tcs t s).toArray] W fun e w'=>e=.returned (.int .i64 ((min 61 (cnt t):Nat):Int))∧Below W.heap.size W w'):=fun W hW=>count_any t s W (HS.out.below hW)
 obtain ⟨c,hc⟩:∃c,c=min 61 (cnt t):=⟨_,rfl⟩
 rw [←hc] at HC
 by_cases h60:cnt t≤60
 ·have hci:decide ((c:Int)≤60)=true:=decide_eq_true (by omega)
  have HFM:Hid (∀W,Below w.heap.size w W→Calls Tryz.prog 26 #[.agg (tcs t s).toArray] W fun e w'=>e=.returned (.bool (okT t))∧Below W.heap.size W w'):=fun W hW=>formed_any t s W (by omega) (HS.out.below hW)
  have HR:Hid (∀_:Unit,isT t=okT t):=fun _=>by rw [isT,decide_eq_true h60,Bool.true_and]
  clear hs hc h60
  go_enter Tryz.func13,Tryz.ntmps13
  go_wp2_with (first
   | ((with_reducible refine af (some 1) (.box 24 (.tmp 0)) ?_);go_must (refine ax (tcs t s) rfl hm ?_);clear hm;intro w1 g1 hm)
   | ((with_reducible refine af (some 3) (.load 24 (.tmp 1)) ?_);go_must (refine aI 0 hm rfl rfl _ Tryz.underlying24 rfl 3 ag rfl ?_))
   | (go_at_call 25;go_must (refine (HC.out _ hm.below).mono ?_);rintro e w2 ⟨he,hb⟩;subst he;replace hm:=hm.call hb;clear hb)
   | ((with_reducible refine ay (some 7) (.load 24 (.tmp 1)) (some (3,true)) ?_);go_must (refine aa (.agg (tcs t s).toArray) rfl (ak 0 (tcs t s) (Mem.get hm 0 rfl) rfl _ Tryz.underlying24 rfl 3 ag (Nat.le_refl _) rfl) ?_))
   | (go_at_call 26;go_must (refine (HFM.out _ hm.below).mono ?_);rintro e w3 ⟨he,hb⟩;subst he;replace hm:=hm.call hb;clear hb))
  go_ret
  exact ⟨by rw [HR.out ()];rfl,hm.below⟩
 ·have hci:decide ((c:Int)≤60)=false:=decide_eq_false (by omega)
  have HR:Hid (∀_:Unit,isT t=false):=fun _=>by rw [isT,decide_eq_false h60,Bool.false_and]
  clear hs hc h60
  go_enter Tryz.func13,Tryz.ntmps13
  go_wp2_with (first
   | ((with_reducible refine af (some 1) (.box 24 (.tmp 0)) ?_);go_must (refine ax (tcs t s) rfl hm ?_);clear hm;intro w1 g1 hm)
   | ((with_reducible refine af (some 3) (.load 24 (.tmp 1)) ?_);go_must (refine aI 0 hm rfl rfl _ Tryz.underlying24 rfl 3 ag rfl ?_))
   | (go_at_call 25;go_must (refine (HC.out _ hm.below).mono ?_);rintro e w2 ⟨he,hb⟩;subst he;replace hm:=hm.call hb;clear hb))
  go_ret
  exact ⟨by rw [HR.out ()];rfl,hm.below⟩
open Go Go.RowKit Go.Shelf
def trimA_ren:Go.Shelf.Ren:=⟨fun | 161=>48 | 231=>64 | 227=>65 | 233=>66 | 235=>67 | 228=>80 | 197=>81 | 151=>82 | 260=>93 | 152=>94 | 137=>104 | 119=>105 | 224=>106 | 225=>107 | 217=>114 | 266=>117|n=>n,fun | 9=>9 | 4=>4 | 3=>3 | 5=>5 | 117=>116 | 116=>115 | 0=>0 | 124=>119 | 105=>133 | 21=>21 | 119=>162 | 46=>89 | 139=>165 | 138=>164|n=>n,fun | 3=>3 | 4=>4|n=>n⟩
theorem trimA:Go.Proofs.Lays.n161 Tryz.prog trimA_ren:={
 mixed:=by kernel_rfl
 f119:=Tryz.func105.trans (congrArg some (by kernel_rfl))
 f137:=Tryz.func104.trans (congrArg some (by kernel_rfl))
 f151:=Tryz.func82.trans (congrArg some (by kernel_rfl))
 f152:=Tryz.func94.trans (congrArg some (by kernel_rfl))
 f161:=Tryz.func48.trans (congrArg some (by kernel_rfl))
 f197:=Tryz.func81.trans (congrArg some (by kernel_rfl))
 f217:=Tryz.func114.trans (congrArg some (by kernel_rfl))
 f224:=Tryz.func106.trans (congrArg some (by kernel_rfl))
 f225:=Tryz.func107.trans (congrArg some (by kernel_rfl))
 f227:=Tryz.func65.trans (congrArg some (by kernel_rfl))
 f228:=Tryz.func80.trans (congrArg some (by kernel_rfl))
 f231:=Tryz.func64.trans (congrArg some (by kernel_rfl))
 f233:=Tryz.func66.trans (congrArg some (by kernel_rfl))
 f235:=Tryz.func67.trans (congrArg some (by kernel_rfl))
 f260:=Tryz.func93.trans (congrArg some (by kernel_rfl))
 f266:=Tryz.func117.trans (congrArg some (by kernel_rfl))
 t0:=Tryz.underlying0
 a0:=Tryz.isAgg0
 z0:=Tryz.sizeOf0
 v0:=Tryz.zeroValue0
 t3:=Tryz.underlying3
 a3:=Tryz.isAgg3
 z3:=Tryz.sizeOf3
 v3:=Tryz.zeroValue3
 t4:=Tryz.underlying4
 a4:=Tryz.isAgg4
 z4:=Tryz.sizeOf4
 v4:=Tryz.zeroValue4
 t5:=Tryz.underlying5
 a5:=Tryz.isAgg5
 z5:=Tryz.sizeOf5
 v5:=Tryz.zeroValue5
 t9:=Tryz.underlying9
 a9:=Tryz.isAgg9
 z9:=Tryz.sizeOf9
 v9:=Tryz.zeroValue9
 t21:=Tryz.underlying21
 a21:=Tryz.isAgg21
 z21:=Tryz.sizeOf21
 v21:=Tryz.zeroValue21
 t46:=Tryz.underlying89
 a46:=Tryz.isAgg89
 z46:=Tryz.sizeOf89
 v46:=Tryz.zeroValue89
 t105:=Tryz.underlying133
 a105:=Tryz.isAgg133
 z105:=Tryz.sizeOf133
 v105:=Tryz.zeroValue133
 t116:=Tryz.underlying115
 a116:=Tryz.isAgg115
 z116:=Tryz.sizeOf115
 t117:=Tryz.underlying116
 a117:=Tryz.isAgg116
 z117:=Tryz.sizeOf116
 v117:=Tryz.zeroValue116
 t119:=Tryz.underlying162
 a119:=Tryz.isAgg162
 z119:=Tryz.sizeOf162
 t124:=Tryz.underlying119
 a124:=Tryz.isAgg119
 z124:=Tryz.sizeOf119
 v124:=Tryz.zeroValue119
 t138:=Tryz.underlying164
 a138:=Tryz.isAgg164
 z138:=Tryz.sizeOf164
 v138:=Tryz.zeroValue164
 t139:=Tryz.underlying165
 a139:=Tryz.isAgg165
 z139:=Tryz.sizeOf165
 v139:=Tryz.zeroValue165
 g3:=by kernel_rfl
 g4:=by kernel_rfl}
def cutpA_ren:Go.Shelf.Ren:=⟨fun | 103=>63 | 210=>79 | 206=>92|n=>n,fun | 9=>9 | 4=>4 | 24=>111 | 3=>3|n=>n,fun|n=>n⟩
theorem cutpA:Go.Proofs.Lays.n103 Tryz.prog cutpA_ren:={
 mixed:=by kernel_rfl
 f103:=Tryz.func63.trans (congrArg some (by kernel_rfl))
 f206:=Tryz.func92.trans (congrArg some (by kernel_rfl))
 f210:=Tryz.func79.trans (congrArg some (by kernel_rfl))
 t3:=Tryz.underlying3
 a3:=Tryz.isAgg3
 z3:=Tryz.sizeOf3
 v3:=Tryz.zeroValue3
 t4:=Tryz.underlying4
 a4:=Tryz.isAgg4
 z4:=Tryz.sizeOf4
 v4:=Tryz.zeroValue4
 t9:=Tryz.underlying9
 a9:=Tryz.isAgg9
 z9:=Tryz.sizeOf9
 v9:=Tryz.zeroValue9
 t24:=Tryz.underlying111
 a24:=Tryz.isAgg111
 z24:=Tryz.sizeOf111
 v24:=Tryz.zeroValue111}
def joinA_ren:Go.Shelf.Ren:=⟨fun | 156=>51 | 165=>71 | 166=>72 | 169=>73 | 240=>89 | 241=>90 | 276=>102 | 277=>103|n=>n,fun | 31=>98 | 9=>9 | 3=>3 | 4=>4 | 0=>0 | 20=>20 | 72=>124 | 76=>96 | 70=>121 | 37=>122 | 75=>95 | 127=>143 | 164=>159 | 5=>5 | 80=>125|n=>n,fun|n=>n⟩
theorem joinA:Go.Proofs.Lays.n156 Tryz.prog joinA_ren:={
 mixed:=by kernel_rfl
 f156:=Tryz.func51.trans (congrArg some (by kernel_rfl))
 f165:=Tryz.func71.trans (congrArg some (by kernel_rfl))
 f166:=Tryz.func72.trans (congrArg some (by kernel_rfl))
 f169:=Tryz.func73.trans (congrArg some (by kernel_rfl))
 f240:=Tryz.func89.trans (congrArg some (by kernel_rfl))
 f241:=Tryz.func90.trans (congrArg some (by kernel_rfl))
 f276:=Tryz.func102.trans (congrArg some (by kernel_rfl))
 f277:=Tryz.func103.trans (congrArg some (by kernel_rfl))
 t0:=Tryz.underlying0
 a0:=Tryz.isAgg0
 z0:=Tryz.sizeOf0
 v0:=Tryz.zeroValue0
 t3:=Tryz.underlying3
 a3:=Tryz.isAgg3
 z3:=Tryz.sizeOf3
 v3:=Tryz.zeroValue3
 t4:=Tryz.underlying4
 a4:=Tryz.isAgg4
 z4:=Tryz.sizeOf4
 v4:=Tryz.zeroValue4
 t9:=Tryz.underlying9
 a9:=Tryz.isAgg9
 z9:=Tryz.sizeOf9
 v9:=Tryz.zeroValue9
 t20:=Tryz.underlying20
 a20:=Tryz.isAgg20
 z20:=Tryz.sizeOf20
 v20:=Tryz.zeroValue20
 t31:=Tryz.underlying98
 a31:=Tryz.isAgg98
 z31:=Tryz.sizeOf98
 v31:=Tryz.zeroValue98
 t37:=Tryz.underlying122
 a37:=Tryz.isAgg122
 z37:=Tryz.sizeOf122
 v37:=Tryz.zeroValue122
 t70:=Tryz.underlying121
 a70:=Tryz.isAgg121
 z70:=Tryz.sizeOf121
 v70:=Tryz.zeroValue121
 t72:=Tryz.underlying124
 a72:=Tryz.isAgg124
 z72:=Tryz.sizeOf124
 v72:=Tryz.zeroValue124
 t75:=Tryz.underlying95
 a75:=Tryz.isAgg95
 z75:=Tryz.sizeOf95
 v75:=Tryz.zeroValue95
 t76:=Tryz.underlying96
 a76:=Tryz.isAgg96
 z76:=Tryz.sizeOf96
 v76:=Tryz.zeroValue96
 t127:=Tryz.underlying143
 a127:=Tryz.isAgg143
 z127:=Tryz.sizeOf143
 v127:=Tryz.zeroValue143
 t164:=Tryz.underlying159
 a164:=Tryz.isAgg159
 z164:=Tryz.sizeOf159
 v164:=Tryz.zeroValue159}
def itoaA_ren:Go.Shelf.Ren:=⟨fun | 171=>49 | 243=>68 | 246=>83 | 283=>95 | 284=>96 | 285=>97 | 286=>98 | 129=>61 | 317=>108 | 318=>109 | 319=>110 | 320=>111 | 337=>115 | 338=>116|n=>n,fun | 3=>3 | 9=>9 | 2=>2 | 4=>4 | 171=>149 | 0=>0 | 53=>110 | 37=>122 | 5=>5 | 173=>151 | 212=>170 | 51=>108 | 20=>20 | 213=>171 | 46=>89 | 232=>176 | 233=>177|n=>n,fun | 17=>5 | 18=>6 | 19=>7|n=>n⟩
theorem itoaA:Go.Proofs.Lays.n171 Tryz.prog itoaA_ren:={
 mixed:=by kernel_rfl
 f129:=Tryz.func61.trans (congrArg some (by kernel_rfl))
 f171:=Tryz.func49.trans (congrArg some (by kernel_rfl))
 f243:=Tryz.func68.trans (congrArg some (by kernel_rfl))
 f246:=Tryz.func83.trans (congrArg some (by kernel_rfl))
 f283:=Tryz.func95.trans (congrArg some (by kernel_rfl))
 f284:=Tryz.func96.trans (congrArg some (by kernel_rfl))
 f285:=Tryz.func97.trans (congrArg some (by kernel_rfl))
 f286:=Tryz.func98.trans (congrArg some (by kernel_rfl))
 f317:=Tryz.func108.trans (congrArg some (by kernel_rfl))
 f318:=Tryz.func109.trans (congrArg some (by kernel_rfl))
 f319:=Tryz.func110.trans (congrArg some (by kernel_rfl))
 f320:=Tryz.func111.trans (congrArg some (by kernel_rfl))
 f337:=Tryz.func115.trans (congrArg some (by kernel_rfl))
 f338:=Tryz.func116.trans (congrArg some (by kernel_rfl))
 t0:=Tryz.underlying0
 a0:=Tryz.isAgg0
 z0:=Tryz.sizeOf0
 v0:=Tryz.zeroValue0
 t2:=Tryz.underlying2
 a2:=Tryz.isAgg2
 z2:=Tryz.sizeOf2
 v2:=Tryz.zeroValue2
 t3:=Tryz.underlying3
 a3:=Tryz.isAgg3
 z3:=Tryz.sizeOf3
 v3:=Tryz.zeroValue3
 t4:=Tryz.underlying4
 a4:=Tryz.isAgg4
 z4:=Tryz.sizeOf4
 v4:=Tryz.zeroValue4
 t5:=Tryz.underlying5
 a5:=Tryz.isAgg5
 z5:=Tryz.sizeOf5
 v5:=Tryz.zeroValue5
 t9:=Tryz.underlying9
 a9:=Tryz.isAgg9
 z9:=Tryz.sizeOf9
 v9:=Tryz.zeroValue9
 t20:=Tryz.underlying20
 a20:=Tryz.isAgg20
 z20:=Tryz.sizeOf20
 v20:=Tryz.zeroValue20
 t37:=Tryz.underlying122
 a37:=Tryz.isAgg122
 z37:=Tryz.sizeOf122
 v37:=Tryz.zeroValue122
 t46:=Tryz.underlying89
 a46:=Tryz.isAgg89
 z46:=Tryz.sizeOf89
 v46:=Tryz.zeroValue89
 t51:=Tryz.underlying108
 a51:=Tryz.isAgg108
 z51:=Tryz.sizeOf108
 v51:=Tryz.zeroValue108
 t53:=Tryz.underlying110
 a53:=Tryz.isAgg110
 z53:=Tryz.sizeOf110
 v53:=Tryz.zeroValue110
 t171:=Tryz.underlying149
 a171:=Tryz.isAgg149
 z171:=Tryz.sizeOf149
 v171:=Tryz.zeroValue149
 t173:=Tryz.underlying151
 a173:=Tryz.isAgg151
 z173:=Tryz.sizeOf151
 v173:=Tryz.zeroValue151
 t212:=Tryz.underlying170
 a212:=Tryz.isAgg170
 z212:=Tryz.sizeOf170
 v212:=Tryz.zeroValue170
 t213:=Tryz.underlying171
 a213:=Tryz.isAgg171
 z213:=Tryz.sizeOf171
 t232:=Tryz.underlying176
 a232:=Tryz.isAgg176
 z232:=Tryz.sizeOf176
 v232:=Tryz.zeroValue176
 t233:=Tryz.underlying177
 a233:=Tryz.isAgg177
 z233:=Tryz.sizeOf177
 v233:=Tryz.zeroValue177
 g17:=by kernel_rfl
 g18:=by kernel_rfl
 g19:=by kernel_rfl}
def atoiA_ren:Go.Shelf.Ren:=⟨fun | 172=>50 | 244=>69 | 245=>70 | 247=>84 | 279=>85 | 280=>86 | 281=>87 | 282=>88 | 287=>99 | 316=>100 | 171=>49 | 205=>101 | 321=>112 | 322=>113 | 243=>68 | 246=>83 | 283=>95 | 284=>96 | 285=>97 | 286=>98 | 129=>61 | 317=>108 | 318=>109 | 319=>110 | 320=>111 | 337=>115 | 338=>116|n=>n,fun | 9=>9 | 3=>3 | 75=>95 | 76=>96 | 4=>4 | 5=>5 | 167=>137 | 37=>122 | 0=>0 | 85=>138 | 2=>2 | 168=>140 | 53=>110 | 175=>153 | 46=>89 | 210=>157 | 127=>143 | 145=>175 | 143=>173 | 21=>21 | 171=>149 | 173=>151 | 212=>170 | 51=>108 | 20=>20 | 213=>171 | 232=>176 | 233=>177 | 80=>125|n=>n,fun | 15=>1 | 16=>2 | 17=>5 | 18=>6 | 19=>7|n=>n⟩
theorem atoiA:Go.Proofs.Lays.n172 Tryz.prog atoiA_ren:={
 mixed:=by kernel_rfl
 f129:=Tryz.func61.trans (congrArg some (by kernel_rfl))
 f171:=Tryz.func49.trans (congrArg some (by kernel_rfl))
 f172:=Tryz.func50.trans (congrArg some (by kernel_rfl))
 f205:=Tryz.func101.trans (congrArg some (by kernel_rfl))
 f243:=Tryz.func68.trans (congrArg some (by kernel_rfl))
 f244:=Tryz.func69.trans (congrArg some (by kernel_rfl))
 f245:=Tryz.func70.trans (congrArg some (by kernel_rfl))
 f246:=Tryz.func83.trans (congrArg some (by kernel_rfl))
 f247:=Tryz.func84.trans (congrArg some (by kernel_rfl))
 f279:=Tryz.func85.trans (congrArg some (by kernel_rfl))
 f280:=Tryz.func86.trans (congrArg some (by kernel_rfl))
 f281:=Tryz.func87.trans (congrArg some (by kernel_rfl))
 f282:=Tryz.func88.trans (congrArg some (by kernel_rfl))
 f283:=Tryz.func95.trans (congrArg some (by kernel_rfl))
 f284:=Tryz.func96.trans (congrArg some (by kernel_rfl))
 f285:=Tryz.func97.trans (congrArg some (by kernel_rfl))
 f286:=Tryz.func98.trans (congrArg some (by kernel_rfl))
 f287:=Tryz.func99.trans (congrArg some (by kernel_rfl))
 f316:=Tryz.func100.trans (congrArg some (by kernel_rfl))
 f317:=Tryz.func108.trans (congrArg some (by kernel_rfl))
 f318:=Tryz.func109.trans (congrArg some (by kernel_rfl))
 f319:=Tryz.func110.trans (congrArg some (by kernel_rfl))
 f320:=Tryz.func111.trans (congrArg some (by kernel_rfl))
 f321:=Tryz.func112.trans (congrArg some (by kernel_rfl))
 f322:=Tryz.func113.trans (congrArg some (by kernel_rfl))
 f337:=Tryz.func115.trans (congrArg some (by kernel_rfl))
 f338:=Tryz.func116.trans (congrArg some (by kernel_rfl))
 t0:=Tryz.underlying0
 a0:=Tryz.isAgg0
 z0:=Tryz.sizeOf0
 v0:=Tryz.zeroValue0
 t2:=Tryz.underlying2
 a2:=Tryz.isAgg2
 z2:=Tryz.sizeOf2
 v2:=Tryz.zeroValue2
 t3:=Tryz.underlying3
 a3:=Tryz.isAgg3
 z3:=Tryz.sizeOf3
 v3:=Tryz.zeroValue3
 t4:=Tryz.underlying4
 a4:=Tryz.isAgg4
 z4:=Tryz.sizeOf4
 v4:=Tryz.zeroValue4
 t5:=Tryz.underlying5
 a5:=Tryz.isAgg5
 z5:=Tryz.sizeOf5
 v5:=Tryz.zeroValue5
 t9:=Tryz.underlying9
 a9:=Tryz.isAgg9
 z9:=Tryz.sizeOf9
 v9:=Tryz.zeroValue9
 t20:=Tryz.underlying20
 a20:=Tryz.isAgg20
 z20:=Tryz.sizeOf20
 v20:=Tryz.zeroValue20
 t21:=Tryz.underlying21
 a21:=Tryz.isAgg21
 z21:=Tryz.sizeOf21
 v21:=Tryz.zeroValue21
 t37:=Tryz.underlying122
 a37:=Tryz.isAgg122
 z37:=Tryz.sizeOf122
 v37:=Tryz.zeroValue122
 t46:=Tryz.underlying89
 a46:=Tryz.isAgg89
 z46:=Tryz.sizeOf89
 v46:=Tryz.zeroValue89
 t51:=Tryz.underlying108
 a51:=Tryz.isAgg108
 z51:=Tryz.sizeOf108
 v51:=Tryz.zeroValue108
 t53:=Tryz.underlying110
 a53:=Tryz.isAgg110
 z53:=Tryz.sizeOf110
 v53:=Tryz.zeroValue110
 t75:=Tryz.underlying95
 a75:=Tryz.isAgg95
 z75:=Tryz.sizeOf95
 v75:=Tryz.zeroValue95
 t76:=Tryz.underlying96
 a76:=Tryz.isAgg96
 z76:=Tryz.sizeOf96
 v76:=Tryz.zeroValue96
 t85:=Tryz.underlying138
 a85:=Tryz.isAgg138
 z85:=Tryz.sizeOf138
 v85:=Tryz.zeroValue138
 t127:=Tryz.underlying143
 a127:=Tryz.isAgg143
 z127:=Tryz.sizeOf143
 v127:=Tryz.zeroValue143
 t143:=Tryz.underlying173
 a143:=Tryz.isAgg173
 z143:=Tryz.sizeOf173
 v143:=Tryz.zeroValue173
 t145:=Tryz.underlying175
 a145:=Tryz.isAgg175
 z145:=Tryz.sizeOf175
 v145:=Tryz.zeroValue175
 t167:=Tryz.underlying137
 a167:=Tryz.isAgg137
 z167:=Tryz.sizeOf137
 v167:=Tryz.zeroValue137
 t168:=Tryz.underlying140
 a168:=Tryz.isAgg140
 z168:=Tryz.sizeOf140
 v168:=Tryz.zeroValue140
 t171:=Tryz.underlying149
 a171:=Tryz.isAgg149
 z171:=Tryz.sizeOf149
 v171:=Tryz.zeroValue149
 t173:=Tryz.underlying151
 a173:=Tryz.isAgg151
 z173:=Tryz.sizeOf151
 v173:=Tryz.zeroValue151
 t175:=Tryz.underlying153
 a175:=Tryz.isAgg153
 z175:=Tryz.sizeOf153
 v175:=Tryz.zeroValue153
 t210:=Tryz.underlying157
 a210:=Tryz.isAgg157
 z210:=Tryz.sizeOf157
 v210:=Tryz.zeroValue157
 t212:=Tryz.underlying170
 a212:=Tryz.isAgg170
 z212:=Tryz.sizeOf170
 v212:=Tryz.zeroValue170
 t213:=Tryz.underlying171
 a213:=Tryz.isAgg171
 z213:=Tryz.sizeOf171
 t232:=Tryz.underlying176
 a232:=Tryz.isAgg176
 z232:=Tryz.sizeOf176
 v232:=Tryz.zeroValue176
 t233:=Tryz.underlying177
 a233:=Tryz.isAgg177
 z233:=Tryz.sizeOf177
 v233:=Tryz.zeroValue177
 g15:=by kernel_rfl
 g16:=by kernel_rfl
 g17:=by kernel_rfl
 g18:=by kernel_rfl
 g19:=by kernel_rfl}
def atoiC_ren:Go.Shelf.Ren:=⟨fun | 172=>50 | 244=>69 | 245=>70 | 247=>84 | 279=>85 | 280=>86 | 281=>87 | 282=>88 | 287=>99 | 316=>100 | 171=>49 | 205=>101 | 321=>112 | 322=>113 | 243=>68 | 246=>83 | 283=>95 | 284=>96 | 285=>97 | 286=>98 | 129=>61 | 317=>108 | 318=>109 | 319=>110 | 320=>111 | 337=>115 | 338=>116|n=>n,fun | 9=>9 | 3=>3 | 75=>95 | 76=>96 | 4=>4 | 5=>5 | 167=>137 | 37=>122 | 0=>0 | 85=>138 | 2=>2 | 168=>140 | 53=>110 | 175=>153 | 46=>89 | 210=>157 | 127=>143 | 145=>175 | 143=>173 | 21=>21 | 171=>149 | 173=>151 | 212=>170 | 51=>108 | 20=>20 | 213=>171 | 232=>176 | 233=>177 | 80=>125|n=>n,fun | 15=>1 | 16=>2 | 17=>5 | 18=>6 | 19=>7|n=>n⟩
theorem atoiC:Go.Proofs.LaysC.n172 Tryz.prog atoiC_ren:={
 mixed:=by kernel_rfl
 f129:=Tryz.func61.trans (congrArg some (by kernel_rfl))
 f171:=Tryz.func49.trans (congrArg some (by kernel_rfl))
 f172:=Tryz.func50.trans (congrArg some (by kernel_rfl))
 f205:=Tryz.func101.trans (congrArg some (by kernel_rfl))
 f243:=Tryz.func68.trans (congrArg some (by kernel_rfl))
 f244:=Tryz.func69.trans (congrArg some (by kernel_rfl))
 f245:=Tryz.func70.trans (congrArg some (by kernel_rfl))
 f246:=Tryz.func83.trans (congrArg some (by kernel_rfl))
 f247:=Tryz.func84.trans (congrArg some (by kernel_rfl))
 f279:=Tryz.func85.trans (congrArg some (by kernel_rfl))
 f280:=Tryz.func86.trans (congrArg some (by kernel_rfl))
 f281:=Tryz.func87.trans (congrArg some (by kernel_rfl))
 f282:=Tryz.func88.trans (congrArg some (by kernel_rfl))
 f283:=Tryz.func95.trans (congrArg some (by kernel_rfl))
 f284:=Tryz.func96.trans (congrArg some (by kernel_rfl))
 f285:=Tryz.func97.trans (congrArg some (by kernel_rfl))
 f286:=Tryz.func98.trans (congrArg some (by kernel_rfl))
 f287:=Tryz.func99.trans (congrArg some (by kernel_rfl))
 f316:=Tryz.func100.trans (congrArg some (by kernel_rfl))
 f317:=Tryz.func108.trans (congrArg some (by kernel_rfl))
 f318:=Tryz.func109.trans (congrArg some (by kernel_rfl))
 f319:=Tryz.func110.trans (congrArg some (by kernel_rfl))
 f320:=Tryz.func111.trans (congrArg some (by kernel_rfl))
 f321:=Tryz.func112.trans (congrArg some (by kernel_rfl))
 f322:=Tryz.func113.trans (congrArg some (by kernel_rfl))
 f337:=Tryz.func115.trans (congrArg some (by kernel_rfl))
 f338:=Tryz.func116.trans (congrArg some (by kernel_rfl))
 t0:=Tryz.underlying0
 a0:=Tryz.isAgg0
 z0:=Tryz.sizeOf0
 v0:=Tryz.zeroValue0
 t2:=Tryz.underlying2
 a2:=Tryz.isAgg2
 z2:=Tryz.sizeOf2
 v2:=Tryz.zeroValue2
 t3:=Tryz.underlying3
 a3:=Tryz.isAgg3
 z3:=Tryz.sizeOf3
 v3:=Tryz.zeroValue3
 t4:=Tryz.underlying4
 a4:=Tryz.isAgg4
 z4:=Tryz.sizeOf4
 v4:=Tryz.zeroValue4
 t5:=Tryz.underlying5
 a5:=Tryz.isAgg5
 z5:=Tryz.sizeOf5
 v5:=Tryz.zeroValue5
 t9:=Tryz.underlying9
 a9:=Tryz.isAgg9
 z9:=Tryz.sizeOf9
 v9:=Tryz.zeroValue9
 t20:=Tryz.underlying20
 a20:=Tryz.isAgg20
 z20:=Tryz.sizeOf20
 v20:=Tryz.zeroValue20
 t21:=Tryz.underlying21
 a21:=Tryz.isAgg21
 z21:=Tryz.sizeOf21
 v21:=Tryz.zeroValue21
 t37:=Tryz.underlying122
 a37:=Tryz.isAgg122
 z37:=Tryz.sizeOf122
 v37:=Tryz.zeroValue122
 t46:=Tryz.underlying89
 a46:=Tryz.isAgg89
 z46:=Tryz.sizeOf89
 v46:=Tryz.zeroValue89
 t51:=Tryz.underlying108
 a51:=Tryz.isAgg108
 z51:=Tryz.sizeOf108
 v51:=Tryz.zeroValue108
 t53:=Tryz.underlying110
 a53:=Tryz.isAgg110
 z53:=Tryz.sizeOf110
 v53:=Tryz.zeroValue110
 t75:=Tryz.underlying95
 a75:=Tryz.isAgg95
 z75:=Tryz.sizeOf95
 v75:=Tryz.zeroValue95
 t76:=Tryz.underlying96
 a76:=Tryz.isAgg96
 z76:=Tryz.sizeOf96
 v76:=Tryz.zeroValue96
 t85:=Tryz.underlying138
 a85:=Tryz.isAgg138
 z85:=Tryz.sizeOf138
 v85:=Tryz.zeroValue138
 t127:=Tryz.underlying143
 a127:=Tryz.isAgg143
 z127:=Tryz.sizeOf143
 v127:=Tryz.zeroValue143
 t143:=Tryz.underlying173
 a143:=Tryz.isAgg173
 z143:=Tryz.sizeOf173
 v143:=Tryz.zeroValue173
 t145:=Tryz.underlying175
 a145:=Tryz.isAgg175
 z145:=Tryz.sizeOf175
 v145:=Tryz.zeroValue175
 t167:=Tryz.underlying137
 a167:=Tryz.isAgg137
 z167:=Tryz.sizeOf137
 v167:=Tryz.zeroValue137
 t168:=Tryz.underlying140
 a168:=Tryz.isAgg140
 z168:=Tryz.sizeOf140
 v168:=Tryz.zeroValue140
 t171:=Tryz.underlying149
 a171:=Tryz.isAgg149
 z171:=Tryz.sizeOf149
 v171:=Tryz.zeroValue149
 t173:=Tryz.underlying151
 a173:=Tryz.isAgg151
 z173:=Tryz.sizeOf151
 v173:=Tryz.zeroValue151
 t175:=Tryz.underlying153
 a175:=Tryz.isAgg153
 z175:=Tryz.sizeOf153
 v175:=Tryz.zeroValue153
 t210:=Tryz.underlying157
 a210:=Tryz.isAgg157
 z210:=Tryz.sizeOf157
 v210:=Tryz.zeroValue157
 t212:=Tryz.underlying170
 a212:=Tryz.isAgg170
 z212:=Tryz.sizeOf170
 v212:=Tryz.zeroValue170
 t213:=Tryz.underlying171
 a213:=Tryz.isAgg171
 z213:=Tryz.sizeOf171
 t232:=Tryz.underlying176
 a232:=Tryz.isAgg176
 z232:=Tryz.sizeOf176
 v232:=Tryz.zeroValue176
 t233:=Tryz.underlying177
 a233:=Tryz.isAgg177
 z233:=Tryz.sizeOf177
 v233:=Tryz.zeroValue177
 g15:=by kernel_rfl
 g16:=by kernel_rfl
 g17:=by kernel_rfl
 g18:=by kernel_rfl
 g19:=by kernel_rfl
 t80:=Tryz.underlying125
 a80:=Tryz.isAgg125
 z80:=Tryz.sizeOf125
 v80:=Tryz.zeroValue125
 i0:=by kernel_rfl
 i2:=by kernel_rfl
 i3:=by kernel_rfl
 i4:=by kernel_rfl
 i5:=by kernel_rfl
 i9:=by kernel_rfl
 i20:=by kernel_rfl
 i21:=by kernel_rfl
 i37:=by kernel_rfl
 i46:=by kernel_rfl
 i51:=by kernel_rfl
 i53:=by kernel_rfl
 i75:=by kernel_rfl
 i76:=by kernel_rfl
 i80:=by kernel_rfl
 i85:=by kernel_rfl
 i127:=by kernel_rfl
 i143:=by kernel_rfl
 i145:=by kernel_rfl
 i167:=by kernel_rfl
 i168:=by kernel_rfl
 i171:=by kernel_rfl
 i173:=by kernel_rfl
 i175:=by kernel_rfl
 i210:=by kernel_rfl
 i212:=by kernel_rfl
 i232:=by kernel_rfl
 i233:=by kernel_rfl
 m15:=by kernel_rfl
 m16:=by kernel_rfl
 m17:=by kernel_rfl
 m18:=by kernel_rfl
 m19:=by kernel_rfl
 c0:=by kernel_rfl
 c2:=by kernel_rfl
 c3:=by kernel_rfl
 c4:=by kernel_rfl
 c5:=by kernel_rfl
 c9:=by kernel_rfl
 c20:=by kernel_rfl
 c21:=by kernel_rfl
 c37:=by kernel_rfl
 c46:=by kernel_rfl
 c51:=by kernel_rfl
 c53:=by kernel_rfl
 c75:=by kernel_rfl
 c76:=by kernel_rfl
 c80:=by kernel_rfl
 c85:=by kernel_rfl
 c127:=by kernel_rfl
 c143:=by kernel_rfl
 c145:=by kernel_rfl
 c167:=by kernel_rfl
 c168:=by kernel_rfl
 c171:=by kernel_rfl
 c173:=by kernel_rfl
 c175:=by kernel_rfl
 c210:=by kernel_rfl
 c212:=by kernel_rfl
 c213:=by kernel_rfl
 c232:=by kernel_rfl
 c233:=by kernel_rfl}
open Go Go.RowKit
theorem bex:Builder.Extra Tryz.prog joinA_ren:={sizeBuilder:=by kernel_rfl,liesBuilder:=by kernel_rfl,t5:=Tryz.underlying5,a5:=Tryz.isAgg5,z5:=Tryz.sizeOf5,v5:=Tryz.zeroValue5,infoByte:=by kernel_rfl,cellsByte:=by kernel_rfl,sizeByte:=by kernel_rfl,neB5:=by decide}
theorem eqs_no {a b:ByteArray} (h:a≠b):(a==b)=false:=by
 cases hc:(a==b) with
 | false=>rfl
 | true =>
  refine absurd ?_ h
  rw [beq_toListBytes,beq_iff_eq,ByteArray.toList_eq,ByteArray.toList_eq] at hc
  exact bs_inj hc
theorem eqs_yes (a:ByteArray):(a==a)=true:=beq_self_str a
section
variable {P:Program} {a:Act} {w:World} {dst:Option Tmp} {typ:TypeId} {pos:String} {aft:Array Edge} {gd:Option (Nat×Bool)}
theorem bh (x y:List UInt8):mkS x++mkS y=mkS (x++y):=by
 apply ByteArray.ext
 simp [mkS]
theorem bD {t:TypeId} {x y:Operand} {rt:TypeId} (s s' r:ByteArray) (hr:r=s++s') (hx:a.eval x=.string s) (hy:a.eval y=.string s') (hl:s.size+s'.size≤1000000000) :
  (execOp a.eval {dst:=dst,op:=.binOp .add t x y rt,type:=typ,pos:=pos,after:=aft,guard:=gd}).run P w=.ok (.value (.string r)) w:=by
 subst hr
 unfold execOp
 simp only [hx,hy]
 simp [eqGuard,binOp,Op.stringOp]
 omega
theorem d5 {t:TypeId} {x y:Operand} {rt:TypeId} (s s':ByteArray) (v:Bool) (hx:a.eval x=.string s) (hy:a.eval y=.string s') (hv:(s==s')=v) :
  (execOp a.eval {dst:=dst,op:=.binOp .neq t x y rt,type:=typ,pos:=pos,after:=aft,guard:=gd}).run P w=.ok (.value (.bool (!v))) w:=by
 subst hv
 unfold execOp
 simp only [hx,hy]
 simp [eqGuard,binOp,Op.stringOp,beq_toListBytes]
end
theorem jnB_join (l:List (List UInt8)):Lib.join l [44]=jnB l:=by
 induction l with
 | nil=>rfl
 | cons x l ih =>
  cases l with
  | nil=>exact Lib.join_one x [44]
  | cons y r =>
   rw [Lib.join_cons,jnB,←ih,Lib.join_cons]
   simp [Lib.joinTail]
def SlS (w:World) (v:Value) (l:List ByteArray):Prop:=SlV 1 w v l.length (strs l)
theorem join_any (xs:List ByteArray) (v:Value) (w:World) (hv:SlS w v xs) (hl:xs.length≤100) (hs:(jnB (xs.map bs)).length≤100000) :
  Calls Tryz.prog 51 #[v,.string ⟨#[44]⟩] w fun e w'=>e=.returned (.string (mkS (jnB (xs.map bs))))∧Below w.heap.size w w':=by
 obtain ⟨p,cap,rfl,hcap,_,hseg⟩:=hv
 by_cases h0:xs=[]
 ·subst h0
  refine (Any.strings_Join_none joinA bex p cap ⟨#[44]⟩ w).mono ?_
  rintro e w' ⟨rfl,rfl⟩
  exact ⟨rfl,Below.refl _ _⟩
 ·obtain ⟨b,off,rfl,hc⟩:=hseg (List.length_pos_iff.2 h0)
  have hcells:∀(j:Nat) x,xs[j]?=some x→w.cell? ⟨b,off+j,none⟩=some (.string x):=fun j x hx=>hc j _ (by simp [strs,hx])
  have hb:b<w.heap.size:=by
   have:=hcells 0 (xs[0]'(List.length_pos_iff.2 h0)) (by simp)
   exact block_lt_of_cell this
  have hlen:(Lib.join (xs.map (·.data.toList)) [44]).length≤140737488355328:=by
   rw [jnB_join]
   exact Nat.le_trans hs (by omega)
  refine (Any.strings_Join joinA bex b off cap xs ⟨#[44]⟩ w hcells hb (by omega) hcap hlen).mono ?_
  rintro e w' ⟨rfl,h⟩
  refine ⟨?_,h⟩
  show Ending.returned (.string (mkS (Lib.join (xs.map (·.data.toList)) [44])))=_
  rw [jnB_join]
  rfl
theorem dig_lib {n:Nat} (h:n<100):Lib.decDigits n=dig (n:Int):=by
 rw [Lib.decDigits,dig]
 by_cases h1:n<10
 ·rw [dif_pos h1,if_pos (by omega)];rfl
 ·rw [dif_neg h1,if_neg (by omega),Lib.decDigits,dif_pos (by omega)];rfl
theorem b7 (n:Int) (h0:0≤n) (h1:n≤99) (w:World) :
  Calls Tryz.prog 49 #[.int .i64 n] w fun e w'=>e=.returned (.string (mkS (dig n)))∧w'=w:=by
 obtain ⟨m,rfl⟩:∃m:Nat,n=(m:Int):=⟨n.toNat,by omega⟩
 rw [←dig_lib (by omega)]
 exact Any.strconv_Itoa_small itoaA m (by omega) w
theorem cutp_any (s p:ByteArray) (w:World) :
  Calls Tryz.prog 63 #[.string s,.string p] w fun e w'=>e=.returned (.tuple #[.string (mkS (Lib.trimPrefix (bs s) (bs p))),.bool (Lib.hasPrefix (bs s) (bs p))])∧w'=w :=
 Any.strings_CutPrefix cutpA s p w
theorem dr (s:ByteArray) (w:World) :
  Calls Tryz.prog 48 #[.string s,.string ⟨#[48,49,50,51,52,53,54,55,56,57]⟩] w fun e w'=>e=.returned (.string (mkS ((bs s).drop (ldg (bs s)).length)))∧Below w.heap.size w w':=by
 refine (Any.strings_TrimLeft_laid trimA (by kernel_rfl) s ⟨#[48,49,50,51,52,53,54,55,56,57]⟩ w (by decide) (Go.Proofs.ascii_of_all (by decide))).mono ?_
 rintro e w' ⟨rfl,h⟩
 refine ⟨?_,h⟩
 show Ending.returned (.string (mkS (Lib.trimLeftS (bs s) [48,49,50,51,52,53,54,55,56,57])))=_
 congr 3
 generalize bs s=l
 unfold Lib.trimLeftS ldg
 induction l with
 | nil=>rfl
 | cons x l ih =>
  have hx:[48,49,50,51,52,53,54,55,56,57].contains x=isDig x:=by
   have key:∀i:Fin 256,([48,49,50,51,52,53,54,55,56,57]:List UInt8).contains (UInt8.ofNat i.val)=isDig (UInt8.ofNat i.val):=by decide +kernel
   have:=key ⟨x.toNat,x.toNat_lt⟩
   rwa [show UInt8.ofNat (⟨x.toNat,x.toNat_lt⟩:Fin 256).val=x from UInt8.ofNat_toNat ..] at this
  rw [List.dropWhile_cons,List.takeWhile_cons,hx]
  cases isDig x with
  | true=>simpa using ih
  | false=>rfl
end Go.Proofs.YtcibhfcjbokdlabGreatDoor
