import Derived.Test.YtmlbjfklaehjnaaGreatDoorQc30
set_option maxRecDepth 100000
set_option maxHeartbeats 4000000
namespace Go.Proofs.YtmlbjfklaehjnaaGreatDoor
open Go Go.RowKit
theorem nd (cs:List Int) (p:Option Addr) (N cap m _n:Nat) (hN:cs.length=N) (hNl:N≤30000) (_hml:m≤1000) (_hcb:Bytes cs) (h2:N<2) (w:World) (hv:SlOld w (.slice p N cap) cs) :
  Calls Tryz.prog 139 #[.slice p N cap,.int .i64 (m:Int)] w fun e w'=>∃g,e=.returned (.tuple #[.string noStr,.slice (some ⟨g,0,none⟩) N N,.int .i64 10])∧w.heap.size≤g∧Row w' g (u8s cs) 5∧Below w.heap.size w w':=by
 have HV:Hid (SlOld w (.slice p N cap) cs):=hv
 have HNL:Hid (cs.length=N):=hN
 have hm:=Mem.start w
 have h2i:(N:Int)<2:=by omega
 clear hv hN
 go_enter Tryz.func139,Tryz.ntmps139
 go_wp2_with (first
  | (go_at_call 90;refine (bm cs _ 0 (by rw [HNL.out];exact hNl) (by omega) _ (SlOld.mem HV.out hm)).mono ?_;rintro e w4 ⟨g,he,hge,hrg,hb⟩;rw [HNL.out,Nat.add_zero] at he;subst he;rw [List.replicate_zero,List.append_nil] at hrg;have HRG:Hid (Row w4 g (u8s cs) 5):=hrg;have HGE:Hid (w.heap.size≤g):=Nat.le_trans hm.size hge;replace hm:=hm.call hb;clear hb hrg hge))
 go_ret3
 exact ⟨g,rfl,HGE.out,HRG.out,hm.below⟩
theorem getText_much (cs:List Int) (p:Option Addr) (N cap m n:Nat) (hN:cs.length=N) (hNl:N≤30000) (_hml:m≤1000) (hcb:Bytes cs) (h2:2≤N) (hnum:numL (cs.take 2)=(n:Int)) (hn6:n<65536) (hnm:m<n) (w:World) (hv:SlOld w (.slice p N cap) cs) :
  Calls Tryz.prog 139 #[.slice p N cap,.int .i64 (m:Int)] w fun e w'=>∃g,e=.returned (.tuple #[.string noStr,.slice (some ⟨g,0,none⟩) N N,.int .i64 11])∧w.heap.size≤g∧Row w' g (u8s cs) 5∧Below w.heap.size w w':=by
 have HV:Hid (SlOld w (.slice p N cap) cs):=hv
 have HNL:Hid (cs.length=N):=hN
 have hm:=Mem.start w
 have h2i:¬((N:Int)<2):=by omega
 have hcap:N≤cap:=by obtain ⟨_,h,_⟩:=hv.src0;exact h
 have HNU:Hid (∀_:Unit,numL (cs.take 2)=(n:Int)):=fun _=>hnum
 have HT2:Hid ((cs.take 2).length=2):=by show _=_;rw [List.length_take,hN];omega
 have HTB:Hid (Bytes (cs.take 2)):=hcb.take 2
 have h3:(n:Int) > (m:Int):=by omega
 clear hv hN hnum
 go_enter Tryz.func139,Tryz.ntmps139
 go_wp2_with (first
  | ((with_reducible refine aa (some 15) (.slice 54 (.tmp 14) none (some (.const (.int .i64 2))) none) ?_);go_must (refine ae (.slice (cutHi p cap) 2 cap) rfl (dL aq av 2 (by omega) rfl rfl rfl) ?_))
  | (go_at_call 179;refine (cN (cs.take 2) _ 2 HT2.out (by omega) HTB.out _ (kz HV.out 2 (by omega))).mono ?_;rintro e w2 ⟨he,hw⟩;rw [HNU.out ()] at he;subst he;replace hw:=hw.symm;subst hw)
  | (go_at_call 90;refine (bm cs _ 0 (by rw [HNL.out];exact hNl) (by omega) _ (SlOld.mem HV.out hm)).mono ?_;rintro e w4 ⟨g,he,hge,hrg,hb⟩;rw [HNL.out,Nat.add_zero] at he;subst he;rw [List.replicate_zero,List.append_nil] at hrg;have HRG:Hid (Row w4 g (u8s cs) 5):=hrg;have HGE:Hid (w.heap.size≤g):=Nat.le_trans hm.size hge;replace hm:=hm.call hb;clear hb hrg hge))
 go_ret3
 exact ⟨g,rfl,HGE.out,HRG.out,hm.below⟩
theorem getText_cut (cs:List Int) (p:Option Addr) (N cap m n:Nat) (hN:cs.length=N) (hNl:N≤30000) (_hml:m≤1000) (hcb:Bytes cs) (h2:2≤N) (hnum:numL (cs.take 2)=(n:Int)) (hn6:n<65536) (hnm:n≤m) (hsh:N<2+n) (w:World) (hv:SlOld w (.slice p N cap) cs) :
  Calls Tryz.prog 139 #[.slice p N cap,.int .i64 (m:Int)] w fun e w'=>∃g,e=.returned (.tuple #[.string noStr,.slice (some ⟨g,0,none⟩) N N,.int .i64 10])∧w.heap.size≤g∧Row w' g (u8s cs) 5∧Below w.heap.size w w':=by
 have HV:Hid (SlOld w (.slice p N cap) cs):=hv
 have HNL:Hid (cs.length=N):=hN
 have hm:=Mem.start w
 have h2i:¬((N:Int)<2):=by omega
 have hcap:N≤cap:=by obtain ⟨_,h,_⟩:=hv.src0;exact h
 have HNU:Hid (∀_:Unit,numL (cs.take 2)=(n:Int)):=fun _=>hnum
 have HT2:Hid ((cs.take 2).length=2):=by show _=_;rw [List.length_take,hN];omega
 have HTB:Hid (Bytes (cs.take 2)):=hcb.take 2
 have h3:¬((n:Int) > (m:Int)):=by omega
 have h4:(N:Int)<2+(n:Int):=by omega
 clear hv hN hnum
 go_enter Tryz.func139,Tryz.ntmps139
 go_wp2_with (first
  | ((with_reducible refine aa (some 15) (.slice 54 (.tmp 14) none (some (.const (.int .i64 2))) none) ?_);go_must (refine ae (.slice (cutHi p cap) 2 cap) rfl (dL aq av 2 (by omega) rfl rfl rfl) ?_))
  | (go_at_call 179;refine (cN (cs.take 2) _ 2 HT2.out (by omega) HTB.out _ (kz HV.out 2 (by omega))).mono ?_;rintro e w2 ⟨he,hw⟩;rw [HNU.out ()] at he;subst he;replace hw:=hw.symm;subst hw)
  | (go_at_call 90;refine (bm cs _ 0 (by rw [HNL.out];exact hNl) (by omega) _ (SlOld.mem HV.out hm)).mono ?_;rintro e w4 ⟨g,he,hge,hrg,hb⟩;rw [HNL.out,Nat.add_zero] at he;subst he;rw [List.replicate_zero,List.append_nil] at hrg;have HRG:Hid (Row w4 g (u8s cs) 5):=hrg;have HGE:Hid (w.heap.size≤g):=Nat.le_trans hm.size hge;replace hm:=hm.call hb;clear hb hrg hge))
 go_ret3
 exact ⟨g,rfl,HGE.out,HRG.out,hm.below⟩
theorem getText_good (cs:List Int) (p:Option Addr) (N cap m n:Nat) (hN:cs.length=N) (hNl:N≤30000) (_hml:m≤1000) (hcb:Bytes cs) (h2:2≤N) (hnum:numL (cs.take 2)=(n:Int)) (hn6:n<65536) (hnm:n≤m) (hsh:2+n≤N) (w:World) (hv:SlOld w (.slice p N cap) cs) :
  Calls Tryz.prog 139 #[.slice p N cap,.int .i64 (m:Int)] w fun e w'=>∃g,e=.returned (.tuple #[.string (strOf ((cs.drop 2).take n)),.slice (some ⟨g,0,none⟩) (N - (2+n)) (N - (2+n)),.int .i64 0])∧w.heap.size≤g∧Row w' g (u8s (cs.drop (2+n))) 5∧Below w.heap.size w w':=by
 have HV:Hid (SlOld w (.slice p N cap) cs):=hv
 have HNL:Hid (cs.length=N):=hN
 have hm:=Mem.start w
 have h2i:¬((N:Int)<2):=by omega
 have hcap:N≤cap:=by obtain ⟨_,h,_⟩:=hv.src0;exact h
 have HNU:Hid (∀_:Unit,numL (cs.take 2)=(n:Int)):=fun _=>hnum
 have HT2:Hid ((cs.take 2).length=2):=by show _=_;rw [List.length_take,hN];omega
 have HTB:Hid (Bytes (cs.take 2)):=hcb.take 2
 have h3:¬((n:Int) > (m:Int)):=by omega
 have h4:¬((N:Int)<2+(n:Int)):=by omega
 obtain ⟨M,hM⟩:∃M:Nat,M=N - (2+n):=⟨_,rfl⟩
 have HML:Hid ((cs.drop (2+n)).length=M):=by show _=_;rw [List.length_drop,hN,hM]
 have HMM:Hid (N - (2+n)=M):=hM.symm
 have hMl:M≤30000:=by omega
 rw [←hM]
 clear hv hnum hM hN
 go_enter Tryz.func139,Tryz.ntmps139
 go_wp2_with (first
  | ((with_reducible refine aa (some 15) (.slice 54 (.tmp 14) none (some (.const (.int .i64 2))) none) ?_);go_must (refine ae (.slice (cutHi p cap) 2 cap) rfl (dL aq av 2 (by omega) rfl rfl rfl) ?_))
  | (go_at_call 179;refine (cN (cs.take 2) _ 2 HT2.out (by omega) HTB.out _ (kz HV.out 2 (by omega))).mono ?_;rintro e w2 ⟨he,hw⟩;rw [HNU.out ()] at he;subst he;replace hw:=hw.symm;subst hw))
 refine au ?_
 refine ap (T:=fun W=>Mem w [] W []) (by kernel_rfl) hm ?_
 clear hm
 intro w3 hm
 refine aT 0 (v:=.slice p N cap) rfl (by kernel_rfl) rfl (fun W _=>by go_simp) hm ?_
 go_simp
 refine aT 1 (v:=.int .i64 (2+(n:Int))) rfl (by kernel_rfl) rfl (fun W _=>by go_simp) hm ?_
 go_simp
 refine aT 2 (v:=.slice (cutLo p cap 2) n (cap - 2)) rfl (by kernel_rfl) rfl (fun W _=>exec_sLH aq av 2 n (by omega) rfl rfl rfl rfl (by omega)) hm ?_
 go_simp
 refine aT 3 (v:=.string (strOf ((cs.drop 2).take n))) rfl (by kernel_rfl) rfl (fun W hW=>dW aq cf er ((cs.drop 2).take n) rfl (old_lh (SlOld.mem HV.out hW) 2 n (by omega))) hm ?_
 go_simp
 refine aT 4 (v:=.slice p N cap) rfl (by kernel_rfl) rfl (fun W _=>by go_simp) hm ?_
 go_simp
 refine aT 5 (v:=.int .i64 (2+(n:Int))) rfl (by kernel_rfl) rfl (fun W _=>by go_simp) hm ?_
 go_simp
 refine aT 6 (v:=.slice (cutLo p cap (2+n)) M (cap - (2+n))) rfl (by kernel_rfl) rfl (fun W _=>HMM.out▸cw aq av (2+n) (by omega) rfl rfl (by omega)) hm ?_
 go_simp
 refine aO 7 (by kernel_rfl) rfl rfl ?_
 intro K hK
 go_wp2_with (go_at_call 90;refine (bm (cs.drop (2+n)) _ 0 (by rw [HML.out];exact hMl) (by omega) _ (HMM.out▸kB (SlOld.mem HV.out hm) (2+n) (by omega))).mono ?_;rintro e w4 ⟨g,he,hge,hrg,hb⟩;rw [HML.out,Nat.add_zero] at he;subst he;rw [List.replicate_zero,List.append_nil] at hrg;have HRG:Hid (Row w4 g (u8s (cs.drop (2+n))) 5):=hrg;have HGE:Hid (w.heap.size≤g):=Nat.le_trans hm.size hge;replace hm:=hm.call hb;clear hb hrg hge)
 refine hK _ _ hm ?_
 clear hK K
 refine aT 8 (v:=.string (strOf ((cs.drop 2).take n))) rfl (by kernel_rfl) rfl (fun W _=>by go_simp) hm ?_
 go_simp
 refine aT 9 (v:=.slice (some ⟨g,0,none⟩) M M) rfl (by kernel_rfl) rfl (fun W _=>by go_simp) hm ?_
 go_simp
 refine aT 10 (v:=.int .i64 0) rfl (by kernel_rfl) rfl (fun W _=>by go_simp) hm ?_
 go_simp
 refine wpAnyH_done (by kernel_rfl) ?_ _
 simp only [endsIn]
 go_wp2_with fail
 go_ret3
 exact ⟨g,rfl,HGE.out,HRG.out,hm.below⟩
theorem getText_anyN (cs:List Int) (v:Value) (m:Nat) (hNl:cs.length≤30000) (hml:m≤1000) (hcb:Bytes cs) (w:World) (hv:SlOld w v cs) :
  Calls Tryz.prog 139 #[v,.int .i64 (m:Int)] w fun e w'=>∃g,e=.returned (.tuple #[.string (gtStr cs m),.slice (some ⟨g,0,none⟩) (gtRest cs m).length (gtRest cs m).length,.int .i64 (gtCode cs m)])∧w.heap.size≤g∧Row w' g (u8s (gtRest cs m)) 5∧Below w.heap.size w w':=by
 obtain ⟨p,cap,rfl,hcap⟩:=hv.len
 have hb2:Bytes (cs.take 2):=hcb.take 2
 have hnum:numL (cs.take 2)=(gtNum cs:Int):=by
  have:=bL hb2
  unfold gtNum;omega
 by_cases h2:cs.length<2
 ·have hc:gtCode cs m=10:=by rw [gtCode,if_pos h2]
  have hc0:¬gtCode cs m=0:=by rw [hc];decide
  rw [gtStr,gtRest,if_neg hc0,if_neg hc0,hc]
  exact nd cs p cs.length cap m 0 rfl hNl hml hcb h2 w hv
 ·have hn6:gtNum cs<65536:=by
   have:=eX hb2
   rw [List.length_take,Nat.min_eq_left (by omega)] at this
   omega
  by_cases hnm:m<gtNum cs
  ·have hc:gtCode cs m=11:=by rw [gtCode,if_neg h2,if_pos hnm]
   have hc0:¬gtCode cs m=0:=by rw [hc];decide
   rw [gtStr,gtRest,if_neg hc0,if_neg hc0,hc]
   exact getText_much cs p cs.length cap m (gtNum cs) rfl hNl hml hcb (by omega) hnum hn6 hnm w hv
  ·by_cases hsh:cs.length<2+gtNum cs
   ·have hc:gtCode cs m=10:=by rw [gtCode,if_neg h2,if_neg hnm,if_pos hsh]
    have hc0:¬gtCode cs m=0:=by rw [hc];decide
    rw [gtStr,gtRest,if_neg hc0,if_neg hc0,hc]
    exact getText_cut cs p cs.length cap m (gtNum cs) rfl hNl hml hcb (by omega) hnum hn6 (by omega) hsh w hv
   ·have hc:gtCode cs m=0:=by rw [gtCode,if_neg h2,if_neg hnm,if_neg hsh]
    rw [gtStr,gtRest,if_pos hc,if_pos hc,hc,List.length_drop]
    exact getText_good cs p cs.length cap m (gtNum cs) rfl hNl hml hcb (by omega) hnum hn6 (by omega) (by omega) w hv
open Go Go.RowKit
theorem textSize_any (s:ByteArray) (hs:s.size≤1152921504606846976) (w:World) :
  Calls Tryz.prog 88 #[.string s] w fun e w'=>e=.returned (.int .i64 (2+(s.size:Int)))∧w'=w:=by
 go_enter Tryz.func88,Tryz.ntmps88
 go_wp2
 go_ret
 exact ⟨rfl,rfl⟩
theorem fitKey_any (k:ByteArray) (w:World) :
  Calls Tryz.prog 87 #[.string k] w fun e w'=>e=.returned (.bool (fitK k))∧w'=w:=by
 unfold fitK
 by_cases h1:1≤k.size
 ·have h1i:(1:Int)≤(k.size:Int):=by omega
  by_cases h2:k.size≤60
  ·have h2i:(k.size:Int)≤60:=by omega
   rw [decide_eq_true h1,decide_eq_true h2]
   go_enter Tryz.func87,Tryz.ntmps87
   go_wp2
   go_ret
   exact ⟨rfl,rfl⟩
  ·have h2i:¬(k.size:Int)≤60:=by omega
   rw [decide_eq_true h1,decide_eq_false h2]
   go_enter Tryz.func87,Tryz.ntmps87
   go_wp2
   go_ret
   exact ⟨rfl,rfl⟩
 ·have h1i:¬(1:Int)≤(k.size:Int):=by omega
  rw [decide_eq_false h1]
  go_enter Tryz.func87,Tryz.ntmps87
  go_wp2
  go_ret
  exact ⟨rfl,rfl⟩
open Go Go.RowKit
theorem fy (k:ByteArray) (f:Bool) (h:fitK k=f) (w:World) :
  Calls Tryz.prog 87 #[.string k] w fun e w'=>e=.returned (.bool f)∧w'=w:=by
 subst h
 exact fitKey_any k w
theorem exec_gt0 {a:Act} {w:World} {dst:Option Tmp} {typ:TypeId} {pos:String} {aft:Array Edge} {gd:Option (Nat×Bool)} {x:Operand} {i:Int} (h:i≤0) (hx:a.eval x=.int .i64 i) :
  (execOp a.eval {dst:=dst,op:=.binOp .gtr 3 x (.const (.int .i64 0)) 3,type:=typ,pos:=pos,after:=aft,guard:=gd}).run Tryz.prog w=.ok (.value (.bool false)) w:=by
 unfold execOp
 simp only [hx]
 simp [Act.eval,eqGuard,binOp,go_sem,h]
theorem gU (l:List (ByteArray×ByteArray)) (n:Nat) (v:Value) (hn:l.length=n) (hnl:n≤1000) (w:World) (hv:SlP w v l) :
  Calls Tryz.prog 50 #[v] w fun e w'=>e=.returned (.bool (okPairs l n))∧Below w.heap.size w w':=by
 obtain ⟨p,cap,rfl,hcap⟩:=SlV.len hv
 have HV:Hid (SlP w (.slice p l.length cap) l):=hv
 have HN:Hid (l.length=n):=hn
 rw [hn] at hcap HV ⊢
 clear hv hn
 go_enter Tryz.func50,Tryz.ntmps50
 go_wp2_with fail
 go_loopw [7] (fun vi wr=>∃k:Nat,k≤n∧vi=.int .i64 (k:Int)∧Hid (okPairs l k=true)∧Hid (Below w.heap.size w wr)) (fun vi _=>n - (RowKit.intOf vi).toNat)
 case atStart=>exact ⟨0,by omega,rfl,rfl,Below.refl _ _⟩
 case round =>
  obtain ⟨k,hk,rfl,HO,HB⟩:=hrel
  by_cases hlt:k<n
  ·have hki:(k:Int)<(n:Int):=by omega
   obtain ⟨b,off,hp⟩:=SlP.at HV.out HN.out (by omega)
   subst hp
   have HV2:Hid (SlP wr (.slice (some ⟨b,off,none⟩) n cap) l):=SlV.below HV.out HB.out
   obtain ⟨c0,c1⟩:=SlP.cells HN.out HV2.out k hlt
   obtain ⟨kk,hkk⟩:∃x,x=(l.getD k (noStr,noStr)).1:=⟨_,rfl⟩
   obtain ⟨vv,hvv⟩:∃x,x=(l.getD k (noStr,noStr)).2:=⟨_,rfl⟩
   rw [←hkk] at c0
   rw [←hvv] at c1
   have HC0:Hid (wr.cell? ⟨b,off+k * 2,none⟩=some (.string kk)):=c0
   have HC1:Hid (wr.cell? ⟨b,off+k * 2+1,none⟩=some (.string vv)):=c1
   have hm:=Mem.start wr
   clear c0 c1
   have HOP:Hid (okPairs l (k+1)=(decide (vv.size≤150)&&(fitK kk&&(decide (k=0)||less (l.getD (k - 1) (noStr,noStr)).1 kk)))):=by
    show _=_
    rw [okPairs,HO.out,okPair_eq,Bool.true_and,←hkk,←hvv]
   clear hkk hvv
   cases hf:fitK kk with
   | false =>
    have HF:Hid (fitK kk=false):=hf
    have HF2:Hid (okPairs l n=false):=jr (show k+1≤n by omega) (by rw [HOP.out,hf];simp)
    clear hf
    go_wp2_with (first
     | ((with_reducible refine aa (some 10) (.indexAddr 28 (.tmp 5) (.tmp 7)) ?_);go_must (refine ae (.pointer (some ⟨b,off+k * 2,none⟩)) rfl (aV k rfl rfl rfl hlt) ?_))
     | ((with_reducible refine aa (some 11) (.load 44 (.tmp 10)) ?_);go_must (refine ae (.agg [.string kk,.string vv].toArray) rfl (bo kk vv rfl HC0.out HC1.out) ?_))
     | ((with_reducible refine aa (some 4) (.alloc 44) ?_);refine af _ bB hm ?_;clear hm;intro w2 g4 hm)
     | ((with_reducible refine aa none (.store 44 (.tmp 4) (.tmp 11)) ?_);refine ag 0 [.string kk,.string vv] hm rfl rfl rfl 2 bA (rfl) (rfl) (by simp [Value.oneCell']) ?_;clear hm;intro w3 hm))
    have ca:w3.cell? ⟨g4,0,none⟩=some (.string kk):=((hm.get 0 rfl).cell 0).trans rfl
    have cb:w3.cell? ⟨g4,1,none⟩=some (.string vv):=((hm.get 0 rfl).cell 1).trans rfl
    go_quiet (first|(go_at_call 87;refine Calls.quiet_of_same (fy _ false HF.out _)))
    obtain ⟨wc,hwc⟩:∃v,v=World.drewN w3 nq:=⟨_,rfl⟩
    replace hm:=Mem.drewN hm nq
    rw [←hwc] at hm ⊢
    clear hwc ca cb
    have HB2:Hid (Below w.heap.size w wc):=HB.out.trans (hm.below.mono HB.out.size)
    go_wp2_with fail
    go_ret
    exact ⟨by rw [HF2.out];rfl,HB2.out⟩
   | true =>
    have HF:Hid (fitK kk=true):=hf
    by_cases h150:150<vv.size
    ·have h150i:(vv.size:Int) > 150:=by omega
     have HF2:Hid (okPairs l n=false):=jr (show k+1≤n by omega) (by rw [HOP.out,decide_eq_false (by omega)];rfl)
     clear hf
     go_wp2_with (first
      | ((with_reducible refine aa (some 10) (.indexAddr 28 (.tmp 5) (.tmp 7)) ?_);go_must (refine ae (.pointer (some ⟨b,off+k * 2,none⟩)) rfl (aV k rfl rfl rfl hlt) ?_))
      | ((with_reducible refine aa (some 11) (.load 44 (.tmp 10)) ?_);go_must (refine ae (.agg [.string kk,.string vv].toArray) rfl (bo kk vv rfl HC0.out HC1.out) ?_))
      | ((with_reducible refine aa (some 4) (.alloc 44) ?_);refine af _ bB hm ?_;clear hm;intro w2 g4 hm)
      | ((with_reducible refine aa none (.store 44 (.tmp 4) (.tmp 11)) ?_);refine ag 0 [.string kk,.string vv] hm rfl rfl rfl 2 bA (rfl) (rfl) (by simp [Value.oneCell']) ?_;clear hm;intro w3 hm))
     have ca:w3.cell? ⟨g4,0,none⟩=some (.string kk):=((hm.get 0 rfl).cell 0).trans rfl
     have cb:w3.cell? ⟨g4,1,none⟩=some (.string vv):=((hm.get 0 rfl).cell 1).trans rfl
     go_quiet (first|(go_at_call 87;refine Calls.quiet_of_same (fy _ true HF.out _)))
     obtain ⟨wc,hwc⟩:∃v,v=World.drewN w3 nq:=⟨_,rfl⟩
     replace hm:=Mem.drewN hm nq
     rw [←hwc] at hm ⊢
     clear hwc ca cb
     have HB2:Hid (Below w.heap.size w wc):=HB.out.trans (hm.below.mono HB.out.size)
     go_wp2_with fail
     go_ret
     exact ⟨by rw [HF2.out];rfl,HB2.out⟩
    ·have h150i:¬(vv.size:Int) > 150:=by omega
     by_cases hk0:k=0
     ·have HO2:Hid (okPairs l (k+1)=true):=by show _=_;rw [HOP.out,hf,decide_eq_true (show vv.size≤150 by omega),decide_eq_true hk0];rfl
      have HK0:Hid ((k:Int)≤0):=by show _≤_;omega
      clear hf hk0
      go_wp2_with (first
       | ((with_reducible refine aa (some 10) (.indexAddr 28 (.tmp 5) (.tmp 7)) ?_);go_must (refine ae (.pointer (some ⟨b,off+k * 2,none⟩)) rfl (aV k rfl rfl rfl hlt) ?_))
       | ((with_reducible refine aa (some 11) (.load 44 (.tmp 10)) ?_);go_must (refine ae (.agg [.string kk,.string vv].toArray) rfl (bo kk vv rfl HC0.out HC1.out) ?_))
       | ((with_reducible refine aa (some 4) (.alloc 44) ?_);refine af _ bB hm ?_;clear hm;intro w2 g4 hm)
       | ((with_reducible refine aa none (.store 44 (.tmp 4) (.tmp 11)) ?_);refine ag 0 [.string kk,.string vv] hm rfl rfl rfl 2 bA (rfl) (rfl) (by simp [Value.oneCell']) ?_;clear hm;intro w3 hm))
      refine au ?_
      refine ap (T:=fun W=>Mem wr [] W [(g4,[.string kk,.string vv],44)]) (by kernel_rfl) hm ?_
      clear hm
      intro wc hm
      refine aT 0 (v:=.pointer (some ⟨g4,0,none⟩)) rfl (by kernel_rfl) rfl (fun W _=>by go_simp) hm ?_
      go_simp
      refine aT 1 (v:=.string kk) rfl (by kernel_rfl) rfl (fun W hW=>aj (.string kk) (((Mem.get hW 0 rfl).cell 0).trans rfl) rfl a8) hm ?_
      go_simp
      refine aO 2 (by kernel_rfl) rfl rfl ?_
      intro K hK
      go_wp2_with (go_at_call 87;refine (fy _ true HF.out _).mono ?_;rintro e wf ⟨rfl,hw⟩;replace hw:=hw.symm;subst hw)
      refine hK _ _ hm ?_
      clear hK K
      refine aT 3 (v:=.bool false) rfl (by kernel_rfl) rfl (fun W _=>by go_simp) hm ?_
      go_simp
      refine aT 4 (v:=.bool false) rfl (by kernel_rfl) rfl (fun W _=>by go_simp) hm ?_
      go_simp
      refine aG 5 (v:=.pointer (some ⟨g4,1,none⟩)) rfl (by kernel_rfl) rfl (fun W _=>by go_simp) hm ?_
      go_simp
      refine aG 6 (v:=.string vv) rfl (by kernel_rfl) rfl (fun W hW=>aj (.string vv) (((Mem.get hW 0 rfl).cell 1).trans rfl) rfl a8) hm ?_
      go_simp
      refine aG 7 (v:=.int .i64 (vv.size:Int)) rfl (by kernel_rfl) rfl (fun W _=>by go_simp) hm ?_
      go_simp
      refine aG 8 (v:=.bool false) rfl (by kernel_rfl) rfl (fun W _=>by go_simp) hm ?_
      go_simp
      refine aT 9 (v:=.bool false) rfl (by kernel_rfl) rfl (fun W _=>by go_simp) hm ?_
      go_simp
      refine aT 10 (v:=.bool false) rfl (by kernel_rfl) rfl (fun W _=>by go_simp) hm ?_
      go_simp
      refine aG 11 (v:=.int .i64 (k:Int)) rfl (by kernel_rfl) rfl (fun W _=>by go_simp) hm ?_
      go_simp
      refine aG 12 (v:=.bool false) rfl (by kernel_rfl) rfl (fun W _=>exec_gt0 HK0.out rfl) hm ?_
      go_simp
      refine aG 13 (v:=.bool false) rfl (by kernel_rfl) rfl (fun W _=>by go_simp) hm ?_
      go_simp
      refine aC 14 rfl (by kernel_rfl) (by kernel_rfl) (by kernel_rfl) rfl hm ?_
      go_simp
      refine aC 15 rfl (by kernel_rfl) (by kernel_rfl) (by kernel_rfl) rfl hm ?_
      go_simp
      refine aC 16 rfl (by kernel_rfl) (by kernel_rfl) (by kernel_rfl) rfl hm ?_
      go_simp
      refine aC 17 rfl (by kernel_rfl) (by kernel_rfl) (by kernel_rfl) rfl hm ?_
      go_simp
      refine aC 18 rfl (by kernel_rfl) (by kernel_rfl) (by kernel_rfl) rfl hm ?_
      go_simp
      refine aC 19 rfl (by kernel_rfl) (by kernel_rfl) (by kernel_rfl) rfl hm ?_
      go_simp
      refine aC 20 rfl (by kernel_rfl) (by kernel_rfl) (by kernel_rfl) rfl hm ?_
      go_simp
      refine aC 21 rfl (by kernel_rfl) (by kernel_rfl) (by kernel_rfl) rfl hm ?_
      go_simp
      refine aC 22 rfl (by kernel_rfl) (by kernel_rfl) (by kernel_rfl) rfl hm ?_
      go_simp
      refine aG 23 (v:=.bool false) rfl (by kernel_rfl) rfl (fun W _=>by go_simp) hm ?_
      go_simp
      refine aT 24 (v:=.bool false) rfl (by kernel_rfl) rfl (fun W _=>by go_simp) hm ?_
      go_simp
      refine wpAnyH_done (by kernel_rfl) ?_ _
      simp only [endsIn]
      have HB2:Hid (Below w.heap.size w wc):=HB.out.trans (hm.below.mono HB.out.size)
      go_wp2_with fail
      go_roundw
      case rel=>exact ⟨k+1,by omega,by go_num,HO2.out,HB2.out⟩
      case measure=>simp [RowKit.intOf];omega

     ·obtain ⟨j,rfl⟩:∃j,k=j+1:=⟨k - 1,by omega⟩
      obtain ⟨d0,_⟩:=SlP.cells HN.out HV2.out j (by omega)
      obtain ⟨pk,hpk⟩:∃x,x=(l.getD j (noStr,noStr)).1:=⟨_,rfl⟩
      rw [←hpk] at d0
      have HD0:Hid (wr.cell? ⟨b,off+j * 2,none⟩=some (.string pk)):=d0
      have hbl:b<wr.heap.size:=block_lt_of_cell d0
      have HBL:Hid (b<wr.heap.size):=hbl
      have HWJ:IntKind.i64.wrap (j:Int)=(j:Int):=b7 j (by omega)
      clear d0 hbl
      cases hl:less pk kk with
      | false =>
       have HF2:Hid (okPairs l n=false):=jr (show j+1+1≤n by omega) (by rw [HOP.out,Nat.add_sub_cancel,←hpk,hl,decide_eq_false hk0];simp)
       have HLS:Hid (less pk kk=false):=hl
       clear hf hl hpk hk0
       go_wp2_with (first
        | ((with_reducible refine aa (some 10) (.indexAddr 28 (.tmp 5) (.tmp 7)) ?_);go_must (refine ae (.pointer (some ⟨b,off+(j+1) * 2,none⟩)) rfl (aV (j+1) rfl rfl rfl hlt) ?_))
        | ((with_reducible refine aa (some 11) (.load 44 (.tmp 10)) ?_);go_must (refine ae (.agg [.string kk,.string vv].toArray) rfl (bo kk vv rfl HC0.out HC1.out) ?_))
        | ((with_reducible refine aa (some 4) (.alloc 44) ?_);refine af _ bB hm ?_;clear hm;intro w2 g4 hm)
        | ((with_reducible refine aa none (.store 44 (.tmp 4) (.tmp 11)) ?_);refine ag 0 [.string kk,.string vv] hm rfl rfl rfl 2 bA (rfl) (rfl) (by simp [Value.oneCell']) ?_;clear hm;intro w3 hm))
       refine au ?_
       refine ap (T:=fun W=>Mem wr [] W [(g4,[.string kk,.string vv],44)]) (by kernel_rfl) hm ?_
       clear hm
       intro wc hm
       refine aT 0 (v:=.pointer (some ⟨g4,0,none⟩)) rfl (by kernel_rfl) rfl (fun W _=>by go_simp) hm ?_
       go_simp
       refine aT 1 (v:=.string kk) rfl (by kernel_rfl) rfl (fun W hW=>aj (.string kk) (((Mem.get hW 0 rfl).cell 0).trans rfl) rfl a8) hm ?_
       go_simp
       refine aO 2 (by kernel_rfl) rfl rfl ?_
       intro K hK
       go_wp2_with (go_at_call 87;refine (fy _ true HF.out _).mono ?_;rintro e wf ⟨rfl,hw⟩;replace hw:=hw.symm;subst hw)
       refine hK _ _ hm ?_
       clear hK K
       refine aT 3 (v:=.bool false) rfl (by kernel_rfl) rfl (fun W _=>by go_simp) hm ?_
       go_simp
       refine aT 4 (v:=.bool false) rfl (by kernel_rfl) rfl (fun W _=>by go_simp) hm ?_
       go_simp
       refine aG 5 (v:=.pointer (some ⟨g4,1,none⟩)) rfl (by kernel_rfl) rfl (fun W _=>by go_simp) hm ?_
       go_simp
       refine aG 6 (v:=.string vv) rfl (by kernel_rfl) rfl (fun W hW=>aj (.string vv) (((Mem.get hW 0 rfl).cell 1).trans rfl) rfl a8) hm ?_
       go_simp
       refine aG 7 (v:=.int .i64 (vv.size:Int)) rfl (by kernel_rfl) rfl (fun W _=>by go_simp) hm ?_
       go_simp
       refine aG 8 (v:=.bool false) rfl (by kernel_rfl) rfl (fun W _=>by go_simp) hm ?_
       go_simp
       refine aT 9 (v:=.bool false) rfl (by kernel_rfl) rfl (fun W _=>by go_simp) hm ?_
       go_simp
       refine aT 10 (v:=.bool false) rfl (by kernel_rfl) rfl (fun W _=>by go_simp) hm ?_
       go_simp
       refine aG 11 (v:=.int .i64 ((j:Int)+1)) rfl (by kernel_rfl) rfl (fun W _=>by go_simp) hm ?_
       go_simp
       refine aG 12 (v:=.bool true) rfl (by kernel_rfl) rfl (fun W _=>by go_simp) hm ?_
       go_simp
       refine aG 13 (v:=.bool true) rfl (by kernel_rfl) rfl (fun W _=>by go_simp) hm ?_
       go_simp
       refine aG 14 (v:=.slice (some ⟨b,off,none⟩) n cap) rfl (by kernel_rfl) rfl (fun W _=>by go_simp) hm ?_
       go_simp
       refine aG 15 (v:=.int .i64 ((j:Int)+1)) rfl (by kernel_rfl) rfl (fun W _=>by go_simp) hm ?_
       go_simp
       refine aG 16 (v:=.int .i64 (j:Int)) rfl (by kernel_rfl) rfl (fun W _=>by go_simp) hm ?_
       go_simp
       refine aG 17 (v:=.pointer (some ⟨b,off+j * 2,none⟩)) rfl (by kernel_rfl) rfl (fun W _=>aV j rfl rfl rfl (by omega)) hm ?_
       go_simp
       refine aG 18 (v:=.pointer (some ⟨b,off+j * 2,none⟩)) rfl (by kernel_rfl) rfl (fun W _=>by go_simp) hm ?_
       go_simp
       refine aG 19 (v:=.string pk) rfl (by kernel_rfl) rfl (fun W hW=>aj (.string pk) ((Mem.old hW (p:=⟨b,off+j * 2,none⟩) HBL.out (by simp)).trans HD0.out) rfl a8) hm ?_
       go_simp
       refine aG 20 (v:=.pointer (some ⟨g4,0,none⟩)) rfl (by kernel_rfl) rfl (fun W _=>by go_simp) hm ?_
       go_simp
       refine aG 21 (v:=.string kk) rfl (by kernel_rfl) rfl (fun W hW=>aj (.string kk) (((Mem.get hW 0 rfl).cell 0).trans rfl) rfl a8) hm ?_
       go_simp
       refine aG 22 (v:=.bool true) rfl (by kernel_rfl) rfl (fun W _=>iE pk kk false rfl rfl HLS.out) hm ?_
       go_simp
       refine aG 23 (v:=.bool true) rfl (by kernel_rfl) rfl (fun W _=>by go_simp) hm ?_
       go_simp
       refine aT 24 (v:=.bool true) rfl (by kernel_rfl) rfl (fun W _=>by go_simp) hm ?_
       go_simp
       refine wpAnyH_done (by kernel_rfl) ?_ _
       simp only [endsIn]
       have HB2:Hid (Below w.heap.size w wc):=HB.out.trans (hm.below.mono HB.out.size)
       go_wp2_with fail
       go_ret
       exact ⟨by rw [HF2.out];rfl,HB2.out⟩
      | true =>
       have HO2:Hid (okPairs l (j+1+1)=true):=by show _=_;rw [HOP.out,hf,Nat.add_sub_cancel,←hpk,hl,decide_eq_true (show vv.size≤150 by omega)];simp
       have HLS:Hid (less pk kk=true):=hl
       clear hf hl hpk hk0
       go_wp2_with (first
        | ((with_reducible refine aa (some 10) (.indexAddr 28 (.tmp 5) (.tmp 7)) ?_);go_must (refine ae (.pointer (some ⟨b,off+(j+1) * 2,none⟩)) rfl (aV (j+1) rfl rfl rfl hlt) ?_))
        | ((with_reducible refine aa (some 11) (.load 44 (.tmp 10)) ?_);go_must (refine ae (.agg [.string kk,.string vv].toArray) rfl (bo kk vv rfl HC0.out HC1.out) ?_))
        | ((with_reducible refine aa (some 4) (.alloc 44) ?_);refine af _ bB hm ?_;clear hm;intro w2 g4 hm)
        | ((with_reducible refine aa none (.store 44 (.tmp 4) (.tmp 11)) ?_);refine ag 0 [.string kk,.string vv] hm rfl rfl rfl 2 bA (rfl) (rfl) (by simp [Value.oneCell']) ?_;clear hm;intro w3 hm))
       refine au ?_
       refine ap (T:=fun W=>Mem wr [] W [(g4,[.string kk,.string vv],44)]) (by kernel_rfl) hm ?_
       clear hm
       intro wc hm
       refine aT 0 (v:=.pointer (some ⟨g4,0,none⟩)) rfl (by kernel_rfl) rfl (fun W _=>by go_simp) hm ?_
       go_simp
       refine aT 1 (v:=.string kk) rfl (by kernel_rfl) rfl (fun W hW=>aj (.string kk) (((Mem.get hW 0 rfl).cell 0).trans rfl) rfl a8) hm ?_
       go_simp
       refine aO 2 (by kernel_rfl) rfl rfl ?_
       intro K hK
       go_wp2_with (go_at_call 87;refine (fy _ true HF.out _).mono ?_;rintro e wf ⟨rfl,hw⟩;replace hw:=hw.symm;subst hw)
       refine hK _ _ hm ?_
       clear hK K
       refine aT 3 (v:=.bool false) rfl (by kernel_rfl) rfl (fun W _=>by go_simp) hm ?_
       go_simp
       refine aT 4 (v:=.bool false) rfl (by kernel_rfl) rfl (fun W _=>by go_simp) hm ?_
       go_simp
       refine aG 5 (v:=.pointer (some ⟨g4,1,none⟩)) rfl (by kernel_rfl) rfl (fun W _=>by go_simp) hm ?_
       go_simp
       refine aG 6 (v:=.string vv) rfl (by kernel_rfl) rfl (fun W hW=>aj (.string vv) (((Mem.get hW 0 rfl).cell 1).trans rfl) rfl a8) hm ?_
       go_simp
       refine aG 7 (v:=.int .i64 (vv.size:Int)) rfl (by kernel_rfl) rfl (fun W _=>by go_simp) hm ?_
       go_simp
       refine aG 8 (v:=.bool false) rfl (by kernel_rfl) rfl (fun W _=>by go_simp) hm ?_
       go_simp
       refine aT 9 (v:=.bool false) rfl (by kernel_rfl) rfl (fun W _=>by go_simp) hm ?_
       go_simp
       refine aT 10 (v:=.bool false) rfl (by kernel_rfl) rfl (fun W _=>by go_simp) hm ?_
       go_simp
       refine aG 11 (v:=.int .i64 ((j:Int)+1)) rfl (by kernel_rfl) rfl (fun W _=>by go_simp) hm ?_
       go_simp
       refine aG 12 (v:=.bool true) rfl (by kernel_rfl) rfl (fun W _=>by go_simp) hm ?_
       go_simp
       refine aG 13 (v:=.bool true) rfl (by kernel_rfl) rfl (fun W _=>by go_simp) hm ?_
       go_simp
       refine aG 14 (v:=.slice (some ⟨b,off,none⟩) n cap) rfl (by kernel_rfl) rfl (fun W _=>by go_simp) hm ?_
       go_simp
       refine aG 15 (v:=.int .i64 ((j:Int)+1)) rfl (by kernel_rfl) rfl (fun W _=>by go_simp) hm ?_
       go_simp
       refine aG 16 (v:=.int .i64 (j:Int)) rfl (by kernel_rfl) rfl (fun W _=>by go_simp) hm ?_
       go_simp
       refine aG 17 (v:=.pointer (some ⟨b,off+j * 2,none⟩)) rfl (by kernel_rfl) rfl (fun W _=>aV j rfl rfl rfl (by omega)) hm ?_
       go_simp
       refine aG 18 (v:=.pointer (some ⟨b,off+j * 2,none⟩)) rfl (by kernel_rfl) rfl (fun W _=>by go_simp) hm ?_
       go_simp
       refine aG 19 (v:=.string pk) rfl (by kernel_rfl) rfl (fun W hW=>aj (.string pk) ((Mem.old hW (p:=⟨b,off+j * 2,none⟩) HBL.out (by simp)).trans HD0.out) rfl a8) hm ?_
       go_simp
       refine aG 20 (v:=.pointer (some ⟨g4,0,none⟩)) rfl (by kernel_rfl) rfl (fun W _=>by go_simp) hm ?_
       go_simp
       refine aG 21 (v:=.string kk) rfl (by kernel_rfl) rfl (fun W hW=>aj (.string kk) (((Mem.get hW 0 rfl).cell 0).trans rfl) rfl a8) hm ?_
       go_simp
       refine aG 22 (v:=.bool false) rfl (by kernel_rfl) rfl (fun W _=>iE pk kk true rfl rfl HLS.out) hm ?_
       go_simp
       refine aG 23 (v:=.bool false) rfl (by kernel_rfl) rfl (fun W _=>by go_simp) hm ?_
       go_simp
       refine aT 24 (v:=.bool false) rfl (by kernel_rfl) rfl (fun W _=>by go_simp) hm ?_
       go_simp
       refine wpAnyH_done (by kernel_rfl) ?_ _
       simp only [endsIn]
       have HB2:Hid (Below w.heap.size w wc):=HB.out.trans (hm.below.mono HB.out.size)
       go_wp2_with fail
       go_roundw
       case rel=>exact ⟨j+1+1,by omega,by go_num,HO2.out,HB2.out⟩
       case measure=>simp [RowKit.intOf];omega
  ·have hkn:n=k:=by omega
   subst hkn
   have hni:¬(n:Int)<(n:Int):=by omega
   go_wp2_with fail
   go_ret
   exact ⟨by rw [HO.out];rfl,HB.out⟩
open Go Go.RowKit
open Go Go.RowKit
theorem put_any (g o len len' c:Nat) (ds cs:List Int) (v:Value) (hlen:len=c+len') (hc:cs.length=c) (h0:0<c) (ho:0<len→o=ds.length) (w:World) (hr:Row w g (u8s (ds++List.replicate len 0)) 5) (hv:SlOld w v cs) :
  Calls Tryz.prog 52 #[.slice (some ⟨g,o,none⟩) len len,v] w fun e w'=>∃o',e=.returned (.slice (some ⟨g,o',none⟩) len' len')∧(0<len'→o'=(ds++cs).length)∧Row w' g (u8s ((ds++cs)++List.replicate len' 0)) 5∧Upd g w w':=by
 obtain ⟨p,cap,rfl,hcap⟩:=hv.len
 have hod:=ho (by omega)
 have HV:Hid (SlOld w (.slice p cs.length cap) cs):=hv
 rw [hc] at hcap HV ⊢
 have hm:=Mem.enter hr
 have HMI:Hid (c=Nat.min c len):=(Nat.min_eq_left (by omega)).symm
 have HFIT:Hid (o+c≤(u8s (ds++List.replicate len 0)).length):=by show _≤_;rw [ab,hod];simp;omega
 have HNEW:Hid (splice (u8s (ds++List.replicate len 0)) o (u8s (cs.take c))=u8s ((ds++cs)++List.replicate len' 0)):=by
  show _=_
  rw [List.take_of_length_le (by omega),hod]
  unfold splice u8s
  rw [←List.map_take,←List.map_drop,←List.map_append,←List.map_append]
  congr 1
  rw [List.take_left,List.append_assoc,List.length_map,hc]
  congr 2
  rw [List.drop_append,List.drop_of_length_le (by omega),List.nil_append,List.drop_replicate]
  congr 1
  omega
 have HDL:Hid (o+c=(ds++cs).length):=by show _=_;rw [List.length_append,hc,hod]
 have HLL:Hid (len - c=len'):=by show _=_;omega
 have hcl:c≤len:=by omega
 clear hv hr ho hod hlen hc
 go_enter Tryz.func52,Tryz.ntmps52
 go_wp2_with (first
  | ((with_reducible refine aa (some 8) (.call {callee:=.builtin .copy,args:=#[.tmp 6,.tmp 7],argTypes:=#[54,54]}) ?_);go_must (refine ek 0 cs c (u8s ((ds++cs)++List.replicate len' 0)) hm rfl rfl rfl _ aq av HV.out HMI.out HFIT.out HNEW.out ?_);clear hm;intro w2 hm)
  | ((with_reducible refine aa (some 9) (.slice 54 (.tmp 5) (some (.tmp 8)) none none) ?_);go_must (refine ae (.slice (cutLo (some ⟨g,o,none⟩) len c) len' len') rfl (HLL.out▸cw aq av c hcl rfl rfl rfl) ?_)))
 go_ret
 by_cases h1:len=c
 ·refine ⟨o,?_,fun h=>absurd h (by have:=HLL.out;omega),hm.get 0 rfl,hm.toUpd⟩
  simp [cutLo,h1]
 ·refine ⟨o+c,?_,fun _=>HDL.out,hm.get 0 rfl,hm.toUpd⟩
  simp [cutLo,h1,aZ]
theorem head_any (kd:Int) (n:Nat) (hn:n≤65535) (w:World) :
  Calls Tryz.prog 53 #[.int .u8 kd,.int .i64 (n:Int)] w fun e w'=>∃g,e=.returned (.slice (some ⟨g,0,none⟩) 3 3)∧w.heap.size≤g∧Row w' g (u8s ([kd]++be2 n)) 5∧Below w.heap.size w w':=by
 have hm:=Mem.start w
 have HW:IntKind.u64.wrap (n:Int)=(n:Int):=ec n (by omega)
 go_enter Tryz.func53,Tryz.ntmps53
 go_wp2_with (first
  | ((with_reducible refine aa (some 6) (.buildSlice 54 1 #[(0,.tmp 5)]) ?_);go_must (refine di rfl (.int .u8 0) (.int .u8 kd) aq dN rfl rfl rfl hm ?_);clear hm;intro w1 g1 hb1 hm;clear hb1)
  | (go_at_call 89;refine (put_two [kd] _ n (by simp) _ (aE (hm.get 0 rfl) rfl (Nat.le_refl _))).mono ?_;rintro e w2 ⟨g,rfl,hge,hr,hb⟩;have HGE:Hid (w.heap.size≤g):=Nat.le_trans hm.size hge;have HR:Hid (Row w2 g (u8s ([kd]++be2 n)) 5):=hr;replace hm:=hm.call hb;clear hge hr hb))
 go_ret
 exact ⟨g,rfl,HGE.out,HR.out,hm.below⟩
open Go Go.RowKit
open Go Go.RowKit
open Go Go.RowKit
theorem mG (l:List (ByteArray×ByteArray)) (n:Nat) (v:Value) (hn:l.length=n) (hnl:n≤1000) (hsz:∀p∈l,p.1.size≤1152921504606846976∧p.2.size≤1152921504606846976) (w:World) (hv:SlP w v l) :
  Calls Tryz.prog 51 #[v] w fun e w'=>e=.returned (.int .i64 ((min (szP l) 100000:Nat):Int))∧Below w.heap.size w w':=by
 obtain ⟨p,cap,rfl,hcap⟩:=SlV.len hv
 have HV:Hid (SlP w (.slice p l.length cap) l):=hv
 have HSZ:Hid (∀p∈l,p.1.size≤1152921504606846976∧p.2.size≤1152921504606846976):=hsz
 have HN:Hid (l.length=n):=hn
 rw [hn] at hcap HV ⊢
 clear hv hsz hn
 go_enter Tryz.func51,Tryz.ntmps51
 go_wp2_with fail
 go_loopw [3,8] (fun vs vi wr=>∃k:Nat,k≤n∧vi=.int .i64 (k:Int)∧(∃s:Nat,s<100000∧vs=.int .i64 (s:Int)∧Hid (szP (l.take k)=s))∧Hid (Below w.heap.size w wr)) (fun _ vi _=>n - (RowKit.intOf vi).toNat)
 case atStart=>exact ⟨0,by omega,rfl,⟨3,by omega,rfl,rfl⟩,Below.refl _ _⟩
 case round =>
  obtain ⟨k,hk,rfl,⟨s,hs,rfl,HS⟩,HB⟩:=hrel
  by_cases hlt:k<n
  ·have hki:(k:Int)<(n:Int):=by omega
   obtain ⟨b,off,hp⟩:=SlP.at HV.out HN.out (by omega)
   subst hp
   have HV2:Hid (SlP wr (.slice (some ⟨b,off,none⟩) n cap) l):=SlV.below HV.out HB.out
   obtain ⟨c0,c1⟩:=SlP.cells HN.out HV2.out k hlt
   obtain ⟨kk,hkk⟩:∃x,x=(l.getD k (noStr,noStr)).1:=⟨_,rfl⟩
   obtain ⟨vv,hvv⟩:∃x,x=(l.getD k (noStr,noStr)).2:=⟨_,rfl⟩
   have hmem:l.getD k (noStr,noStr)∈l:=by
    have h9:=HN.out
    simp [show k<l.length by omega]
   obtain ⟨hz1,hz2⟩:=HSZ.out _ hmem
   have HST:Hid (szP (l.take (k+1))=s+(4+kk.size+vv.size)):=by
    show _=_
    rw [szP_take l k (by rw [HN.out];exact hlt),HS.out,hkk,hvv]
    rfl
   rw [←hkk] at c0 hz1
   rw [←hvv] at c1 hz2
   have HC0:Hid (wr.cell? ⟨b,off+k * 2,none⟩=some (.string kk)):=c0
   have HC1:Hid (wr.cell? ⟨b,off+k * 2+1,none⟩=some (.string vv)):=c1
   have hm:=Mem.start wr
   clear c0 c1 hkk hvv hmem
   go_wp2_with (first
    | ((with_reducible refine aa (some 10) (.indexAddr 28 (.tmp 6) (.tmp 8)) ?_);go_must (refine ae (.pointer (some ⟨b,off+k * 2,none⟩)) rfl (aV k rfl rfl rfl hlt) ?_))
    | ((with_reducible refine aa (some 11) (.load 44 (.tmp 10)) ?_);go_must (refine ae (.agg [.string kk,.string vv].toArray) rfl (bo kk vv rfl HC0.out HC1.out) ?_))
    | ((with_reducible refine aa (some 5) (.alloc 44) ?_);refine af _ bB hm ?_;clear hm;intro w2 g5 hm)
    | ((with_reducible refine aa none (.store 44 (.tmp 5) (.tmp 11)) ?_);refine ag 0 [.string kk,.string vv] hm rfl rfl rfl 2 bA (rfl) (rfl) (by simp [Value.oneCell']) ?_;clear hm;intro w3 hm))
   have ca:w3.cell? ⟨g5,0,none⟩=some (.string kk):=((hm.get 0 rfl).cell 0).trans rfl
   have cb:w3.cell? ⟨g5,1,none⟩=some (.string vv):=((hm.get 0 rfl).cell 1).trans rfl
   go_quiet (first|(go_at_call 88;refine Calls.quiet_of_same (textSize_any _ (by omega) _)))
   obtain ⟨wc,hwc⟩:∃v,v=World.drewN w3 nq:=⟨_,rfl⟩
   replace hm:=Mem.drewN hm nq
   rw [←hwc] at hm ⊢
   clear hwc ca cb
   have HB2:Hid (Below w.heap.size w wc):=HB.out.trans (hm.below.mono HB.out.size)
   obtain ⟨tt,htt⟩:∃tt:Nat,tt=s+(4+kk.size+vv.size):=⟨_,rfl⟩
   rw [show IntKind.i64.wrap (2+(kk.size:Int)+(2+(vv.size:Int)))=(2+(kk.size:Int)+(2+(vv.size:Int))) from wrapi _ (by omega) (by omega),show IntKind.i64.wrap ((s:Int)+(2+(kk.size:Int)+(2+(vv.size:Int))))=(tt:Int) from (wrapi _ (by omega) (by omega)).trans (by omega)]
   rw [←htt] at HST
   have HTT:Hid (tt=s+(4+kk.size+vv.size)):=htt
   clear hz1 hz2 htt HS
   by_cases hge:tt<100000
   ·have hgi:¬(tt:Int)≥100000:=by omega
    go_wp2_with fail
    go_roundw
    case rel=>exact ⟨k+1,by omega,by go_num,⟨tt,hge,rfl,HST.out⟩,HB2.out⟩
    case measure=>simp [RowKit.intOf];omega
   ·have hgi:(tt:Int)≥100000:=by omega
    have HL:Hid (min (szP l) 100000=100000):=by
     show _=_
     have h9:=lm l (k+1)
     rw [HST.out] at h9
     exact Nat.min_eq_right (by omega)
    go_wp2_with fail
    go_ret
    exact ⟨by rw [HL.out];rfl,HB2.out⟩
  ·have hkn:n=k:=by omega
   subst hkn
   have hni:¬(n:Int)<(n:Int):=by omega
   have HT:Hid (szP l=s):=by show _=_;rw [←HS.out,List.take_of_length_le (by rw [HN.out];exact Nat.le_refl _)]
   go_wp2_with fail
   go_ret
   exact ⟨by rw [HT.out,Nat.min_eq_left (by omega)];rfl,HB.out⟩
open Go Go.RowKit
theorem leaf_bad (l:List (ByteArray×ByteArray)) (n:Nat) (v:Value) (hn:l.length=n) (hnl:n≤1000) (hok:okPairs l n=false) (w:World) (hv:SlP w v l) :
  Calls Tryz.prog 29 #[v] w fun e w'=>e=.returned (.tuple #[.slice none 0 0,.int .i64 90])∧Below w.heap.size w w':=by
 obtain ⟨p,cap,rfl,hcap⟩:=SlV.len hv
 have HV:Hid (SlP w (.slice p l.length cap) l):=hv
 have HN:Hid (l.length=n):=hn
 rw [hn] at hcap HV ⊢
 have hm:=Mem.start w
 have HOK:Hid (okPairs l n=false):=hok
 clear hv hn hok
 go_enter Tryz.func29,Tryz.ntmps29
 go_wp2_with (first
  | (go_at_call 50;refine (gU l n _ HN.out hnl _ HV.out).mono ?_;rintro e w1 ⟨he,hb⟩;rw [HOK.out] at he;subst he;replace hm:=hm.call hb;clear hb))
 go_ret2
 exact ⟨rfl,hm.below⟩
theorem leaf_long (l:List (ByteArray×ByteArray)) (n:Nat) (v:Value) (hn:l.length=n) (hnl:n≤1000) (hsz:∀p∈l,p.1.size≤1152921504606846976∧p.2.size≤1152921504606846976) (hok:okPairs l n=true) (hs:480<szP l) (w:World) (hv:SlP w v l) :
  Calls Tryz.prog 29 #[v] w fun e w'=>e=.returned (.tuple #[.slice none 0 0,.int .i64 11])∧Below w.heap.size w w':=by
 obtain ⟨p,cap,rfl,hcap⟩:=SlV.len hv
 have HV:Hid (SlP w (.slice p l.length cap) l):=hv
 have HN:Hid (l.length=n):=hn
 rw [hn] at hcap HV ⊢
 have hm:=Mem.start w
 have HOK:Hid (okPairs l n=true):=hok
 have HSZ:Hid (∀p∈l,p.1.size≤1152921504606846976∧p.2.size≤1152921504606846976):=hsz
 obtain ⟨s,hsm⟩:∃s:Nat,s=min (szP l) 100000:=⟨_,rfl⟩
 have hsi:(480:Int)<(s:Int):=by omega
 have HMS:Hid (min (szP l) 100000=s):=hsm.symm
 clear hv hn hok hsz hs hsm
 go_enter Tryz.func29,Tryz.ntmps29
 go_wp2_with (first
  | (go_at_call 50;refine (gU l n _ HN.out hnl _ HV.out).mono ?_;rintro e w1 ⟨he,hb⟩;rw [HOK.out] at he;subst he;replace hm:=hm.call hb;clear hb)
  | (go_at_call 51;refine (mG l n _ HN.out hnl HSZ.out _ (SlV.below HV.out hm.below)).mono ?_;rintro e w2 ⟨he,hb⟩;rw [HMS.out] at he;subst he;replace hm:=hm.call hb;clear hb))
 go_ret2
 exact ⟨rfl,hm.below⟩
theorem kp (l:List (ByteArray×ByteArray)) (n:Nat) (v:Value) (hn:l.length=n) (hnl:n≤1000) (hok:okPairs l n=true) (hs:szP l≤480) (w:World) (hv:SlP w v l) :
  Calls Tryz.prog 29 #[v] w fun e w'=>∃g,e=.returned (.tuple #[.slice (some ⟨g,0,none⟩) (szP l) (szP l),.int .i64 0])∧w.heap.size≤g∧Row w' g (u8s (leafB l)) 5∧Below w.heap.size w w':=by
 obtain ⟨p,cap,rfl,hcap⟩:=SlV.len hv
 have HV:Hid (SlP w (.slice p l.length cap) l):=hv
 have HN:Hid (l.length=n):=hn
 rw [hn] at hcap HV ⊢
 have hm:=Mem.start w
 have HOK:Hid (okPairs l n=true):=hok
 have hps:=fun i hi=>js (l:=l) (by rw [hn];exact hok) i hi
 have HPS:Hid (∀i,i<n→(l.getD i (noStr,noStr)).1.size≤60∧(l.getD i (noStr,noStr)).2.size≤150):=fun i hi=>hps i (by omega)
 have HSZ:Hid (∀p∈l,p.1.size≤1152921504606846976∧p.2.size≤1152921504606846976):=by
  intro p hp
  obtain ⟨i,hi,he⟩:=List.getElem_of_mem hp
  have h1:=hps i hi
  have h2:l.getD i (noStr,noStr)=p:=by rw [←he];simp [hi]
  rw [h2] at h1
  omega
 have h3:=szP_len l
 obtain ⟨N,hN⟩:∃N:Nat,N=szP l:=⟨_,rfl⟩
 have HNN:Hid (szP l=N):=hN.symm
 have HMS:Hid (min (szP l) 100000=N):=by show _=_;omega
 have hN3:3≤N:=by omega
 have hN4:N≤480:=by omega
 have hsi:¬((480:Int)<(N:Int)):=by omega
 have hn6:n≤65535:=by omega
 obtain ⟨L0,hL0⟩:∃L0:Nat,L0=N - 3:=⟨_,rfl⟩
 have HL0:Hid (N=3+L0):=by show _=_;omega
 have HZE:Hid (List.replicate N (Value.int .u8 0)=u8s ([]++List.replicate N 0)):=by show _=_;simp [u8s]
 rw [←hN]
 clear hv hn hok hs hps h3 hN hL0
 go_enter Tryz.func29,Tryz.ntmps29
 go_wp2_with (first
  | (go_at_call 50;refine (gU l n _ HN.out hnl _ HV.out).mono ?_;rintro e w1 ⟨he,hb⟩;rw [HOK.out] at he;subst he;replace hm:=hm.call hb;clear hb)
  | (go_at_call 51;refine (mG l n _ HN.out hnl HSZ.out _ (SlV.below HV.out hm.below)).mono ?_;rintro e w2 ⟨he,hb⟩;rw [HMS.out] at he;subst he;replace hm:=hm.call hb;clear hb)
  | ((with_reducible refine aa (some 17) (.makeSlice 54 (.tmp 16) (.tmp 16)) ?_);go_must (refine dg _ aq _ aU rfl N rfl (by first|rfl|omega|go_num) rfl (by first|rfl|omega|go_num) (by omega) hm ?_);clear hm;intro w3 g hm;rw [HZE.out] at hm)
  | (go_at_call 53;refine (head_any 1 n hn6 _).mono ?_;rintro e w4 ⟨gh,rfl,hge,hr,hb⟩;replace hm:=hm.callNew hb hr hge;clear hge hr hb)
  | (go_at_call 52;refine (put_any g 0 N L0 3 ([]) ([1]++be2 n) _ HL0.out rfl (by omega) (fun _=>rfl) _ (hm.get 1 rfl) (aE (hm.get 0 rfl) rfl (Nat.le_refl _))).mono ?_;rintro e w5 ⟨o0,rfl,ho2,hr2,hu2⟩;have HOo0:Hid (0<L0→o0=(([])++([1]++be2 n)).length):=ho2;replace hm:=hm.upd 1 rfl hu2 hr2;clear ho2 hr2 hu2))
 replace hm:=hm.tail
 rw [List.nil_append] at HOo0
 go_loopw [6,25] (fun vr vi wr=>∃k:Nat,k≤n∧vi=.int .i64 (k:Int)∧(∃o L:Nat,vr=.slice (some ⟨g,o,none⟩) L L∧Hid (N=szP (l.take k)+L)∧Hid (0<L→o=([1]++be2 n++texts (l.take k)).length)∧Hid (Mem w [] wr [(g,u8s (([1]++be2 n++texts (l.take k))++List.replicate L 0),5)]))) (fun _ vi _=>n - (RowKit.intOf vi).toNat)
 case atStart=>exact ⟨0,by omega,rfl,o0,L0,rfl,HL0.out,by show 0<L0→_;simpa [texts] using HOo0.out,by show Mem _ _ _ _;simpa [texts] using hm⟩
 case round =>
  clear HOo0 HL0 hm
  obtain ⟨k,hk,rfl,o,L,rfl,HL,HO,HM⟩:=hrel
  by_cases hlt:k<n
  ·have hki:(k:Int)<(n:Int):=by omega
   have hm:=HM.out
   obtain ⟨b,off,hp⟩:=SlP.at HV.out HN.out (by omega)
   subst hp
   have HV2:Hid (SlP wr (.slice (some ⟨b,off,none⟩) n cap) l):=SlV.below HV.out hm.below
   obtain ⟨c0,c1⟩:=SlP.cells HN.out HV2.out k hlt
   obtain ⟨hs1,hs2⟩:=HPS.out k hlt
   obtain ⟨kk,hkk⟩:∃x,x=(l.getD k (noStr,noStr)).1:=⟨_,rfl⟩
   obtain ⟨vv,hvv⟩:∃x,x=(l.getD k (noStr,noStr)).2:=⟨_,rfl⟩
   have hle:=lm l (k+1)
   have hst:=szP_take l k (by rw [HN.out];exact hlt)
   have HTX:Hid (texts (l.take (k+1))=texts (l.take k)++(textB kk++textB vv)):=by
    show _=_
    rw [kE l k (noStr,noStr) (by rw [HN.out];exact hlt),texts_append,texts_one,hkk,hvv]
   rw [←hkk] at c0 hs1
   rw [←hvv] at c1 hs2
   rw [psz,←hkk,←hvv] at hst
   rw [HNN.out] at hle
   have hLL:=HL.out
   have HK60:Hid (kk.size≤300):=by show _≤_;omega
   have HV150:Hid (vv.size≤300):=by show _≤_;omega
   obtain ⟨L1,hL1⟩:∃L1:Nat,L1=L - (2+kk.size):=⟨_,rfl⟩
   obtain ⟨L2,hL2⟩:∃L2:Nat,L2=L1 - (2+vv.size):=⟨_,rfl⟩
   have HL1:Hid (L=(2+kk.size)+L1):=by show _=_;omega
   have HL2:Hid (L1=(2+vv.size)+L2):=by show _=_;omega
   have HLS:Hid (N=szP (l.take (k+1))+L2):=by show _=_;omega
   have HC0:Hid (wr.cell? ⟨b,off+k * 2,none⟩=some (.string kk)):=c0
   have HC1:Hid (wr.cell? ⟨b,off+k * 2+1,none⟩=some (.string vv)):=c1
   have tk1:Nat:=0
   have tk2:Nat:=0
   clear c0 c1 hkk hvv hle hst hs1 hs2 hL1 hL2 hLL HM
   go_wp2_with (first
    | ((with_reducible refine aa (some 27) (.indexAddr 28 (.tmp 23) (.tmp 25)) ?_);go_must (refine ae (.pointer (some ⟨b,off+k * 2,none⟩)) rfl (aV k rfl rfl rfl hlt) ?_))
    | ((with_reducible refine aa (some 28) (.load 44 (.tmp 27)) ?_);go_must (refine ae (.agg [.string kk,.string vv].toArray) rfl (bo kk vv rfl HC0.out HC1.out) ?_))
    | ((with_reducible refine aa (some 8) (.alloc 44) ?_);refine af _ bB hm ?_;clear hm;intro w6 g8 hm)
    | ((with_reducible refine aa none (.store 44 (.tmp 8) (.tmp 28)) ?_);refine ag 0 [.string kk,.string vv] hm rfl rfl rfl 2 bA (rfl) (rfl) (by simp [Value.oneCell']) ?_;clear hm;intro w7 hm)
    | ((with_reducible refine aa (some 31) (.load 9 (.tmp 30)) ?_);refine ai 0 0 (.string kk) hm rfl rfl a8 rfl ?_)
    | (go_at_call 54;clear tk1;refine (text_any kk HK60.out _).mono ?_;rintro e w8 ⟨gt,rfl,hge,hr,hb⟩;replace hm:=hm.callNew hb hr hge;clear hge hr hb)
    | (go_at_call 52;clear tk2;refine (put_any g o L L1 (2+kk.size) ([1]++be2 n++texts (l.take k)) (textB kk) _ HL1.out (bF kk) (by omega) HO.out _ (hm.get 2 rfl) (aE (hm.get 0 rfl) (bF kk) (Nat.le_refl _))).mono ?_;rintro e w9 ⟨o1,rfl,ho2,hr2,hu2⟩;have HOo1:Hid (0<L1→o1=(([1]++be2 n++texts (l.take k))++(textB kk)).length):=ho2;replace hm:=hm.upd 2 rfl hu2 hr2;clear ho2 hr2 hu2)
    | ((with_reducible refine aa (some 36) (.load 9 (.tmp 35)) ?_);refine ai 1 1 (.string vv) hm rfl rfl a8 rfl ?_)
    | (go_at_call 54;refine (text_any vv HV150.out _).mono ?_;rintro e w10 ⟨gu,rfl,hge,hr,hb⟩;replace hm:=hm.callNew hb hr hge;clear hge hr hb)
    | (go_at_call 52;refine (put_any g o1 L1 L2 (2+vv.size) (([1]++be2 n++texts (l.take k))++textB kk) (textB vv) _ HL2.out (bF vv) (by omega) HOo1.out _ (hm.get 3 rfl) (aE (hm.get 0 rfl) (bF vv) (Nat.le_refl _))).mono ?_;rintro e w11 ⟨o2,rfl,ho2,hr2,hu2⟩;have HOo2:Hid (0<L2→o2=((([1]++be2 n++texts (l.take k))++textB kk)++(textB vv)).length):=ho2;replace hm:=hm.upd 3 rfl hu2 hr2;clear ho2 hr2 hu2))
   replace hm:=hm.tail.tail.tail
   have hdd:([1]++be2 n++texts (l.take k))++textB kk++textB vv=[1]++be2 n++texts (l.take (k+1)):=by rw [HTX.out];simp only [List.append_assoc]
   have HOF:Hid (0<L2→o2=([1]++be2 n++texts (l.take (k+1))).length):=by rw [←hdd];exact HOo2.out
   have HMF:Hid (Mem w [] w11 [(g,u8s (([1]++be2 n++texts (l.take (k+1)))++List.replicate L2 0),5)]):=by rw [←hdd];exact hm
   clear hdd hm
   go_roundw
   case rel=>exact ⟨k+1,by omega,by go_num,o2,L2,rfl,HLS.out,HOF.out,HMF.out⟩
   case measure=>simp [RowKit.intOf];omega
  ·have hkn:n=k:=by omega
   subst hkn
   have hni:¬(n:Int)<(n:Int):=by omega
   have HT:Hid (l.take n=l):=by show _=_;rw [List.take_of_length_le (by rw [HN.out];exact Nat.le_refl _)]
   have hm:=HM.out
   have hL:=HL.out
   rw [HT.out] at hL hm
   rw [HNN.out] at hL
   have hL0:L=0:=by omega
   have HR:Hid (Row wr g (u8s (leafB l)) 5):=by
    have h9:=hm.get 0 rfl
    rw [hL0,List.replicate_zero,List.append_nil] at h9
    show Row _ _ _ _
    unfold leafB
    rw [HN.out]
    exact h9
   have hf:=hm.fresh _ (List.mem_cons_self ..)
   have HF:Hid (w.heap.size≤g):=by show _≤_;simpa using hf
   have HB:Hid (Below w.heap.size w wr):=hm.below
   clear hL hL0 hf hm HM HL HO
   go_wp2_with fail
   go_ret2
   exact ⟨g,rfl,HF.out,HR.out,HB.out⟩
theorem jP (l:List (ByteArray×ByteArray)) (v:Value) (hnl:l.length≤1000) (hsz:∀p∈l,p.1.size≤1152921504606846976∧p.2.size≤1152921504606846976) (w:World) (hv:SlP w v l) :
  Calls Tryz.prog 29 #[v] w fun e w'=>∃v',e=.returned (.tuple #[v',.int .i64 (leafCode l)])∧SlOld w' v' (leafOut l)∧Below w.heap.size w w':=by
 cases hok:okPairs l l.length with
 | false =>
  have hc:leafCode l=90:=by rw [leafCode,if_pos hok]
  refine (leaf_bad l l.length v rfl hnl hok w hv).mono fun e w' ⟨he,hb⟩=>⟨_,by rw [hc];exact he,?_,hb⟩
  rw [leafOut,hc,if_neg (by decide)]
  exact ⟨none,0,rfl,Nat.le_refl _,fun h=>absurd h (by simp)⟩
 | true =>
  by_cases hs:480<szP l
  ·have hc:leafCode l=11:=by rw [leafCode,if_neg (by rw [hok];simp),if_pos hs]
   refine (leaf_long l l.length v rfl hnl hsz hok hs w hv).mono fun e w' ⟨he,hb⟩=>⟨_,by rw [hc];exact he,?_,hb⟩
   rw [leafOut,hc,if_neg (by decide)]
   exact ⟨none,0,rfl,Nat.le_refl _,fun h=>absurd h (by simp)⟩
  ·have hc:leafCode l=0:=leafCode_of hok (by omega)
   refine (kp l l.length v rfl hnl hok (by omega) w hv).mono fun e w' ⟨g,he,hg,hr,hb⟩=>⟨_,by rw [hc];exact he,?_,hb⟩
   rw [leafOut,if_pos hc]
   exact aE hr (bW l) (Nat.le_refl _)
end Go.Proofs.YtmlbjfklaehjnaaGreatDoor
