import Derived.Deep.LoopGhost
import Derived.Test.YtcibhfcjbokdlaaGreatDoorQt06
import Derived.DeepKeys4
set_option maxRecDepth 100000
set_option maxHeartbeats 4000000
namespace Go.Proofs.YtcibhfcjbokdlaaGreatDoor
open Go Go.RowKit Go.Maps Classical
section
variable {P:Program} {md:Region.Mode} {ops:Array Oper} {R:Act→World→Prop} {T T2:World→Prop} {c fuel:Nat} {listed:Array Bool} {a:Act} {w:World}
theorem cS (i:Nat) {o:Oper} (hr:Region.ready md ops listed=[i]) (hi:ops[i]?=some o) (hg:o.guard=none) (hic:decide (i=c)=false)
  (h:∀K:Act→World→Prop,(∀a' w',T w'→wpAnyC P md ops (endsIn R) c T T2 fuel (listed.setIfInBounds i true) a' w'→K a' w')→wpList P ops (endsIn K) [o] a w):wpAnyC P md ops (endsIn R) c T T2 (fuel+1) listed a w:=by
 refine ⟨fun h0=>absurd (hr▸h0) (by simp),fun j hj=>?_⟩
 rw [hr] at hj
 obtain rfl:j=i:=by simpa using hj
 have hne:¬j=c:=of_decide_eq_false hic
 have hh:=h (fun a' w'=>T w'∧wpAnyC P md ops (endsIn R) c T T2 fuel (listed.setIfInBounds j true) a' w') (fun _ _ h1 h2=>⟨h1,h2⟩)
 simp only [if_neg hne]
 unfold wpOp
 simp only [hi]
 have hw:Region.wanted o (yielded ops a.tmps)=true:=by simp [Region.wanted,hg]
 unfold wpList at hh
 rw [if_pos hw] at hh
 rw [if_pos hw]
 exact hh
end
theorem ce {K:Tm→Prop} {t:Tm} (h:t.l.length≤2):(apartL K t).length≤2:=by
 unfold apartL
 split
 ·split
  ·exact h
  ·split
   ·rw [List.length_drop];omega
   ·simp
 ·simp
theorem dB {K:Tm→Prop} {t:Tm}:(togetherL K t).length≤1:=by
 unfold togetherL
 split<;>simp
theorem Web.len2 {T:List Tm} (h:Web T) {t:Tm} (ht:t∈T):t.l.length≤2:=by
 rw [ok_len (h.ok t ht)]
 unfold kn
 split
 ·exact Nat.le_refl _
 ·split<;>omega
theorem cR {w:World} {base n:Nat} {v:Value} {cs:List Value} (h:w.ownsRow base 3 1 v n cs):∃p c,v=.slice p n c:=by
 obtain ⟨p,c,h1,_⟩:=SlV.len (bK h)
 exact ⟨p,c,h1⟩
theorem last_cell {w:World} {base n b cap q:Nat} {s0:List Nat} (h:w.ownsRow base 3 1 (.slice (some ⟨b,0,none⟩) (n+1) cap) (n+1) (nums (s0++[q]))):w.cell? ⟨b,n,none⟩=some (.int .i64 (q:Int)):=by
 have hl:s0.length=n:=by
  have:=h.1
  rw [aL,List.length_append,List.length_singleton] at this
  omega
 have:=h.cells (g:=b) rfl n (.int .i64 (q:Int)) (by rw [de,List.getElem?_append_right (by rw [aL];omega),aL,hl,Nat.sub_self];rfl)
 rw [aQ,Nat.zero_add] at this
 exact this
theorem own_capC {w:World} {base n b cap:Nat} {cs:List Value} (h:w.ownsRow base 3 1 (.slice (some ⟨b,0,none⟩) n cap) n cs):n≤cap:=by
 obtain ⟨_,h2⟩:=h
 rcases h2 with ⟨h3,_⟩|⟨g',cap',cur,hv,_,_,hn,_⟩
 ·cases h3
 ·simp only [Value.slice.injEq] at hv
  omega
theorem dM:∀(l T:List Tm),l.Nodup→(∀x∈l,x∈T)→l.length≤T.length:=by
 intro l
 induction l with
 | nil=>intro T _ _;exact Nat.zero_le _
 | cons x l ih =>
  intro T hn hs
  obtain ⟨s,u,rfl⟩:=List.append_of_mem (hs x (List.mem_cons_self ..))
  have h1:=ih (s++u) (List.nodup_cons.1 hn).2 (fun y hy=>by
   have h2:=hs y (List.mem_cons_of_mem _ hy)
   rcases List.mem_append.1 h2 with h3|h3
   ·exact List.mem_append.2 (Or.inl h3)
   ·rcases List.mem_cons.1 h3 with rfl|h3
    ·exact absurd hy (List.nodup_cons.1 hn).1
    ·exact List.mem_append.2 (Or.inr h3))
  simp only [List.length_append,List.length_cons] at h1 ⊢
  omega
theorem exec_cutI {a:Act} {w:World} {dst:Option Tmp} {typ:TypeId} {pos:String} {aft:Array Edge} {gd:Option (Nat×Bool)} {x hi:Operand} {b len n cap:Nat} {ih:Int} (hn:n≤cap) (hx:a.eval x=.slice (some ⟨b,0,none⟩) len cap) (hhi:a.eval hi=.int .i64 ih) (hih:ih=(n:Int)) :
  (execOp a.eval {dst:=dst,op:=.slice 41 x none (some hi) none,type:=typ,pos:=pos,after:=aft,guard:=gd}).run Tryz.prog w=.ok (.value (.slice (some ⟨b,0,none⟩) n cap)) w:=by
 have h:=exec_sHi (dst:=dst) (typ:=typ) (pos:=pos) (aft:=aft) (gd:=gd) (w:=w) aU bB n hn hx hhi hih
 have e:cutHi (some ⟨b,0,none⟩) cap=some ⟨b,0,none⟩:=by
  unfold cutHi
  split
  ·rfl
  ·simp [aQ]
 rw [e] at h
 exact h
theorem Le.cut {w0 w:World} {b1 QB dg mk g ns bt ct q:Nat} {vr0 vr:Value} {T RM RR S:List Tm} {n:Tm} {rl s0:List Nat} (h:Le w0 w b1 QB dg mk g vr0 T RM RR (S++[n]) vr (.slice (some ⟨bt,0,none⟩) (ns+1) ct) rl (s0++[q])) (hns:ns=S.length) (hts:NumsOf T s0 S):Le w0 w b1 QB dg mk g vr0 T RM RR S vr (.slice (some ⟨bt,0,none⟩) ns ct) rl s0:=by
 have h1:=h.tod
 rw [List.length_append,List.length_singleton,←hns] at h1
 exact ⟨h.kp,h.der,by rw [←hns];exact cut_ownI h1,hts,fun b hb=>h.sep b hb,h.vrn,h.lt⟩
theorem flat_len (K:Tm→Prop):∀(l:List Tm),(∀x∈l,x.l.length≤2)→(l.flatMap fun w=>apartL K w++togetherL K w).length≤3 * l.length:=by
 intro l
 induction l with
 | nil=>intro _;simp
 | cons x l ih =>
  intro h
  have h1:=ih (fun y hy=>h y (List.mem_cons_of_mem _ hy))
  have h2:=ce (K:=K) (h x (List.mem_cons_self ..))
  have h3:=dB (K:=K) (t:=x)
  simp only [List.flatMap_cons,List.length_append,List.length_cons]
  omega
theorem own_formI {w:World} {base n:Nat} {v:Value} {cs:List Value} (h:w.ownsRow base 3 1 v (n+1) cs):∃b c,v=.slice (some ⟨b,0,none⟩) (n+1) c:=by
 obtain ⟨_,h2⟩:=h
 rcases h2 with ⟨_,h3⟩|⟨b,cap,cur,hv,_⟩
 ·cases h3
 ·exact ⟨b,cap,hv⟩
theorem ei (w:World) (b1 QB dg mk g:Nat) (B:Tm→Prop) (T R:List Tm) (AR:Nat→Option Addr×Nat×List Nat) (m bs cs ba ca AB ln:Nat) (vr0:Value) (rl0 nl:List Nat) (NL:List Tm) (pn:Option Addr) (cn:Nat) (hT:Web T) (hTl:T.length≤100000) (hAB:∀i,(AR i).2.2.length≤AB) (hC:(T.length+1) * (3 * AB+3)≤900000)
  (har:∀i t,T[i]?=some t→∃ws,NumsOf T (AR i).2.2 ws∧∀x,x∈ws↔x∈T∧t∈x.l) (hweb:∀w',Kp dg mk vr0 w w'→WebR w' g T AR m bs cs ba ca) (hd:DerA b1 QB w dg mk g T R R vr0 rl0) (hlr:Lrn B T R []) (hlt:dg<w.heap.size∧mk<w.heap.size∧b1≤w.heap.size) (hQB:QB≤500000)
  (hln:ln=nl.length) (hln4:ln≤100000) (hnn:NumsOf T nl NL) (hnk:∀w',Kp dg mk vr0 w w'→SlN w' (.slice pn ln cn) nl) :
  Calls Tryz.prog 28 #[.pointer (some ⟨dg,0,none⟩),.slice pn ln cn] w fun e w'=>e=.returned (.tuple #[])∧∃(vr':Value) (rl':List Nat) (R':List Tm),DerA b1 QB w' dg mk g T R' R' vr' rl'∧Lrn (fun t=>B t∨t∈NL) T R' []∧Kp dg mk vr0 w w'∧(vr'.ownBlock=vr0.ownBlock∨∃b,vr'.ownBlock=some b∧w.heap.size≤b)∧∃s,R'=R++s:=by
 have HT:Hid (Web T):=hT
 have HQB:Hid (QB≤500000):=hQB
 have HTL:Hid (T.length≤100000):=hTl
 have HABx:Hid (∀i,(AR i).2.2.length≤AB):=hAB
 have HC:Hid ((T.length+1) * (3 * AB+3)≤900000):=hC
 have HAR:Hid (∀i t,T[i]?=some t→∃ws,NumsOf T (AR i).2.2 ws∧∀x,x∈ws↔x∈T∧t∈x.l):=har
 have HWEB:Hid (∀w',Kp dg mk vr0 w w'→WebR w' g T AR m bs cs ba ca):=hweb
 obtain ⟨L,hL⟩:∃L,L=T.length:=⟨_,rfl⟩
 have HLT2:Hid (∀_:Unit,L=T.length):=fun _=>hL
 have HROW:Hid (∀w',Kp dg mk vr0 w w'→Row w' g [.map (some m),.slice (some ⟨bs,0,none⟩) L cs,.slice (some ⟨ba,0,none⟩) L ca] 62):=fun w' hw'=>by rw [hL];exact (hweb w' hw').row
 clear hL
 have HLN:Hid (∀_:Unit,ln=nl.length):=fun _=>hln
 have HNN:Hid (NumsOf T nl NL):=hnn
 have HNK:Hid (∀w',Kp dg mk vr0 w w'→SlN w' (.slice pn ln cn) nl):=hnk
 have HLE0:Hid (Le w w b1 QB dg mk g vr0 T R R [] vr0 (.slice none 0 0) rl0 []):=⟨⟨rfl,rfl,rfl,Nat.le_refl _,fun _ _ _ _ _=>rfl⟩,hd,World.ownsRow_nil _ _ _ _,NumsOf.nil T,fun b hb=>(by cases hb),Or.inl rfl,hlt⟩
 have HLR0:Hid (Lrn (fun t=>B t∨t∈NL.take 0) T R []):=by
  have e:(fun t=>B t∨t∈NL.take 0)=B:=funext fun t=>propext ⟨fun h=>h.resolve_right (by simp),Or.inl⟩
  show Lrn _ _ _ _
  rw [e];exact hlr
 clear hT hTl hAB hC har hweb hd hlr hlt hln hnn hnk hQB
 go_enter Tryz.func28,Tryz.ntmps28
 go_wp2_with fail
 go_loopw [12,4] (fun vi vt wr=>∃(k:Nat) (vr:Value) (rl:List Nat) (R1:List Tm),vi=.int .i64 (k:Int)∧k≤ln∧Hid (Le w wr b1 QB dg mk g vr0 T R1 R1 [] vr vt rl [])∧Hid (Lrn (fun t=>B t∨t∈NL.take k) T R1 [])∧Hid (∃s,R1=R++s)) (fun vi _ _=>ln - (intOf vi).toNat)
 case atStart=>exact ⟨0,vr0,rl0,R,rfl,Nat.zero_le _,HLE0.out,HLR0.out,⟨[],by simp⟩⟩
 case round =>
  clear HLE0 HLR0
  obtain ⟨k,vr,rl,R1,rfl,hk,HLE,HLR,HPX⟩:=hrel
  by_cases hlt:k<ln
  ·have hki:(k:Int)<(ln:Int):=by omega
   obtain ⟨q,hq⟩:∃q,nl[k]?=some q:=⟨_,List.getElem?_eq_getElem (by rw [←HLN.out ()];exact hlt)⟩
   obtain ⟨n0,hn0,hTq⟩:=HNN.out.2 k q hq
   have HLT:Hid (k<ln):=hlt
   obtain ⟨b0,o0,hpn,hcl⟩:∃b o,pn=some ⟨b,o,none⟩∧∀W,Kp dg mk vr0 w W→W.cell? ⟨b,o+k,none⟩=some (.int .i64 (q:Int)):=by
    obtain ⟨b,o,hp,_⟩:=SlV.at (by have h:=HNK.out _ HLE.out.kp;rw [HLN.out ()] at h;exact h) (by have:=HLN.out ();omega)
    refine ⟨b,o,hp,fun W hW=>?_⟩
    obtain ⟨b',o',hp',hs'⟩:=SlV.at (by have h:=HNK.out _ hW;rw [HLN.out ()] at h;exact h) (by have:=HLN.out ();omega)
    rw [hp] at hp'
    simp only [Option.some.injEq,Addr.mk.injEq,and_true] at hp'
    obtain ⟨rfl,rfl⟩:=hp'
    exact hs' k _ (dk hq)
   subst hpn
   have HCL:Hid (∀W,Kp dg mk vr0 w W→W.cell? ⟨b0,o0+k,none⟩=some (.int .i64 (q:Int))):=hcl
   have HQ:Hid (T[q]?=some n0):=hTq
   have HTK:Hid (NL.take (k+1)=NL.take k++[n0]):=by show _=_;rw [List.take_add_one,hn0];rfl
   have HMO:Hid (Lrn (fun t=>B t∨t∈NL.take (k+1)) T R1 [n0]):=by
    have h:=HLR.out.more (List.mem_of_getElem? hTq)
    have e:(fun t=>(B t∨t∈NL.take k)∨t=n0)=fun t=>B t∨t∈NL.take (k+1):=funext fun t=>propext (by rw [HTK.out,List.mem_append,List.mem_singleton];exact ⟨fun h=>h.elim (fun a=>a.elim Or.inl (fun b=>Or.inr (Or.inl b))) (fun a=>Or.inr (Or.inr a)),fun h=>h.elim (fun a=>Or.inl (Or.inl a)) (fun a=>a.elim (fun b=>Or.inl (Or.inr b)) Or.inr)⟩)
    rw [e] at h
    exact h
   obtain ⟨pt,ct,hvt⟩:=cR HLE.out.tod
   subst hvt
   have hm:=Mem.start wr
   clear hq hn0 hTq hcl hlt HLR
   go_wp2_with (first
    | ((with_reducible refine af (some 14) (.indexAddr 41 (.tmp 10) (.tmp 12)) ?_);go_must (refine aa (.pointer (some ⟨b0,o0+k,none⟩)) rfl (a8 k rfl rfl rfl HLT.out) ?_))
    | ((with_reducible refine af (some 15) (.load 3 (.tmp 14)) ?_);go_must (refine aa (.int .i64 (q:Int)) rfl (ad (.int .i64 (q:Int)) (HCL.out _ (HLE.out.below hm.below).kp) rfl ag) ?_))
    | ((with_reducible refine af (some 18) (.buildSlice 41 1 #[(0,.tmp 17)]) ?_);go_must (refine bL rfl (.int .i64 0) (.int .i64 (q:Int)) aU bV rfl rfl rfl hm ?_);clear hm;intro w3 g3 hb3 hm;clear hb3)
    | ((with_reducible refine af (some 19) (.call {callee:=.builtin .append,args:=#[.tmp 16,.tmp 18],argTypes:=#[41,41]}) ?_);go_must (refine cA rfl (HLE.out.below hm.below).tod (sln_one (hm.get 0 rfl)) rfl (by simp) (HLE.out.below hm.below).kp.size rfl rfl ?_);intro v4 w4 ho4 hg4 hl4;have HLE4:Hid (Le w w4 b1 QB dg mk g vr0 T R1 R1 ([]++[n0]) vr v4 rl ([]++[q])):=(HLE.out.below hm.below).push ho4 hg4 hl4 ((NumsOf.nil T).snoc HQ.out);clear ho4 hg4 hl4 hm HLE))
   have HNK0:Hid ((T.length - R1.length) * (3 * AB+3)+1≤900000):=by
    show _≤_
    have h1:=HC.out
    have h2:(T.length - R1.length) * (3 * AB+3)≤T.length * (3 * AB+3):=Nat.mul_le_mul_right _ (Nat.sub_le _ _)
    have h3:(T.length+1) * (3 * AB+3)=T.length * (3 * AB+3)+(3 * AB+3):=by rw [Nat.add_mul,Nat.one_mul]
    omega
   go_loopg [4] ((T.length - R1.length) * (3 * AB+3)+1) (fun gq vt wr=>∃(vr:Value) (rl sl:List Nat) (R1 S:List Tm),Hid (Le w wr b1 QB dg mk g vr0 T R1 R1 S vr vt rl sl)∧Hid (Lrn (fun t=>B t∨t∈NL.take (k+1)) T R1 S)∧Hid (∃s,R1=R++s)∧Hid ((T.length - R1.length) * (3 * AB+3)+S.length≤gq∧gq≤900000))
   case atStart=>exact ⟨vr,rl,_,R1,[n0],HLE4.out,HMO.out,HPX.out,Nat.le_refl _,HNK0.out⟩
   case round =>
    clear HLE4 HMO HPX HNK0
    obtain ⟨vr,rl,sl,R1,S,HLE,HLR,HPX,HGQ⟩:=hrel
    rcases List.eq_nil_or_concat S with hS|⟨S0,n,hS⟩
    ·subst hS
     obtain ⟨pt,ct,hvt⟩:=cR HLE.out.tod
     have hsl:sl=[]:=List.eq_nil_of_length_eq_zero (by have:=HLE.out.tn.1;simpa using this)
     subst hsl hvt
     clear HGQ
     go_wp2_with fail
     go_roundw
     case rel=>exact ⟨k+1,vr,rl,R1,by go_num,by have:=HLT.out;omega,HLE.out,HLR.out,HPX.out⟩
     case measure=>have:=HLT.out;simp [intOf];omega
    ·rw [List.concat_eq_append] at hS
     subst hS
     obtain ⟨s0,q9,hsl,hts,hTq9⟩:=HLE.out.tn.last
     subst hsl
     obtain ⟨ns,hns⟩:∃ns,ns=S0.length:=⟨_,rfl⟩
     obtain ⟨bt,ct,hvt⟩:∃b c,u4=.slice (some ⟨b,0,none⟩) (ns+1) c:=by
      have h:=HLE.out.tod
      rw [List.length_append,List.length_singleton,←hns] at h
      exact own_formI h
     subst hvt
     have hlc:wr.cell? ⟨bt,ns,none⟩=some (.int .i64 (q9:Int)):=by
      have h:=HLE.out.tod
      rw [List.length_append,List.length_singleton,←hns] at h
      exact last_cell h
     have hcap:ns+1≤ct:=by
      have h:=HLE.out.tod
      rw [List.length_append,List.length_singleton,←hns] at h
      exact own_capC h
     have HLC:Hid (wr.cell? ⟨bt,ns,none⟩=some (.int .i64 (q9:Int))):=hlc
     have HCUT:Hid (Le w wr b1 QB dg mk g vr0 T R1 R1 S0 vr (.slice (some ⟨bt,0,none⟩) ns ct) rl s0):=HLE.out.cut hns hts
     have HQ9:Hid (T[q9]?=some n):=hTq9
     have HG2:Hid ((T.length - R1.length) * (3 * AB+3)+(ns+1)≤gk∧gk≤900000):=by
      have h:=HGQ.out
      rw [List.length_append,List.length_singleton,←hns] at h
      exact h
     have HNS:Hid (∀_:Unit,ns=S0.length):=fun _=>hns
     have hq9:q9≤100000:=by have h1:=(List.getElem?_eq_some_iff.1 hTq9).1;have h2:=HTL.out;omega
     have hns4:ns≤900000:=by have:=HG2.out;omega
     obtain ⟨nv,hnv⟩:∃nv,nv=ns+1:=⟨_,rfl⟩
     have hgt:(0:Int)<(nv:Int):=by omega
     have hw1:IntKind.i64.wrap ((nv:Int) - 1)=(ns:Int):=(bm _ (by omega) (by omega)).trans (by omega)
     have hlt1:ns<nv:=by omega
     have hcap2:ns≤ct:=by omega
     rw [←hnv]
     clear HLE HGQ hns hnv hlc hts hTq9 hcap
     have hm:=Mem.start wr
     by_cases hin:n∈R1
     ·have HH:Hid (∀W,Below wr.heap.size wr W→Calls Tryz.prog 29 #[.pointer (some ⟨dg,0,none⟩),.int .i64 (q9:Int)] W fun e w'=>e=.returned (.bool true)∧Below W.heap.size W w'):=fun W hW=>bc W dg mk g q9 T R1 n true (HCUT.out.below hW).der.rd hq9 HQ9.out (by simp [hin])
      have HSK:Hid (Lrn (fun t=>B t∨t∈NL.take (k+1)) T R1 S0):=HLR.out.skip hin
      clear hin HLR
      go_wp2_with (first
       | ((with_reducible refine af (some 27) (.indexAddr 41 (.tmp 23) (.tmp 26)) ?_);go_must (refine aa (.pointer (some ⟨bt,0+ns,none⟩)) rfl (a8 ns rfl rfl rfl hlt1) ?_))
       | ((with_reducible refine af (some 28) (.load 3 (.tmp 27)) ?_);go_must (refine aa (.int .i64 (q9:Int)) rfl (ad (.int .i64 (q9:Int)) (by rw [Nat.zero_add];exact HLC.out) rfl ag) ?_))
       | ((with_reducible refine af (some 33) (.slice 41 (.tmp 29) none (some (.tmp 32)) none) ?_);go_must (refine aa (.slice (some ⟨bt,0,none⟩) ns ct) rfl (exec_cutI hcap2 rfl rfl rfl) ?_))
       | (go_at_call 29;go_must (refine (HH.out _ hm.below).mono ?_);rintro e w5 ⟨he,hb⟩;subst he;replace hm:=hm.call hb;clear hb))
      go_roundg ((T.length - R1.length) * (3 * AB+3)+ns)
      case measure=>have:=HG2.out;omega
      case rel=>exact ⟨vr,rl,s0,R1,S0,HCUT.out.below hm.below,HSK.out,HPX.out,by rw [HNS.out ()];exact Nat.le_refl _,by have:=HG2.out;omega⟩
     ·have HH:Hid (∀W,Below wr.heap.size wr W→Calls Tryz.prog 29 #[.pointer (some ⟨dg,0,none⟩),.int .i64 (q9:Int)] W fun e w'=>e=.returned (.bool false)∧Below W.heap.size W w'):=fun W hW=>bc W dg mk g q9 T R1 n false (HCUT.out.below hW).der.rd hq9 HQ9.out (by simp [hin])
      obtain ⟨ws,hws,hwm⟩:=HAR.out q9 n HQ9.out
      have HTA:Hid (Lrn (fun t=>B t∨t∈NL.take (k+1)) T (R1++[n]) (S0++(apartL (· ∈ R1++[n]) n++ws.flatMap fun w=>apartL (· ∈ R1++[n]) w++togetherL (· ∈ R1++[n]) w))):=HLR.out.take HT.out hin hwm
      have HPX2:Hid (∃s,R1++[n]=R++s):=by
       obtain ⟨s,hs⟩:=HPX.out
       exact ⟨s++[n],by rw [hs,List.append_assoc]⟩
      have HRL:Hid (R1.length<T.length):=by
       have h:=dM (R1++[n]) T HTA.out.nd (fun x hx=>HTA.out.inT x (Or.inl hx))
       rw [List.length_append,List.length_singleton] at h
       exact h
      have HWS:Hid (NumsOf T (AR q9).2.2 ws):=hws
      have HWX:Hid (∀x∈ws,x∈T):=fun x hx=>((hwm x).1 hx).1
      have HN:Hid (n∈T):=List.mem_of_getElem? HQ9.out
      have HBIG:Hid (ns+3 * AB+10≤900100):=by
       show _≤_
       have h1:=HG2.out
       have h2:=HRL.out
       have h3:1 * (3 * AB+3)≤(T.length - R1.length) * (3 * AB+3):=Nat.mul_le_mul_right _ (by omega)
       omega
      obtain ⟨la,hla⟩:∃la,la=(AR q9).2.2.length:=⟨_,rfl⟩
      have HLA:Hid (∀_:Unit,la=(AR q9).2.2.length):=fun _=>hla
      have HLAB:Hid (la≤AB):=by rw [hla];exact HABx.out q9
      have HQL:Hid (q9<L):=by
       have h1:=(List.getElem?_eq_some_iff.1 HQ9.out).1
       rw [←HLT2.out ()] at h1
       exact h1
      obtain ⟨pa,hpa⟩:∃pa,pa=(AR q9).1:=⟨_,rfl⟩
      obtain ⟨cc,hcc⟩:∃cc,cc=(AR q9).2.1:=⟨_,rfl⟩
      have HAR9:Hid (∀w',Kp dg mk vr0 w w'→w'.cell? ⟨ba,q9,none⟩=some (.slice pa la cc)∧SlN w' (.slice pa la cc) (AR q9).2.2):=fun w' hw'=>by
       have h:=(HWEB.out w' hw').ar q9 (by have:=HQL.out;rw [HLT2.out ()] at this;exact this)
       rw [←hpa,←hcc,←hla] at h
       refine ⟨h.1,?_⟩
       show SlV 1 w' _ _ _
       rw [←hla]
       exact h.2
      clear hla hpa hcc
      clear hin HLR HPX hws hwm
      go_wp2_with (first
       | ((with_reducible refine af (some 27) (.indexAddr 41 (.tmp 23) (.tmp 26)) ?_);go_must (refine aa (.pointer (some ⟨bt,0+ns,none⟩)) rfl (a8 ns rfl rfl rfl hlt1) ?_))
       | ((with_reducible refine af (some 28) (.load 3 (.tmp 27)) ?_);go_must (refine aa (.int .i64 (q9:Int)) rfl (ad (.int .i64 (q9:Int)) (by rw [Nat.zero_add];exact HLC.out) rfl ag) ?_))
       | ((with_reducible refine af (some 33) (.slice 41 (.tmp 29) none (some (.tmp 32)) none) ?_);go_must (refine aa (.slice (some ⟨bt,0,none⟩) ns ct) rfl (exec_cutI hcap2 rfl rfl rfl) ?_))
       | (go_at_call 29;go_must (refine (HH.out _ hm.below).mono ?_);rintro e w5 ⟨he,hb⟩;subst he;replace hm:=hm.call hb;clear hb)
       | ((with_reducible refine af (some 40) (.load 50 (.tmp 39)) ?_);go_must (refine aa (.map (some mk)) rfl (ad (.map (some mk)) ((HCUT.out.below hm.below).der.row.cell 1) rfl fg) ?_))
       | ((with_reducible refine af none (.mapUpdate 50 (.tmp 40) (.tmp 41) (.tmp 42)) ?_);have le:=HCUT.out.below hm.below;obtain ⟨qk,hqk,hk0⟩:=le.der.km;obtain ⟨kl,hkl⟩:=int_of q9 hq9;go_must (refine wpl_kmPut hk0 eK eI (by have h1:=HRL.out;have h2:=HTL.out;have h3:=HQB.out;omega) hkl rfl rfl rfl ?_);intro w6 st6 hu6;have HLE6:Hid (Le w w6 b1 QB dg mk g vr0 T (R1++[n]) R1 S0 vr (.slice (some ⟨bt,0,none⟩) ns ct) rl s0):=le.know hqk HQ9.out st6 hu6 hk0.isMap HT.out.nd;clear le hk0 st6 hu6 hm hkl hqk HCUT;have hm:=Mem.start w6)
       | ((with_reducible refine af (some 47) (.load 41 (.tmp 46)) ?_);go_must (refine aa vr rfl (ad vr ((HLE6.out.below hm.below).der.row.cell 2) rfl bC) ?_))
       | ((with_reducible refine af (some 49) (.buildSlice 41 1 #[(0,.tmp 48)]) ?_);go_must (refine bL rfl (.int .i64 0) (.int .i64 (q9:Int)) aU bV rfl rfl rfl hm ?_);clear hm;intro wb g7 hb7 hm;have HBb:Hid (Below w6.heap.size w6 wb):=hm.below;have HR7:Hid (Row wb g7 [.int .i64 (q9:Int)] 3):=hm.get 0 rfl;clear hb7)
       | ((with_reducible refine af (some 50) (.call {callee:=.builtin .append,args:=#[.tmp 47,.tmp 49],argTypes:=#[41,41]}) ?_);go_must (refine cA rfl (HLE6.out.below HBb.out).der.own (sln_one HR7.out) rfl (by have h1:=HRL.out;have h2:=HTL.out;simp;omega) (Nat.le_trans HLE6.out.lt.2.2 (Nat.le_trans HLE6.out.kp.size HBb.out.size)) rfl rfl ?_);intro v8 w8 ho8 hg8 hl8;obtain ⟨p8,c8,hv8⟩:=cR ho8;obtain ⟨n8,hn8⟩:∃n8,n8=R1.length+[q9].length:=⟨_,rfl⟩;rw [←hn8] at hv8;subst hv8;have HT8:Hid (Row w8 dg [.pointer (some ⟨g,0,none⟩),.map (some mk),vr] 52):=bu (HLE6.out.below HBb.out).der.row (bn (HLE6.out.below HBb.out).der.own (HLE6.out.below HBb.out).der.row (by decide)) hg8;have HPK:Hid (w8.ownsRow b1 3 1 (.slice p8 n8 c8) (R1.length+[q9].length) (nums (rl++[q9]))∧wb.grownBy w8 vr.ownBlock∧((Value.slice p8 n8 c8).ownBlock=vr.ownBlock∨(Value.slice p8 n8 c8).ownBlock=some wb.heap.size)):=⟨ho8,hg8,hl8⟩;clear ho8 hg8 hl8 hn8 hm)
       | ((with_reducible refine af none (.store 41 (.tmp 52) (.tmp 50)) ?_);go_must (refine bW 0 2 (.slice p8 n8 c8) (Mem.enter HT8.out) rfl rfl rfl e6 (by show 2<3;omega) rfl rfl ?_);intro w9 hu9 hm9;have HLE9:Hid (Le w w9 b1 QB dg mk g vr0 T (R1++[n]) (R1++[n]) S0 (.slice p8 n8 c8) (.slice (some ⟨bt,0,none⟩) ns ct) (rl++[q9]) s0):=HLE6.out.rowed HQ9.out HBb.out HPK.out.1 HPK.out.2.1 HPK.out.2.2 hu9 (hm9.get 0 rfl);clear hu9 HPK HLE6 HR7 HBb HT8;clear hm9;have hm:=Mem.start w9)
       | (go_at_call 43;refine (apart_any _ dg mk g q9 T (R1++[n]) AR m bs cs ba ca _ HT.out HTL.out (HWEB.out _ (HLE9.out.below hm.below).kp) (HLE9.out.below hm.below).der.rd HQ9.out).mono ?_;rintro e w10 ⟨v,ql,he,hs,hq,hb⟩;obtain ⟨pv,cv,hv,_⟩:=SlV.len hs;obtain ⟨nq,hnq⟩:∃nq,nq=ql.length:=⟨_,rfl⟩;rw [←hnq] at hv;subst hv;subst he;replace hm:=hm.call hb;have HSN:Hid (SlN w10 (.slice pv nq cv) ql∧nq=ql.length):=⟨hs,hnq⟩;have HNQ:Hid (NumsOf T ql _):=hq;clear hb hs hq hnq)
       | ((with_reducible refine af (some 57) (.call {callee:=.builtin .append,args:=#[.tmp 53,.tmp 56],argTypes:=#[41,41]}) ?_);go_must (refine cA rfl (HLE9.out.below hm.below).tod HSN.out.1 HSN.out.2 (by have h1:=HBIG.out;have h2:=HNQ.out.1;have h3:=ce (K:=(· ∈ R1++[n])) (HT.out.len2 HN.out);have h4:=HNS.out ();omega) (HLE9.out.below hm.below).kp.size rfl rfl ?_);intro v11 w11 ho hg hl;have HLE11:Hid (∃sl,Le w w11 b1 QB dg mk g vr0 T (R1++[n]) (R1++[n]) (S0++apartL (· ∈ R1++[n]) n) (.slice p8 n8 c8) v11 (rl++[q9]) sl):=⟨_,(HLE9.out.below hm.below).push ho hg hl HNQ.out⟩;clear ho hg hl hm HSN HNQ HLE9;have hm:=Mem.start w11)
       | ((with_reducible refine af (some 61) (.load 39 (.tmp 60)) ?_);obtain ⟨slx,lex⟩:=HLE11.out;go_must (refine aa (.pointer (some ⟨g,0,none⟩)) rfl (ad (.pointer (some ⟨g,0,none⟩)) ((lex.below hm.below).der.row.cell 0) rfl bD) ?_);clear lex)
       | ((with_reducible refine af (some 64) (.load 60 (.tmp 63)) ?_);obtain ⟨slx,lex⟩:=HLE11.out;go_must (refine aa (.slice (some ⟨ba,0,none⟩) L ca) rfl (ad (.slice (some ⟨ba,0,none⟩) L ca) ((HROW.out _ (lex.below hm.below).kp).cell 2) rfl da) ?_);clear lex)
       | ((with_reducible refine af (some 66) (.indexAddr 60 (.tmp 64) (.tmp 65)) ?_);go_must (refine aa (.pointer (some ⟨ba,q9,none⟩)) rfl (eu q9 rfl rfl rfl HQL.out) ?_))
       | ((with_reducible refine af (some 67) (.load 41 (.tmp 66)) ?_);obtain ⟨slx,lex⟩:=HLE11.out;go_must (refine aa (.slice pa la cc) rfl (ad (.slice pa la cc) (HAR9.out _ (lex.below hm.below).kp).1 rfl bC) ?_);clear lex))
      have HLEa:Hid (∃sl,Le w w11 b1 QB dg mk g vr0 T (R1++[n]) (R1++[n]) (S0++(apartL (· ∈ R1++[n]) n++(ws.take 0).flatMap fun w=>apartL (· ∈ R1++[n]) w++togetherL (· ∈ R1++[n]) w)) (.slice p8 n8 c8) v11 (rl++[q9]) sl):=by
       show ∃sl,Le _ _ _ _ _ _ _ _ _ _ _ _ _ _ _ sl
       simpa using HLE11.out
      clear hm HLE11
      go_loopw [69,4] (fun vj vt wr=>∃(j:Nat),vj=.int .i64 (j:Int)∧j≤la∧Hid (∃sl,Le w wr b1 QB dg mk g vr0 T (R1++[n]) (R1++[n]) (S0++(apartL (· ∈ R1++[n]) n++(ws.take j).flatMap fun w=>apartL (· ∈ R1++[n]) w++togetherL (· ∈ R1++[n]) w)) (.slice p8 n8 c8) vt (rl++[q9]) sl)) (fun vj _ _=>la - (intOf vj).toNat)
      case atStart=>exact ⟨0,rfl,Nat.zero_le _,HLEa.out⟩
      case round =>
       clear HLEa
       obtain ⟨j,rfl,hj,HLJ⟩:=hrel
       obtain ⟨slj,hlej⟩:=HLJ.out
       obtain ⟨SJ,hSJ⟩:∃SJ,SJ=S0++(apartL (· ∈ R1++[n]) n++(ws.take j).flatMap fun w=>apartL (· ∈ R1++[n]) w++togetherL (· ∈ R1++[n]) w):=⟨_,rfl⟩
       rw [←hSJ] at hlej
       have HSJ:Hid (∀_:Unit,SJ=S0++(apartL (· ∈ R1++[n]) n++(ws.take j).flatMap fun w=>apartL (· ∈ R1++[n]) w++togetherL (· ∈ R1++[n]) w)):=fun _=>hSJ
       have HLW:Hid (la=ws.length):=by
        show _=_
        rw [HLA.out (),HWS.out.1]
       have HSL:Hid (SJ.length≤ns+2+3 * j):=by
        show _≤_
        have h1:=flat_len (· ∈ R1++[n]) (ws.take j) (fun x hx=>HT.out.len2 (HWX.out x (List.mem_of_mem_take hx)))
        have h2:=ce (K:=(· ∈ R1++[n])) (HT.out.len2 HN.out)
        have h3:(ws.take j).length≤j:=by rw [List.length_take];exact Nat.min_le_left _ _
        have h4:=HNS.out ()
        rw [hSJ,List.length_append,List.length_append]
        omega
       have HLJ2:Hid (Le w wr b1 QB dg mk g vr0 T (R1++[n]) (R1++[n]) SJ (.slice p8 n8 c8) u4 (rl++[q9]) slj):=hlej
       clear hlej hSJ HLJ
       by_cases hlj:j<la
       ·have hji:(j:Int)<(la:Int):=by omega
        obtain ⟨qx,hqx⟩:∃q,(AR q9).2.2[j]?=some q:=⟨_,List.getElem?_eq_getElem (by rw [←HLA.out ()];exact hlj)⟩
        obtain ⟨x,hx,hTx⟩:=HWS.out.2 j qx hqx
        obtain ⟨bb,oo,hpb,hcl⟩:∃b o,pa=some ⟨b,o,none⟩∧∀W,Kp dg mk vr0 w W→W.cell? ⟨b,o+j,none⟩=some (.int .i64 (qx:Int)):=by
         obtain ⟨b,o,hp,_⟩:=SlV.at (by have h:=(HAR9.out _ HLJ2.out.kp).2;rw [HLA.out ()] at h;exact h) (by have:=HLA.out ();omega)
         refine ⟨b,o,hp,fun W hW=>?_⟩
         obtain ⟨b',o',hp',hs'⟩:=SlV.at (by have h:=(HAR9.out _ hW).2;rw [HLA.out ()] at h;exact h) (by have:=HLA.out ();omega)
         rw [hp] at hp'
         simp only [Option.some.injEq,Addr.mk.injEq,and_true] at hp'
         obtain ⟨rfl,rfl⟩:=hp'
         exact hs' j _ (dk hqx)
        subst hpb
        have HCX:Hid (∀W,Kp dg mk vr0 w W→W.cell? ⟨bb,oo+j,none⟩=some (.int .i64 (qx:Int))):=hcl
        have HQX:Hid (T[qx]?=some x):=hTx
        have HX:Hid (ws[j]?=some x):=hx
        have HLJa:Hid (j<la):=hlj
        have HX2:Hid (x.l.length≤2):=HT.out.len2 (List.mem_of_getElem? hTx)
        have hj4:j≤1000000:=by have h1:=HBIG.out;have h2:=HLAB.out;omega
        have hm:=Mem.start wr
        clear hqx hx hTx hcl hlj
        go_wp2_with (first
         | ((with_reducible refine af (some 71) (.indexAddr 41 (.tmp 67) (.tmp 69)) ?_);go_must (refine aa (.pointer (some ⟨bb,oo+j,none⟩)) rfl (a8 j rfl rfl rfl HLJa.out) ?_))
         | ((with_reducible refine af (some 72) (.load 3 (.tmp 71)) ?_);go_must (refine aa (.int .i64 (qx:Int)) rfl (ad (.int .i64 (qx:Int)) (HCX.out _ (HLJ2.out.below hm.below).kp) rfl ag) ?_))
         | (go_at_call 43;refine (apart_any _ dg mk g qx T (R1++[n]) AR m bs cs ba ca _ HT.out HTL.out (HWEB.out _ (HLJ2.out.below hm.below).kp) (HLJ2.out.below hm.below).der.rd HQX.out).mono ?_;rintro e w21 ⟨v,ql,he,hs,hq,hb⟩;obtain ⟨pv,cv,hv,_⟩:=SlV.len hs;obtain ⟨nq,hnq⟩:∃nq,nq=ql.length:=⟨_,rfl⟩;rw [←hnq] at hv;subst hv;subst he;replace hm:=hm.call hb;have HSN:Hid (SlN w21 (.slice pv nq cv) ql∧nq=ql.length):=⟨hs,hnq⟩;have HNQ:Hid (NumsOf T ql _):=hq;clear hb hs hq hnq)
         | ((with_reducible refine af (some 77) (.call {callee:=.builtin .append,args:=#[.tmp 73,.tmp 76],argTypes:=#[41,41]}) ?_);go_must (refine cA rfl (HLJ2.out.below hm.below).tod HSN.out.1 HSN.out.2 (by have h1:=HBIG.out;have h2:=HNQ.out.1;have h3:=ce (K:=(· ∈ R1++[n])) HX2.out;have h4:=HSL.out;have h5:=HLAB.out;have h6:=HLJa.out;omega) (HLJ2.out.below hm.below).kp.size rfl rfl ?_);intro v22 w22 ho hg hl;have HLJ3:Hid (Le w w22 b1 QB dg mk g vr0 T (R1++[n]) (R1++[n]) (SJ++apartL (· ∈ R1++[n]) x) (.slice p8 n8 c8) v22 (rl++[q9]) (slj++ql)):=(HLJ2.out.below hm.below).push ho hg hl HNQ.out;clear ho hg hl hm HSN HNQ HLJ2;have hm:=Mem.start w22)
         | (go_at_call 44;refine (together_any _ dg mk g qx T (R1++[n]) AR m bs cs ba ca _ HT.out HTL.out (HWEB.out _ (HLJ3.out.below hm.below).kp) (HLJ3.out.below hm.below).der.rd HQX.out).mono ?_;rintro e w23 ⟨v,ql,he,hs,hq,hb⟩;obtain ⟨pv,cv,hv,_⟩:=SlV.len hs;obtain ⟨nq,hnq⟩:∃nq,nq=ql.length:=⟨_,rfl⟩;rw [←hnq] at hv;subst hv;subst he;replace hm:=hm.call hb;have HSN:Hid (SlN w23 (.slice pv nq cv) ql∧nq=ql.length):=⟨hs,hnq⟩;have HNQ:Hid (NumsOf T ql _):=hq;clear hb hs hq hnq)
         | ((with_reducible refine af (some 82) (.call {callee:=.builtin .append,args:=#[.tmp 78,.tmp 81],argTypes:=#[41,41]}) ?_);go_must (refine cA rfl (HLJ3.out.below hm.below).tod HSN.out.1 HSN.out.2 (by have h1:=HBIG.out;have h2:=HNQ.out.1;have h3:=dB (K:=(· ∈ R1++[n])) (t:=x);have h7:=ce (K:=(· ∈ R1++[n])) HX2.out;have h4:=HSL.out;have h5:=HLAB.out;have h6:=HLJa.out;rw [List.length_append];omega) (HLJ3.out.below hm.below).kp.size rfl rfl ?_);intro v24 w24 ho hg hl;have HLJ4:Hid (∃sl,Le w w24 b1 QB dg mk g vr0 T (R1++[n]) (R1++[n]) ((SJ++apartL (· ∈ R1++[n]) x)++togetherL (· ∈ R1++[n]) x) (.slice p8 n8 c8) v24 (rl++[q9]) sl):=⟨_,(HLJ3.out.below hm.below).push ho hg hl HNQ.out⟩;clear ho hg hl hm HSN HNQ HLJ3))
        go_roundw
        case rel =>
         refine ⟨j+1,by go_num,by have:=HLJa.out;omega,?_⟩
         have e:S0++(apartL (· ∈ R1++[n]) n++(ws.take (j+1)).flatMap fun w=>apartL (· ∈ R1++[n]) w++togetherL (· ∈ R1++[n]) w)=(SJ++apartL (· ∈ R1++[n]) x)++togetherL (· ∈ R1++[n]) x:=by
          rw [List.take_add_one,HX.out,Option.toList_some,List.flatMap_append,HSJ.out ()]
          simp [List.append_assoc]
         show ∃sl,Le _ _ _ _ _ _ _ _ _ _ _ _ _ _ _ sl
         rw [e]
         exact HLJ4.out
        case measure=>have:=HLJa.out;simp [intOf];omega
       ·have hje:j=la:=by omega
        subst hje
        have hji:¬(j:Int)<(j:Int):=by omega
        clear hlj
        go_wp2_with fail
        go_roundg ((T.length - (R1++[n]).length) * (3 * AB+3)+SJ.length)
        case measure =>
         have h1:=HG2.out.1
         have h2:=HRL.out
         have h3:=HSL.out
         have h4:=HLAB.out
         have e:(T.length - R1.length) * (3 * AB+3)=(T.length - (R1.length+1)) * (3 * AB+3)+(3 * AB+3):=by
          rw [show T.length - R1.length=(T.length - (R1.length+1))+1 by omega,Nat.add_mul,Nat.one_mul]
         rw [List.length_append,List.length_singleton]
         omega
        case rel =>
         refine ⟨.slice p8 n8 c8,rl++[q9],slj,R1++[n],SJ,HLJ2.out,?_,HPX2.out,Nat.le_refl _,?_⟩
         ·have h:=HTA.out
          have e:ws.take j=ws:=List.take_of_length_le (by have:=HLW.out;omega)
          have h2:=HSJ.out ()
          rw [e] at h2
          show Lrn _ _ _ _
          rw [h2]
          exact h
         ·have h1:=HG2.out
          have h2:=HRL.out
          have h3:=HSL.out
          have h4:=HLAB.out
          have e:(T.length - R1.length) * (3 * AB+3)=(T.length - (R1.length+1)) * (3 * AB+3)+(3 * AB+3):=by
           rw [show T.length - R1.length=(T.length - (R1.length+1))+1 by omega,Nat.add_mul,Nat.one_mul]
          rw [List.length_append,List.length_singleton]
          omega
  ·have hkn:k=ln:=by omega
   subst hkn
   have hki:¬(k:Int)<(k:Int):=by omega
   have HRES:Hid (DerA b1 QB wr dg mk g T R1 R1 vr rl∧Lrn (fun t=>B t∨t∈NL) T R1 []∧Kp dg mk vr0 w wr∧(vr.ownBlock=vr0.ownBlock∨∃b,vr.ownBlock=some b∧w.heap.size≤b)):=by
    refine ⟨HLE.out.der,?_,HLE.out.kp,HLE.out.vrn⟩
    have h:=HLR.out
    rw [List.take_of_length_le (by have:=HLN.out ();have:=HNN.out.1;omega)] at h
    exact h
   clear hlt HLE HLR
   go_wp2_with fail
   go_end0
   exact ⟨rfl,vr,rl,R1,HRES.out.1,HRES.out.2.1,HRES.out.2.2.1,HRES.out.2.2.2,HPX.out⟩
open Go Go.RowKit Go.Maps
theorem sh_laid:laidOutB Tryz.prog=true:=by kernel_rfl
theorem sh_row:(65:TypeId)<Tryz.prog.types.size:=of_decide_eq_true (by kernel_rfl)
theorem sh_wide:(match Tryz.prog.underlying 65 with|some (.array _ _)|some (.struct _)=>true|_=>false)=true:=by kernel_rfl
theorem sh_law:Keyed Tryz.prog 65:=Keyed.of_law (deep_law_laid sh_laid (m:=3) (by omega) sh_row (by kernel_rfl) sh_wide)
theorem sh_type:Tryz.prog.keyType 65=true:=by kernel_rfl
theorem sh_cells:Tryz.prog.cellsOf 65=5:=by kernel_rfl
theorem two_cells:Tryz.prog.cellsOf 63=2:=by kernel_rfl
theorem int_cells:Tryz.prog.cellsOf 3=1:=by kernel_rfl
theorem un_wnum:Tryz.prog.underlying 58=some (.map 65 3):=Tryz.underlying58
theorem types_someC:∃n,Tryz.prog.types.size=n+1:=⟨Tryz.prog.types.size - 1,by have h:(65:Nat)<Tryz.prog.types.size:=sh_row;omega⟩
def shc (k n c q0 q1:Int):List Value:=[.int .i64 k,.int .i64 n,.int .i64 c,.int .i64 q0,.int .i64 q1]
theorem small_wf {x:Int} (h : -1000000≤x∧x≤1000000):(Lit.int .i64 x).wf=true:=by
 have h1:=wrap64_wf x
 rwa [show wrap64 x=x by unfold wrap64;omega] at h1
theorem dY (d:Nat) {x:Int} (h : -1000000≤x∧x≤1000000):Tryz.prog.keyLits (d+1) 3 [.int .i64 x]=some [.int .i64 x]:=by
 unfold Program.keyLits
 simp only [Tryz.underlying3]
 exact if_pos (by simp [small_wf h])
theorem two_lit (d:Nat) {x y:Int} (h : -1000000≤x∧x≤1000000) (h2 : -1000000≤y∧y≤1000000):Tryz.prog.keyLits (d+2) 63 [.int .i64 x,.int .i64 y]=some [.int .i64 x,.int .i64 y]:=by
 unfold Program.keyLits
 simp only [Tryz.underlying63]
 rw [if_pos (by rw [two_cells];rfl)]
 simp only [int_cells,Nat.mul_one,List.range,List.range.loop,List.mapM_cons,List.mapM_nil,List.drop,List.take]
 rw [dY d h,dY d h2]
 rfl
theorem sh_key {k n c q0 q1:Int} (h1 : -1000000≤k∧k≤1000000) (h2 : -1000000≤n∧n≤1000000) (h3 : -1000000≤c∧c≤1000000) (h4 : -1000000≤q0∧q0≤1000000) (h5 : -1000000≤q1∧q1≤1000000):∃kl,keyOf Tryz.prog 65 (.agg (shc k n c q0 q1).toArray)=some kl:=by
 obtain ⟨d,hd⟩:=types_someC
 have hf:(Value.agg (shc k n c q0 q1).toArray).formed Tryz.prog 65=true:=by
  simp [Value.formed,sh_cells,shc]
 have hk:∃ls,Tryz.prog.keyLits (Tryz.prog.types.size+1) 65 (shc k n c q0 q1)=some ls:=by
  unfold Program.keyLits
  simp only [Tryz.underlying65]
  rw [if_pos ⟨by rw [sh_cells];rfl,by kernel_rfl⟩]
  simp only [int_cells,two_cells,hd,List.mapM_cons,List.mapM_nil,shc,List.drop,List.take]
  rw [dY d h1,dY d h2,dY d h3]
  have h6:∃d',d=d'+1:=by
   have:(65:Nat)<Tryz.prog.types.size:=sh_row
   exact ⟨d - 1,by omega⟩
  obtain ⟨d',rfl⟩:=h6
  rw [two_lit d' h4 h5]
  exact ⟨_,rfl⟩
 obtain ⟨ls,hls⟩:=hk
 unfold keyOf
 rw [Tryz.underlying65]
 simp only
 rw [if_pos (by rw [sh_type,hf];rfl)]
 exact ⟨_,by rw [show (Value.agg (shc k n c q0 q1).toArray).cells.toList=shc k n c q0 q1 from rfl,hls];rfl⟩
open Go Go.RowKit Go.Maps
def idxT (T:List Tm) (x:Tm):Nat:=T.findIdx fun y=>decide (txt y=txt x)
theorem a7 {T:List Tm} (hT:∀y∈T,okT y=true) {x:Tm} (hx:x∈T):T[idxT T x]?=some x:=by
 have hlt:idxT T x<T.length:=List.findIdx_lt_length_of_exists ⟨x,hx,decide_eq_true rfl⟩
 have h1:=List.findIdx_getElem (w:=hlt) (xs:=T) (p:=fun y=>decide (txt y=txt x))
 rw [List.getElem?_eq_getElem hlt]
 have h2:txt (T[idxT T x]'hlt)=txt x:=of_decide_eq_true h1
 rw [eL (hT _ (List.getElem_mem hlt)) (hT x hx) h2]
theorem d8 {T:List Tm} (hn:T.Nodup) {i j:Nat} {x:Tm} (h1:T[i]?=some x) (h2:T[j]?=some x):i=j:=by
 obtain ⟨l1,e1⟩:=List.getElem?_eq_some_iff.1 h1
 obtain ⟨l2,e2⟩:=List.getElem?_eq_some_iff.1 h2
 rcases Nat.lt_trichotomy i j with hlt|rfl|hlt
 ·exact absurd (e1.trans e2.symm) ((List.pairwise_iff_getElem.1 hn) i j l1 l2 hlt)
 ·rfl
 ·exact absurd (e2.trans e1.symm) ((List.pairwise_iff_getElem.1 hn) j i l2 l1 hlt)
theorem idxT_of {T:List Tm} (hT:Web T) {i:Nat} {x:Tm} (h:T[i]?=some x):idxT T x=i:=d8 hT.nd (a7 hT.ok (List.mem_of_getElem? h)) h
theorem idxT_app {T T':List Tm} (hT:Web T) (hT':Web T') (hp:∃s,T'=T++s) {x:Tm} (hx:x∈T):idxT T' x=idxT T x:=by
 obtain ⟨s,hs⟩:=hp
 refine idxT_of hT' ?_
 have h:=a7 hT.ok hx
 rw [hs,List.getElem?_append_left (List.getElem?_eq_some_iff.1 h).1]
 exact h
def kidQ (T:List Tm) (t:Tm) (j:Nat):Int:=match t.l[j]? with|some x=>(idxT T x:Int)|none=>0
def shT (T:List Tm) (t:Tm):List Value:=shc t.k t.n (t.l.length:Int) (kidQ T t 0) (kidQ T t 1)
theorem ci (T:List Tm) (t:Tm):(shT T t).length=5:=rfl
theorem kidQ_app {T T':List Tm} (hT:Web T) (hT':Web T') (hp:∃s,T'=T++s) {t:Tm} (ht:∀x∈t.l,x∈T) (j:Nat):kidQ T' t j=kidQ T t j:=by
 unfold kidQ
 cases h:t.l[j]? with
 | none=>rfl
 | some x=>simp only [idxT_app hT hT' hp (ht x (List.mem_of_getElem? h))]
theorem du {T T':List Tm} (hT:Web T) (hT':Web T') (hp:∃s,T'=T++s) {t:Tm} (ht:∀x∈t.l,x∈T):shT T' t=shT T t:=by
 unfold shT
 rw [kidQ_app hT hT' hp ht,kidQ_app hT hT' hp ht]
theorem kidQ_inj {T:List Tm} (hT:Web T) {t u:Tm} {j:Nat} {x y:Tm} (hx:t.l[j]?=some x) (hy:u.l[j]?=some y) (hxT:x∈T) (hyT:y∈T) (h:kidQ T t j=kidQ T u j):x=y:=by
 unfold kidQ at h
 rw [hx,hy] at h
 have h1:idxT T x=idxT T y:=Int.ofNat.inj h
 have h2:=a7 hT.ok hxT
 rw [h1,a7 hT.ok hyT] at h2
 exact (Option.some.inj h2).symm
theorem shT_inj {T:List Tm} (hT:Web T) {t u:Tm} (ht:∀x∈t.l,x∈T) (hu:∀x∈u.l,x∈T) (htl:t.l.length≤2) (h:shT T t=shT T u):t=u:=by
 simp only [shT,shc,List.cons.injEq,Value.int.injEq,true_and,and_true] at h
 obtain ⟨h1,h2,h3,h4,h5⟩:=h
 have hl:t.l.length=u.l.length:=by omega
 refine Tm.eq_of h1 h2 (List.ext_getElem? fun j=>?_)
 by_cases hj:j<t.l.length
 ·obtain ⟨x,hx⟩:∃x,t.l[j]?=some x:=⟨_,List.getElem?_eq_getElem hj⟩
  obtain ⟨y,hy⟩:∃y,u.l[j]?=some y:=⟨_,List.getElem?_eq_getElem (by omega)⟩
  have hq:kidQ T t j=kidQ T u j:=by
   match j,hj with
   | 0,_=>exact h4
   | 1,_=>exact h5
   | j+2,hj=>omega
  rw [hx,hy,kidQ_inj hT hx hy (ht x (List.mem_of_getElem? hx)) (hu y (List.mem_of_getElem? hy)) hq]
 ·rw [List.getElem?_eq_none (by omega),List.getElem?_eq_none (by omega)]
def shCells (T:List Tm):List Value:=T.flatMap (shT T)
theorem shCells_app {T T':List Tm} {t:Tm} (hT:Web T) (hT':Web T') (he:T'=T++[t]) (ht:∀x∈t.l,x∈T):shCells T'=shCells T++shT T t:=by
 have hp:∃s,T'=T++s:=⟨[t],he⟩
 have h1:T'.flatMap (shT T')=T.flatMap (shT T')++shT T' t:=by
  conv=>lhs;rw [he]
  rw [List.flatMap_append]
  simp [he]
 unfold shCells
 rw [h1,du hT hT' hp ht]
 congr 1
 have key:∀l:List Tm,(∀x∈l,x∈T)→l.flatMap (shT T')=l.flatMap (shT T):=by
  intro l
  induction l with
  | nil=>intro _;rfl
  | cons x l ih =>
   intro h
   rw [List.flatMap_cons,List.flatMap_cons,ih (fun y hy=>h y (List.mem_cons_of_mem _ hy)),du hT hT' hp (hT.kids x (h x (List.mem_cons_self ..)))]
 exact key T (fun _ h=>h)
def shapeP (T:List Tm):Value→Value→Prop:=fun k v=>∃(i:Nat) (t:Tm),T[i]?=some t∧k=.agg (shT T t).toArray∧v=.int .i64 (i:Int)
theorem shapeP_put {T T':List Tm} {t:Tm} (hT:Web T) (hT':Web T') (he:T'=T++[t]) (ht:∀x∈t.l,x∈T) (htl:t.l.length≤2) (hno:t ∉ T) (k v:Value):putK (shapeP T) (.agg (shT T t).toArray) (.int .i64 (T.length:Int)) k v↔shapeP T' k v:=by
 have hp:∃s,T'=T++s:=⟨[t],he⟩
 constructor
 ·rintro (⟨rfl,rfl⟩|⟨_,i,u,h1,h2,h3⟩)
  ·exact ⟨T.length,t,by rw [he];simp,by rw [du hT hT' hp ht],rfl⟩
  ·have hu:=List.mem_of_getElem? h1
   exact ⟨i,u,by rw [he,List.getElem?_append_left (List.getElem?_eq_some_iff.1 h1).1];exact h1,by rw [du hT hT' hp (hT.kids u hu)];exact h2,h3⟩
 ·rintro ⟨i,u,h1,h2,h3⟩
  by_cases hlt:i<T.length
  ·rw [he,List.getElem?_append_left hlt] at h1
   have hu:=List.mem_of_getElem? h1
   rw [du hT hT' hp (hT.kids u hu)] at h2
   refine Or.inr ⟨fun hk=>?_,i,u,h1,h2,h3⟩
   rw [h2] at hk
   have hk2:shT T u=shT T t:=by simpa using hk
   have:=shT_inj hT ht (hT.kids u hu) htl hk2.symm
   exact hno (this▸hu)
  ·have hi:i=T.length:=by
    have:=(List.getElem?_eq_some_iff.1 h1).1
    rw [he,List.length_append,List.length_singleton] at this
    omega
   subst hi
   rw [he] at h1
   simp only [List.getElem?_concat_length,Option.some.injEq] at h1
   subst h1
   rw [du hT hT' hp ht] at h2
   exact Or.inl ⟨h2,h3⟩
end Go.Proofs.YtcibhfcjbokdlaaGreatDoor
