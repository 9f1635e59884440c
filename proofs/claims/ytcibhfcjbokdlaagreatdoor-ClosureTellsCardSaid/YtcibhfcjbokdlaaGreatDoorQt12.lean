import Derived.Deep.LoopGhost
import Derived.Test.YtcibhfcjbokdlaaGreatDoorQt11
import Derived.Test.YtcibhfcjbokdlaaGreatDoorQt08
import Derived.Test.YtcibhfcjbokdlaaGreatDoorQt07
import Derived.Shelf.SlSortCmp.NoneTotal
import Derived.Test.YtcibhfcjbokdlaaGreatDoorChecked
import Derived.Lib.Bytealg
import Derived.Sort.Grow
import Derived.Sort.Walk0
import Derived.Shelf.Abstract
set_option maxRecDepth 100000
set_option maxHeartbeats 4000000
namespace Go.Proofs.YtcibhfcjbokdlaaGreatDoor
open Go Go.RowKit Go.Maps Classical
section
variable {P:Program} {ops:Array Oper} {rest:List Oper} {a:Act} {w w0:World} {Q:Exit→Act→World→Prop} {dst:Option Tmp} {typ:TypeId} {pos:String} {aft:Array Edge} {S:List Nat} {rows:List (Nat×List Value×TypeId)}
theorem run_bsl2 (w:World) {t elem:TypeId} (z v0 v1:Value) (hu:P.underlying t=some (.slice elem)) (hi:(P.info? elem).map (fun i=>(i.zero,i.size))=some (some z,1)) (hz:z.cells=#[z]) (h0:v0.cells=#[v0]) (h1:v1.cells=#[v1]) :
  (Instr.buildSlice t 2 #[(0,v0),(1,v1)]).run P w=.ok (.slice (some ⟨w.heap.size,0,none⟩) 2 2) (w.alloc (.cells [v0,v1].toArray elem)):=by
 obtain ⟨hz1,hs1⟩:=zero_of_info hi
 cases hq:P.info? elem with
 | none=>simp [hq] at hi
 | some q =>
  have hs:q.size=1:=by simpa [hq] using hs1
  have e:Array.map (fun x=>([z][x % 1]?).getD default) (Array.range 2)=#[z,z]:=by
   apply Array.ext
   ·simp
   ·intro i h1 h2
    have h3:i=0∨i=1:=by
     have:i<2:=by simpa using h2
     omega
    rcases h3 with rfl|rfl<;>simp
  simp [Instr.buildSlice,run_underlying hu,sizeOf,typeInfo,hq,hs,hz1,hz,Instr.fill,h0,h1,newRow,newObj]
  rw [e]
  rfl
theorem wpl_bsl2 {t elem:TypeId} {x y:Operand} (z v0 v1:Value) (hu:P.underlying t=some (.slice elem)) (hi:(P.info? elem).map (fun i=>(i.zero,i.size))=some (some z,1)) (hz:z.cells=#[z]) (hx:a.eval x=v0) (hy:a.eval y=v1) (h0:v0.cells=#[v0]) (h1:v1.cells=#[v1]) (hm:Mem w0 S w rows)
  (h:∀w' g,Below w.heap.size w w'→Mem w0 S w' ((g,[v0,v1],elem)::rows)→wpList P ops Q rest (a.put dst (.slice (some ⟨g,0,none⟩) 2 2)) w') :
  wpList P ops Q ({dst:=dst,op:=.buildSlice t 2 #[(0,x),(1,y)],type:=typ,pos:=pos,after:=aft,guard:=none}::rest) a w:=by
 refine wpList_plain rfl fun K hK=>?_
 have hh:=hK _ _ (h _ _ ((Below.refl _ _).alloc (Nat.le_refl _) _) (hm.alloc [v0,v1] elem))
 unfold Oper.wp execOp
 simp only [List.map_toArray,List.map_cons,List.map_nil,hx,hy,run_bsl2 (P:=P) w z v0 v1 hu hi hz h0 h1,Sem.run_bind,Sem.run_pure,Result.andThen_ok]
 exact hh
end
def Apn (v:Value) (dg mk:Nat) (vr:Value) (w:World):Prop:=∀b,v.ownBlock=some b→b≠dg∧b≠mk∧some b≠vr.ownBlock∧b<w.heap.size
def Vn (vr0 vr:Value) (w:World):Prop:=vr.ownBlock=vr0.ownBlock∨∃b,vr.ownBlock=some b∧w.heap.size≤b
theorem Apn.kp {v:Value} {dg mk:Nat} {vr vr':Value} {w w':World} (h:Apn v dg mk vr w) (hv:Vn vr vr' w) (hs:w.heap.size≤w'.heap.size):Apn v dg mk vr' w':=fun b hb=>by
 obtain ⟨h1,h2,h3,h4⟩:=h b hb
 refine ⟨h1,h2,fun he=>?_,Nat.lt_of_lt_of_le h4 hs⟩
 rcases hv with hv|⟨b',hv,hl⟩
 ·exact h3 (hv▸he)
 ·rw [hv] at he
  have:=Option.some.inj he
  omega
theorem SlN.keepB {w w':World} {v:Value} {ql:List Nat} (h:SlN w v ql) (hk:∀b,v.ownBlock=some b→w'.heap[b]?=w.heap[b]?):SlN w' v ql:=by
 obtain ⟨p,cap,hv,hc,hl,hs⟩:=h
 refine ⟨p,cap,hv,hc,hl,fun h0=>?_⟩
 obtain ⟨b,off,hp,hseg⟩:=hs h0
 refine ⟨b,off,hp,fun j u hu=>?_⟩
 rw [World.cell?_of_block (w:=w) (a:=⟨b,off+j,none⟩) (hk b (by rw [hv,hp];rfl))]
 exact hseg j u hu
theorem SlN.kp {v:Value} {dg mk:Nat} {vr:Value} {w w':World} {ql:List Nat} (h:SlN w v ql) (ha:Apn v dg mk vr w) (k:Kp dg mk vr w w'):SlN w' v ql:=h.keepB fun b hb=>by
 obtain ⟨h1,h2,h3,h4⟩:=ha b hb
 exact k.block b h4 h1 h2 h3
theorem Kp.refl (dg mk:Nat) (vr:Value) (w:World):Kp dg mk vr w w:=⟨rfl,rfl,rfl,Nat.le_refl _,fun _ _ _ _ _=>rfl⟩
theorem Kp.of_below {dg mk:Nat} {vr:Value} {w w':World} (h:Below w.heap.size w w'):Kp dg mk vr w w':=⟨h.os,h.tape,h.output,h.size,fun b hb _ _ _=>h.block b hb⟩
theorem Kp.trans {dg mk:Nat} {vr0 vr1:Value} {w0 w1 w2:World} (h:Kp dg mk vr0 w0 w1) (hv:Vn vr0 vr1 w0) (k:Kp dg mk vr1 w1 w2):Kp dg mk vr0 w0 w2 :=
 ⟨k.os.trans h.os,k.tape.trans h.tape,k.output.trans h.output,Nat.le_trans h.size k.size,fun b hb h1 h2 h3=>(k.block b (Nat.lt_of_lt_of_le hb h.size) h1 h2 (fun he=>by
  rcases hv with hv|⟨b',hv,hl⟩
  ·exact h3 (hv▸he)
  ·rw [hv] at he
   have:=Option.some.inj he
   omega)).trans (h.block b hb h1 h2 h3)⟩
theorem Vn.refl (vr:Value) (w:World):Vn vr vr w:=Or.inl rfl
theorem Vn.trans {vr0 vr1 vr2:Value} {w0 w1:World} (h:Vn vr0 vr1 w0) (k:Vn vr1 vr2 w1) (hs:w0.heap.size≤w1.heap.size):Vn vr0 vr2 w0:=by
 rcases k with k|⟨b,k,hl⟩
 ·unfold Vn;rw [k];exact h
 ·exact Or.inr ⟨b,k,Nat.le_trans hs hl⟩
theorem DerA.below {b1 QB:Nat} {w w':World} {dg mk g:Nat} {T RM RR:List Tm} {vr:Value} {rl:List Nat} (h:DerA b1 QB w dg mk g T RM RR vr rl) (hb:Below w.heap.size w w'):DerA b1 QB w' dg mk g T RM RR vr rl:=by
 obtain ⟨q,hq,hk⟩:=h.km
 exact ⟨h.row.below' hb,aK h.own hb,h.num,⟨q,hq,hk.below hb⟩⟩
theorem NumsOf.takeN {T:List Tm} {ql:List Nat} {l:List Tm} (h:NumsOf T ql l) (n:Nat):NumsOf T (ql.take n) (l.take n):=by
 refine ⟨by rw [List.length_take,List.length_take,h.1],fun j q hj=>?_⟩
 have hlt:j<n:=by have:=(List.getElem?_eq_some_iff.1 hj).1;rw [List.length_take] at this;omega
 rw [List.getElem?_take_of_lt hlt] at hj ⊢
 exact h.2 j q hj
theorem NumsOf.dropN {T:List Tm} {ql:List Nat} {l:List Tm} (h:NumsOf T ql l) (n:Nat):NumsOf T (ql.drop n) (l.drop n):=by
 refine ⟨by rw [List.length_drop,List.length_drop,h.1],fun j q hj=>?_⟩
 rw [List.getElem?_drop] at hj ⊢
 exact h.2 (n+j) q hj
theorem sln_take {w:World} {b o n h c:Nat} {ql:List Nat} (hs:SlN w (.slice (some ⟨b,o,none⟩) n c) ql) (hn:n=ql.length) (hh:h≤n):SlN w (.slice (some ⟨b,o,none⟩) h c) (ql.take h):=by
 have hl:(ql.take h).length=h:=by rw [List.length_take];omega
 have hs':=hs
 rw [hn] at hs'
 obtain ⟨p,cap,hv,hc,_,hseg⟩:=hs'
 simp only [Value.slice.injEq] at hv
 refine ⟨_,c,by rw [hl],by omega,by rw [aL];omega,fun h0=>⟨b,o,rfl,fun j u hu=>?_⟩⟩
 obtain ⟨b',o',hp,hseg2⟩:=hseg (by omega)
 rw [←hv.1] at hp
 simp only [Option.some.injEq,Addr.mk.injEq,and_true] at hp
 obtain ⟨rfl,rfl⟩:=hp
 refine hseg2 j u ?_
 have hjl:j<h:=by have:=(List.getElem?_eq_some_iff.1 hu).1;rw [aL,hl] at this;exact this
 unfold nums at hu ⊢
 rw [List.getElem?_map,List.getElem?_take_of_lt hjl] at hu
 rw [List.getElem?_map]
 exact hu
theorem sln_drop {w:World} {b o n h c:Nat} {ql:List Nat} (hs:SlN w (.slice (some ⟨b,o,none⟩) n c) ql) (hn:n=ql.length) (hh:h≤n):SlN w (.slice (some ⟨b,o+h,none⟩) (n - h) (c - h)) (ql.drop h):=by
 have hl:(ql.drop h).length=n - h:=by rw [List.length_drop];omega
 have hs':=hs
 rw [hn] at hs'
 obtain ⟨p,cap,hv,hc,_,hseg⟩:=hs'
 simp only [Value.slice.injEq] at hv
 refine ⟨_,c - h,by rw [hl],by omega,by rw [aL];omega,fun h0=>⟨b,o+h,rfl,fun j u hu=>?_⟩⟩
 obtain ⟨b',o',hp,hseg2⟩:=hseg (by omega)
 rw [←hv.1] at hp
 simp only [Option.some.injEq,Addr.mk.injEq,and_true] at hp
 obtain ⟨rfl,rfl⟩:=hp
 have h2:=hseg2 (h+j) u (by
  unfold nums at hu ⊢
  rw [List.getElem?_map,List.getElem?_drop] at hu
  rw [List.getElem?_map]
  exact hu)
 rw [←Nat.add_assoc] at h2
 exact h2
section
variable {a:Act} {w:World} {dst:Option Tmp} {typ:TypeId} {pos:String} {aft:Array Edge} {gd:Option (Nat×Bool)}
theorem exec_cutH {x hi:Operand} {b o len n cap:Nat} {ih:Int} (hn:n≤cap) (hx:a.eval x=.slice (some ⟨b,o,none⟩) len cap) (hhi:a.eval hi=.int .i64 ih) (hih:ih=(n:Int)) :
  (execOp a.eval {dst:=dst,op:=.slice 41 x none (some hi) none,type:=typ,pos:=pos,after:=aft,guard:=gd}).run Tryz.prog w=.ok (.value (.slice (some ⟨b,o,none⟩) n cap)) w :=
 exec_cutP (by unfold cutHi;split<;>simp [aQ]) hn hx hhi hih
theorem exec_cutL {x lo:Operand} {b o len n cap:Nat} {il:Int} (hn:n≤len) (hc:n<cap) (hx:a.eval x=.slice (some ⟨b,o,none⟩) len cap) (hlo:a.eval lo=.int .i64 il) (hil:il=(n:Int)) :
  (execOp a.eval {dst:=dst,op:=.slice 41 x (some lo) none none,type:=typ,pos:=pos,after:=aft,guard:=gd}).run Tryz.prog w=.ok (.value (.slice (some ⟨b,o+n,none⟩) (len - n) (cap - n))) w:=by
 have h:=cd (dst:=dst) (typ:=typ) (pos:=pos) (aft:=aft) (gd:=gd) (w:=w) aU bB n hn hx hlo hil
 have e:cutLo (some ⟨b,o,none⟩) cap n=some ⟨b,o+n,none⟩:=by
  unfold cutLo
  rw [if_neg (by omega)]
  simp [aQ]
 rw [e] at h
 exact h
end
theorem dw {T R:List Tm} {rl:List Nat} (h:NumsOf T rl R) {x:Tm} (hx:x∈R):x∈T:=by
 obtain ⟨i,hi,he⟩:=List.getElem_of_mem hx
 obtain ⟨q,hq⟩:∃q,rl[i]?=some q:=⟨_,List.getElem?_eq_getElem (by rw [h.1];exact hi)⟩
 obtain ⟨y,h1,h2⟩:=h.2 i q hq
 rw [List.getElem?_eq_getElem hi,he] at h1
 rw [Option.some.inj h1]
 exact List.mem_of_getElem? h2
theorem leastR_len (D:(Tm→Prop)→Prop):∀(r:List Tm) (K:Tm→Prop),(leastR D K r).length≤r.length:=by
 intro r
 induction r with
 | nil=>intro K;exact Nat.le_refl _
 | cons x r ih =>
  intro K
  rw [leastR]
  split
  ·have:=ih K;simp;omega
  ·have:=ih (fun t=>K t∨t=x);simp;omega
theorem cD (D:(Tm→Prop)→Prop) (K:Tm→Prop) (l:List Tm):(leastF D K l).length≤l.length:=by
 unfold leastF
 rw [List.length_reverse]
 have:=leastR_len D l.reverse K
 rw [List.length_reverse] at this
 exact this
theorem mul_parts (a b t:Nat) (ha:1≤a) (hb:1≤b):(a - 1) * t+t+(b - 1) * t=(a+b - 1) * t:=by
 obtain ⟨a',rfl⟩:∃a',a=a'+1:=⟨a - 1,by omega⟩
 obtain ⟨b',rfl⟩:∃b',b=b'+1:=⟨b - 1,by omega⟩
 rw [Nat.add_sub_cancel,Nat.add_sub_cancel,show a'+1+(b'+1) - 1=a'+1+b' by omega,Nat.add_mul,Nat.add_mul,Nat.one_mul]
theorem least_any (b1 dg mk g:Nat) (T:List Tm) (hT:Web T) (hTl:T.length≤100000) (AR:Nat→Option Addr×Nat×List Nat) (m bs cs ba ca AB:Nat) (hAB:∀i,(AR i).2.2.length≤AB) (hC:(T.length+1) * (3 * AB+3)≤900000)
  (har:∀i t,T[i]?=some t→∃ws,NumsOf T (AR i).2.2 ws∧∀x,x∈ws↔x∈T∧t∈x.l) (gt:Tm) (gq:Nat) (hgq:T[gq]?=some gt) (N:Nat):∀(NL:List Tm) (nl:List Nat) (ln cn:Nat) (pn:Option Addr) (w:World) (QB:Nat) (B:Tm→Prop) (R:List Tm) (vr0:Value) (rl0:List Nat),ln≤N→ln≤10000 →
  ln=nl.length→NumsOf T nl NL→(∀w',Kp dg mk vr0 w w'→WebR w' g T AR m bs cs ba ca)→DerA b1 QB w dg mk g T R R vr0 rl0→Lrn B T R []→(dg<w.heap.size∧mk<w.heap.size∧b1≤w.heap.size)→QB+(NL.length - 1) * T.length≤500000→SlN w (.slice pn ln cn) nl→Apn (.slice pn ln cn) dg mk vr0 w→Calls Tryz.prog 38 #[.pointer (some ⟨dg,0,none⟩),.slice pn ln cn,.int .i64 (gq:Int)] w fun e w'=>∃(v:Value) (ql:List Nat) (vr':Value) (rl':List Nat) (R':List Tm) (QB':Nat),e=.returned v∧SlN w' v ql∧NumsOf T ql (leastF (fun K=>Der K gt) B NL)∧Apn v dg mk vr' w'∧DerA b1 QB' w' dg mk g T R' R' vr' rl'∧R'.Nodup∧(∃s,R'=R++s)∧QB'≤QB+(NL.length - 1) * T.length∧Kp dg mk vr0 w w'∧Vn vr0 vr' w:=by
 have HT:Hid (Web T):=hT
 have HTL:Hid (T.length≤100000):=hTl
 have HABx:Hid (∀i,(AR i).2.2.length≤AB):=hAB
 have HC:Hid ((T.length+1) * (3 * AB+3)≤900000):=hC
 have HAR:Hid (∀i t,T[i]?=some t→∃ws,NumsOf T (AR i).2.2 ws∧∀x,x∈ws↔x∈T∧t∈x.l):=har
 have HGQ:Hid (T[gq]?=some gt):=hgq
 have hgq4:gq≤100000:=by have h:=(List.getElem?_eq_some_iff.1 hgq).1;omega
 have hDm:∀K K':Tm→Prop,(∀t,K t→K' t)→(fun K=>Der K gt) K→(fun K=>Der K gt) K':=fun K K' h hd=>hd.mono h
 have HDM:Hid (∀K K':Tm→Prop,(∀t,K t→K' t)→(fun K=>Der K gt) K→(fun K=>Der K gt) K'):=hDm
 clear hT hTl hAB hC har hgq hDm
 induction N using Nat.strongRecOn with
 | ind N ih =>
  intro NL nl ln cn pn w QB B R vr0 rl0 hN hln4 hln hnn hweb hd hlr hlt hQB hsl hap
  by_cases hin:gt∈R
  ·have HH:Hid (∀W,Below w.heap.size w W→Calls Tryz.prog 29 #[.pointer (some ⟨dg,0,none⟩),.int .i64 (gq:Int)] W fun e w'=>e=.returned (.bool true)∧Below W.heap.size W w'):=fun W hW=>bc W dg mk g gq T R gt true (hd.below hW).rd hgq4 HGQ.out (by simp [hin])
   have hD:Der B gt:=(hlr.done HT.out (List.mem_of_getElem? HGQ.out)).1 hin
   have hm:=Mem.start w
   go_enter Tryz.func38,Tryz.ntmps38
   go_wp2_with (first
    | (go_at_call 29;go_must (refine (HH.out _ hm.below).mono ?_);rintro e w5 ⟨he,hb⟩;subst he;replace hm:=hm.call hb;clear hb))
   go_ret
   exact ⟨_,[],vr0,rl0,R,QB,rfl,SlN.nil _,by rw [leastF_none HDM.out hD];exact NumsOf.nil T,fun b hb=>(by cases hb),hd.below hm.below,hlr.nd,⟨[],by simp⟩,Nat.le_add_right _ _,Kp.of_below hm.below,Vn.refl _ _⟩
  by_cases h1:ln≤1
  ·have HH:Hid (∀W,Below w.heap.size w W→Calls Tryz.prog 29 #[.pointer (some ⟨dg,0,none⟩),.int .i64 (gq:Int)] W fun e w'=>e=.returned (.bool false)∧Below W.heap.size W w'):=fun W hW=>bc W dg mk g gq T R gt false (hd.below hW).rd hgq4 HGQ.out (by simp [hin])
   have hD:¬Der B gt:=fun h=>hin ((hlr.done HT.out (List.mem_of_getElem? HGQ.out)).2 h)
   have hle:(ln:Int)≤1:=by omega
   have hlf:leastF (fun K=>Der K gt) B NL=NL:=by
    match NL,hnn.1 with
    | [],_=>rfl
    | [x],_=>exact leastF_one hD x
    | x::y::r,hl=>simp at hl;omega
   have hm:=Mem.start w
   clear hln
   go_enter Tryz.func38,Tryz.ntmps38
   go_wp2_with (first
    | (go_at_call 29;go_must (refine (HH.out _ hm.below).mono ?_);rintro e w5 ⟨he,hb⟩;subst he;replace hm:=hm.call hb;clear hb))
   go_ret
   exact ⟨.slice pn ln cn,nl,vr0,rl0,R,QB,rfl,SlN.below hsl hm.below,by rw [hlf];exact hnn,hap.kp (Vn.refl _ _) hm.below.size,hd.below hm.below,hlr.nd,⟨[],by simp⟩,Nat.le_add_right _ _,Kp.of_below hm.below,Vn.refl _ _⟩
  have HH:Hid (∀W,Below w.heap.size w W→Calls Tryz.prog 29 #[.pointer (some ⟨dg,0,none⟩),.int .i64 (gq:Int)] W fun e w'=>e=.returned (.bool false)∧Below W.heap.size W w'):=fun W hW=>bc W dg mk g gq T R gt false (hd.below hW).rd hgq4 HGQ.out (by simp [hin])
  have hD:¬Der B gt:=fun h=>hin ((hlr.done HT.out (List.mem_of_getElem? HGQ.out)).2 h)
  have HIH:Hid _:=ih (N - 1) (by omega)
  have hng:¬(ln:Int)≤1:=by omega
  obtain ⟨nb,no,rfl⟩:∃b o,pn=some ⟨b,o,none⟩:=by
   obtain ⟨b,o,hp,_⟩:=SlV.at (by have h:=hsl;rw [hln] at h;exact h) (by omega)
   exact ⟨b,o,hp⟩
  have hcn:ln≤cn:=by
   have h:=hsl
   rw [hln] at h
   obtain ⟨p,c,hv,hc⟩:=SlV.len h
   simp only [Value.slice.injEq] at hv
   rw [hln,hv.2.2]
   exact hc
  obtain ⟨hh,hhh⟩:∃h,h=ln / 2:=⟨_,rfl⟩
  obtain ⟨lh,hlh⟩:∃l,l=ln - hh:=⟨_,rfl⟩
  obtain ⟨ch,hch⟩:∃c,c=cn - hh:=⟨_,rfl⟩
  have hb1:1≤hh∧1≤lh∧hh+lh=ln∧hh≤N - 1∧lh≤N - 1∧hh≤cn∧hh<cn∧hh≤ln:=by omega
  obtain ⟨F,hF⟩:∃F,F=NL.take hh:=⟨_,rfl⟩
  obtain ⟨S,hS⟩:∃S,S=NL.drop hh:=⟨_,rfl⟩
  have hNL:NL=F++S:=by rw [hF,hS,List.take_append_drop]
  have hFl:F.length=hh:=by rw [hF,List.length_take,←hnn.1,←hln];omega
  have hSl:S.length=lh:=by rw [hS,List.length_drop,←hnn.1,←hln];omega
  have HFN:Hid (NumsOf T (nl.take hh) F):=by rw [hF];exact hnn.takeN hh
  have HSN:Hid (NumsOf T (nl.drop hh) S):=by rw [hS];exact hnn.dropN hh
  have HFS:Hid (SlN w (.slice (some ⟨nb,no,none⟩) hh cn) (nl.take hh)):=sln_take hsl hln (by omega)
  have HSS:Hid (SlN w (.slice (some ⟨nb,no+hh,none⟩) lh ch) (nl.drop hh)):=by rw [hlh,hch];exact sln_drop hsl hln (by omega)
  have HFL:Hid (hh=(nl.take hh).length):=by show _=_;rw [List.length_take,←hln];omega
  have HSL:Hid (lh=(nl.drop hh).length):=by show _=_;rw [List.length_drop,←hln];omega
  have HAF:Hid (Apn (.slice (some ⟨nb,no,none⟩) hh cn) dg mk vr0 w):=fun b hb=>hap b hb
  have HAS:Hid (Apn (.slice (some ⟨nb,no+hh,none⟩) lh ch) dg mk vr0 w):=fun b hb=>hap b hb
  have HNL:Hid (NL=F++S):=hNL
  have HWEB:Hid (∀w',Kp dg mk vr0 w w'→WebR w' g T AR m bs cs ba ca):=hweb
  have HLR:Hid (Lrn B T R []):=hlr
  have HDA:Hid (DerA b1 QB w dg mk g T R R vr0 rl0):=hd
  have HLT:Hid (dg<w.heap.size∧mk<w.heap.size∧b1≤w.heap.size):=hlt
  have HQB:Hid (QB+((F.length - 1) * T.length+T.length+(S.length - 1) * T.length)≤500000):=by
   have h:=hQB
   rw [hNL,List.length_append,←mul_parts F.length S.length T.length (by omega) (by omega)] at h
   exact h
  have HQE:Hid ((NL.length - 1) * T.length=(F.length - 1) * T.length+T.length+(S.length - 1) * T.length):=by
   show _=_
   rw [hNL,List.length_append,←mul_parts F.length S.length T.length (by omega) (by omega)]
  have HFSL:Hid (F.length=hh∧S.length=lh):=⟨hFl,hSl⟩
  have HBD:Hid (1≤hh∧1≤lh∧hh+lh=ln∧hh≤N - 1∧lh≤N - 1∧hh≤cn∧hh<cn∧hh≤ln):=hb1
  obtain ⟨L,hL⟩:∃L,L=R.length:=⟨_,rfl⟩
  have HL:Hid (∀_:Unit,L=R.length):=fun _=>hL
  obtain ⟨pr,cr,hvr⟩:∃p c,vr0=.slice p L c:=by rw [hL];exact bN hd.own
  subst hvr
  have HHE:Hid (∀_:Unit,ln / 2=hh∧ln - hh=lh∧cn - hh=ch):=fun _=>⟨hhh.symm,hlh.symm,hch.symm⟩
  have hq2:Int.tdiv (ln:Int) 2=(hh:Int):=by rw [hhh];rfl
  have hwq:IntKind.i64.wrap (hh:Int)=(hh:Int):=bm _ (by omega) (by omega)
  have hm:=Mem.start w
  have tk1:Nat:=0
  have tk2:Nat:=0
  clear ih hin h1 hsl hap hweb hd hlr hlt hQB hnn hln hD hNL hFl hSl hF hS hb1 hL hhh hlh hch hcn
  go_enter Tryz.func38,Tryz.ntmps38
  go_wp2_with (first
   | (go_at_call 29;go_must (refine (HH.out _ hm.below).mono ?_);rintro e w5 ⟨he,hb⟩;subst he;replace hm:=hm.call hb;clear hb))
  refine aq ?_
  refine ao (T:=fun W=>Below w.heap.size w W) (by kernel_rfl) hm ?_
  intro wc hbw hmw
  replace hm:Below w.heap.size w wc:=hm.below.trans (hbw.mono hm.size)
  clear hbw hmw
  refine aT 0 (v:=.slice (some ⟨nb,no,none⟩) ln cn) rfl (by kernel_rfl) rfl (fun W _=>by go_simp) hm ?_
  go_simp
  refine aT 1 (v:=.slice (some ⟨nb,no,none⟩) ln cn) rfl (by kernel_rfl) rfl (fun W _=>by go_simp) hm ?_
  go_simp
  refine aT 2 (v:=.int .i64 (ln:Int)) rfl (by kernel_rfl) rfl (fun W _=>by go_simp) hm ?_
  go_simp
  refine aT 3 (v:=.int .i64 (hh:Int)) rfl (by kernel_rfl) rfl (fun W _=>by go_simp) hm ?_
  go_simp
  refine aT 4 (v:=.slice (some ⟨nb,no,none⟩) hh cn) rfl (by kernel_rfl) rfl (fun W _=>exec_cutH HBD.out.2.2.2.2.2.1 rfl rfl rfl) hm ?_
  go_simp
  refine aT 5 (v:=.slice (some ⟨nb,no,none⟩) ln cn) rfl (by kernel_rfl) rfl (fun W _=>by go_simp) hm ?_
  go_simp
  refine aT 6 (v:=.slice (some ⟨nb,no,none⟩) ln cn) rfl (by kernel_rfl) rfl (fun W _=>by go_simp) hm ?_
  go_simp
  refine aT 7 (v:=.int .i64 (ln:Int)) rfl (by kernel_rfl) rfl (fun W _=>by go_simp) hm ?_
  go_simp
  refine aT 8 (v:=.int .i64 (hh:Int)) rfl (by kernel_rfl) rfl (fun W _=>by go_simp) hm ?_
  go_simp
  refine aT 9 (v:=.slice (some ⟨nb,no+hh,none⟩) lh ch) rfl (by kernel_rfl) rfl (fun W _=>(exec_cutL HBD.out.2.2.2.2.2.2.2 HBD.out.2.2.2.2.2.2.1 rfl rfl rfl).trans (by rw [(HHE.out ()).2.1,(HHE.out ()).2.2])) hm ?_
  go_simp
  refine aT 10 (v:=.slice (some ⟨nb,no,none⟩) hh cn) rfl (by kernel_rfl) rfl (fun W _=>by go_simp) hm ?_
  go_simp
  refine aT 11 (v:=.slice (some ⟨nb,no+hh,none⟩) lh ch) rfl (by kernel_rfl) rfl (fun W _=>by go_simp) hm ?_
  go_simp
  refine wpAnyH_done (by kernel_rfl) ?_ _
  simp only [endsIn]
  have HB1:Hid (Below w.heap.size w wc):=hm
  clear hm
  have hm:=Mem.start wc
  go_wp2_with (first
   | ((with_reducible refine af (some 30) (.load 41 (.tmp 29)) ?_);go_must (refine aa (.slice pr L cr) rfl (ad (.slice pr L cr) ((HDA.out.below (HB1.out.trans (hm.below.mono HB1.out.size))).row.cell 2) rfl bC) ?_))
   | (go_at_call 28;clear tk1;have hbx:=bU HB1.out HB1.out.size hm.below;go_must (refine (ei _ b1 QB dg mk g B T R AR m bs cs ba ca AB hh (.slice pr L cr) rl0 (nl.take hh) F _ cn HT.out HTL.out HABx.out HC.out HAR.out (fun w' k=>HWEB.out w' ((Kp.of_below hbx).trans (Vn.refl _ _) k)) (HDA.out.below hbx) HLR.out ⟨Nat.lt_of_lt_of_le HLT.out.1 hbx.size,Nat.lt_of_lt_of_le HLT.out.2.1 hbx.size,Nat.le_trans HLT.out.2.2 hbx.size⟩ (by have h:=HQB.out;omega) HFL.out (by have h:=HBD.out;omega) HFN.out (fun w' k=>HFS.out.kp HAF.out ((Kp.of_below hbx).trans (Vn.refl _ _) k))).mono ?_);rintro e w2 ⟨he,vr1,rl1,R1,hd1,hl1,hk1,hv1,hs1⟩;subst he;have HK1:Hid (Kp dg mk (.slice pr L cr) w w2):=(Kp.of_below hbx).trans (Vn.refl _ _) hk1;have HV1:Hid (Vn (.slice pr L cr) vr1 w):=Vn.trans (Vn.refl (.slice pr L cr) w) hv1 hbx.size;have HD1:Hid (DerA b1 QB w2 dg mk g T R1 R1 vr1 rl1):=hd1;have HL1:Hid (Lrn (fun t=>B t∨t∈F) T R1 []):=hl1;have HS1:Hid (∃s,R1=R++s):=hs1;clear hd1 hl1 hk1 hv1 hs1 hbx hm;have hm:=Mem.start w2)
   | (go_at_call 38;clear tk2;have hbx:=hm.below;have hkx:Kp dg mk (.slice pr L cr) w _:=HK1.out.trans HV1.out (Kp.of_below hbx);go_must (refine (HIH.out S (nl.drop hh) lh ch _ _ QB (fun t=>B t∨t∈F) R1 vr1 rl1 HBD.out.2.2.2.2.1 (by have h:=HBD.out;omega) HSL.out HSN.out (fun w' k=>HWEB.out w' (hkx.trans HV1.out k)) (HD1.out.below hbx) HL1.out ⟨Nat.lt_of_lt_of_le HLT.out.1 hkx.size,Nat.lt_of_lt_of_le HLT.out.2.1 hkx.size,Nat.le_trans HLT.out.2.2 hkx.size⟩ (by have h:=HQB.out;omega) (HSS.out.kp HAS.out hkx) (HAS.out.kp HV1.out hkx.size)).mono ?_);rintro e w3 ⟨v3,ql3,vr3,rl3,R3,QB3,he,hs3,hn3,ha3,hd3,hnd3,hp3,hq3,hk3,hv3⟩;obtain ⟨p3,c3,hv3e,_⟩:=SlV.len hs3;obtain ⟨l3,hl3⟩:∃l,l=ql3.length:=⟨_,rfl⟩;rw [←hl3] at hv3e;subst hv3e;subst he;have HK3:Hid (Kp dg mk (.slice pr L cr) w w3):=hkx.trans HV1.out hk3;have HV3:Hid (Vn (.slice pr L cr) vr3 w):=Vn.trans HV1.out hv3 hkx.size;have HD3:Hid (DerA b1 QB3 w3 dg mk g T R3 R3 vr3 rl3):=hd3;have HND3:Hid (R3.Nodup):=hnd3;have HP3:Hid (∃s,R3=R++s):=(by obtain ⟨s1,e1⟩:=HS1.out;obtain ⟨s3,e3⟩:=hp3;exact ⟨s1++s3,by rw [e3,e1,List.append_assoc]⟩);have HQ3:Hid (QB3≤QB+(S.length - 1) * T.length):=hq3;have HSL3:Hid (SlN w3 (.slice p3 l3 c3) ql3∧l3=ql3.length∧NumsOf T ql3 (leastF (fun K=>Der K gt) (fun t=>B t∨t∈F) S)∧Apn (.slice p3 l3 c3) dg mk vr3 w3):=⟨hs3,hl3,hn3,ha3⟩;clear hs3 hn3 ha3 hd3 hnd3 hp3 hq3 hk3 hv3 hkx hbx hm hl3;have hm:=Mem.start w3)
   | (go_at_call 37;have hbx:=hm.below;have hR3:R3.length≤T.length:=dM R3 T HND3.out (fun x hx=>dw HD3.out.num hx);obtain ⟨s3,e3⟩:=HP3.out;have hRL:L≤R3.length:=(by rw [e3,List.length_append,HL.out ()];omega);go_must (refine (eU _ b1 QB3 dg mk g L T R3 vr3 rl3 HT.out HTL.out HND3.out (HD3.out.below hbx) hRL (Nat.le_trans hR3 HTL.out)).mono ?_);rintro e w4 ⟨he,vr4,hd4,hv4,ho4,ht4,hou4,hz4,hbk4⟩;subst he;have e4:R3.take L=R:=(by rw [e3,HL.out (),List.take_left]);rw [e4] at hd4;have HK4:Hid (Kp dg mk (.slice pr L cr) w w4):=(HK3.out.trans HV3.out (Kp.of_below hbx)).trans HV3.out ⟨ho4,ht4,hou4,hz4,fun b h1 h2 h3 _=>hbk4 b h1 h2 h3⟩;have HKX:Hid (Kp dg mk vr3 w3 w4):=(Kp.of_below hbx).trans (Vn.refl _ _) ⟨ho4,ht4,hou4,hz4,fun b h1 h2 h3 _=>hbk4 b h1 h2 h3⟩;have HVX:Hid (Vn vr3 vr4 w3):=Or.inl hv4;have HV4:Hid (Vn (.slice pr L cr) vr4 w):=Vn.trans HV3.out (Or.inl hv4) HK3.out.size;have HQ4:Hid (QB3+R3.length≤QB+(S.length - 1) * T.length+T.length):=(by have h:=HQ3.out;show _≤_;omega);have HD4:Hid (DerA b1 (QB3+R3.length) w4 dg mk g T R R vr4 (rl3.take L)):=hd4;have HSL4:Hid (SlN w4 (.slice p3 l3 c3) ql3∧Apn (.slice p3 l3 c3) dg mk vr4 w4):=⟨HSL3.out.1.kp HSL3.out.2.2.2 HKX.out,HSL3.out.2.2.2.kp HVX.out HKX.out.size⟩;clear hd4 hv4 ho4 ht4 hou4 hz4 hbk4 e4 e3 hR3 hRL hbx hm;have hm:=Mem.start w4)
   | (go_at_call 28;have hbx:=hm.below;have hkx:Kp dg mk (.slice pr L cr) w _:=HK4.out.trans HV4.out (Kp.of_below hbx);go_must (refine (ei _ b1 (QB3+R3.length) dg mk g B T R AR m bs cs ba ca AB l3 vr4 (rl3.take L) ql3 (leastF (fun K=>Der K gt) (fun t=>B t∨t∈F) S) _ c3 HT.out HTL.out HABx.out HC.out HAR.out (fun w' k=>HWEB.out w' (hkx.trans HV4.out k)) (HD4.out.below hbx) HLR.out ⟨Nat.lt_of_lt_of_le HLT.out.1 hkx.size,Nat.lt_of_lt_of_le HLT.out.2.1 hkx.size,Nat.le_trans HLT.out.2.2 hkx.size⟩ (by have h:=HQB.out;have h2:=HQ4.out;omega) HSL3.out.2.1 (by have h1:=HSL3.out.2.2.1.1;have h2:=cD (fun K=>Der K gt) (fun t=>B t∨t∈F) S;have h3:=HFSL.out.2;have h4:=HBD.out;have h5:=HSL3.out.2.1;omega) HSL3.out.2.2.1 (fun w' k=>HSL4.out.1.kp HSL4.out.2 ((Kp.of_below hbx).trans (Vn.refl _ _) k))).mono ?_);rintro e w5 ⟨he,vr5,rl5,R5,hd5,hl5,hk5,hv5,hs5⟩;subst he;have HK5:Hid (Kp dg mk (.slice pr L cr) w w5):=hkx.trans HV4.out hk5;have HKY:Hid (Kp dg mk vr4 w4 w5):=(Kp.of_below hbx).trans (Vn.refl _ _) hk5;have HVY:Hid (Vn vr4 vr5 w4):=Vn.trans (Vn.refl _ _) hv5 hbx.size;have HV5:Hid (Vn (.slice pr L cr) vr5 w):=Vn.trans HV4.out HVY.out HK4.out.size;have HD5:Hid (DerA b1 (QB3+R3.length) w5 dg mk g T R5 R5 vr5 rl5):=hd5;have HL5:Hid (Lrn (fun t=>B t∨t∈leastF (fun K=>Der K gt) (fun t=>B t∨t∈F) S) T R5 []):=hl5;have HS5:Hid (∃s,R5=R++s):=hs5;have HSL5:Hid (SlN w5 (.slice p3 l3 c3) ql3∧Apn (.slice p3 l3 c3) dg mk vr5 w5):=⟨HSL4.out.1.kp HSL4.out.2 HKY.out,HSL4.out.2.kp HVY.out HKY.out.size⟩;clear hd5 hl5 hk5 hv5 hs5 hkx hbx hm;have hm:=Mem.start w5)
   | (go_at_call 38;have hbx:=hm.below;have hkx:Kp dg mk (.slice pr L cr) w _:=HK5.out.trans HV5.out (Kp.of_below hbx);go_must (refine (HIH.out F (nl.take hh) hh cn _ _ (QB3+R3.length) (fun t=>B t∨t∈leastF (fun K=>Der K gt) (fun t=>B t∨t∈F) S) R5 vr5 rl5 HBD.out.2.2.2.1 (by have h:=HBD.out;omega) HFL.out HFN.out (fun w' k=>HWEB.out w' (hkx.trans HV5.out k)) (HD5.out.below hbx) HL5.out ⟨Nat.lt_of_lt_of_le HLT.out.1 hkx.size,Nat.lt_of_lt_of_le HLT.out.2.1 hkx.size,Nat.le_trans HLT.out.2.2 hkx.size⟩ (by have h:=HQB.out;have h2:=HQ4.out;omega) (HFS.out.kp HAF.out hkx) (HAF.out.kp HV5.out hkx.size)).mono ?_);rintro e w6 ⟨v6,ql6,vr6,rl6,R6,QB6,he,hs6,hn6,ha6,hd6,hnd6,hp6,hq6,hk6,hv6⟩;obtain ⟨p6,c6,hv6e,_⟩:=SlV.len hs6;obtain ⟨l6,hl6⟩:∃l,l=ql6.length:=⟨_,rfl⟩;rw [←hl6] at hv6e;subst hv6e;subst he;have HK6:Hid (Kp dg mk (.slice pr L cr) w w6):=hkx.trans HV5.out hk6;have HV6:Hid (Vn (.slice pr L cr) vr6 w):=Vn.trans HV5.out hv6 hkx.size;have HD6:Hid (DerA b1 QB6 w6 dg mk g T R6 R6 vr6 rl6∧R6.Nodup):=⟨hd6,hnd6⟩;have HP6:Hid (∃s,R6=R++s):=(by obtain ⟨s1,e1⟩:=HS5.out;obtain ⟨s3,e3⟩:=hp6;exact ⟨s1++s3,by rw [e3,e1,List.append_assoc]⟩);have HQ6:Hid (QB6≤QB+(NL.length - 1) * T.length):=(by have h1:=HQ4.out;have h2:=HQE.out;show _≤_;omega);have HSL6:Hid (SlN w6 (.slice p6 l6 c6) ql6∧l6=ql6.length∧NumsOf T ql6 (leastF (fun K=>Der K gt) (fun t=>B t∨t∈leastF (fun K=>Der K gt) (fun t=>B t∨t∈F) S) F)):=⟨hs6,hl6,hn6⟩;have HSL7:Hid (SlN w6 (.slice p3 l3 c3) ql3):=HSL5.out.1.kp HSL5.out.2 ((Kp.of_below hbx).trans (Vn.refl _ _) hk6);clear hs6 hn6 ha6 hd6 hnd6 hp6 hq6 hk6 hv6 hkx hbx hm hl6;have hm:=Mem.start w6)
   | ((with_reducible refine af (some 50) (.buildSlice 60 2 #[(0,.tmp 48),(1,.tmp 49)]) ?_);go_must (refine wpl_bsl2 (.slice none 0 0) (.slice p6 l6 c6) (.slice p3 l3 c3) cY info_ints rfl rfl rfl rfl rfl hm ?_);clear hm;intro w7 g7 hb7 hm;clear hb7)
   | (go_at_call 50;go_must (refine (concat_ints ql6 ql3 _ l6 l3 c6 c3 p6 p3 HSL6.out.2.1 HSL3.out.2.1 (by have h1:=HSL3.out.2.2.1.1;have h2:=cD (fun K=>Der K gt) (fun t=>B t∨t∈F) S;have h3:=HFSL.out;have h4:=HBD.out;have h5:=HSL3.out.2.1;have h6:=HSL6.out.2.1;have h7:=HSL6.out.2.2.1;have h8:=cD (fun K=>Der K gt) (fun t=>B t∨t∈leastF (fun K=>Der K gt) (fun t=>B t∨t∈F) S) F;omega) _ (hm.get 0 rfl) (HSL6.out.1.below hm.below) (HSL7.out.below hm.below)).mono ?_);rintro e w8 ⟨v8,he,ho8,hb8⟩;subst he;have HZ7:Hid (w6.heap.size≤w8.heap.size):=(hm.call hb8).size;have HB8:Hid (Below w6.heap.size w6 w8):=(hm.call hb8).below;have HO8:Hid (w8.ownsRow w6.heap.size 3 1 v8 (ql6++ql3).length (nums (ql6++ql3))):=World.ownsRow.base_le ho8 hm.size;clear ho8 hb8 hm))
  go_ret
  refine ⟨_,ql6++ql3,vr6,rl6,R6,QB6,rfl,bK HO8.out,?_,fun b hb=>?_,HD6.out.1.below HB8.out,HD6.out.2,HP6.out,HQ6.out,HK6.out.trans HV6.out (Kp.of_below HB8.out),HV6.out⟩
  ·rw [HNL.out,leastF_app]
   exact HSL6.out.2.2.app HSL3.out.2.2.1
  ·have h1:=av HO8.out hb
   have h2:=HK6.out.size
   have h3:=HLT.out
   refine ⟨by omega,by omega,fun he=>?_,h1.2⟩
   have h4:=(av HD6.out.1.own he.symm).2
   omega
open Go Go.RowKit Go.Shelf Go.Proofs
def sortP_ren:Go.Shelf.Ren:=⟨fun | 6=>46 | 15=>58 | 14=>57 | 28=>74 | 29=>75 | 20=>66 | 21=>67 | 22=>68 | 23=>69 | 24=>70 | 25=>71 | 26=>72 | 27=>73 | 46=>84 | 47=>85 | 48=>86 | 49=>87 | 50=>88 | 57=>99|n=>n,fun | 22=>70 | 24=>72 | 25=>75 | 3=>3 | 39=>32 | 0=>0 | 53=>107 | 55=>109 | 4=>4 | 46=>101 | 45=>100 | 50=>66 | 5=>5 | 9=>9 | 66=>120 | 70=>124 | 76=>138 | 77=>139|n=>n,fun|n=>n⟩
theorem sortP:Go.Proofs.SlLaysF0.n6 Tryz.prog sortP_ren:={
 mixed:=by kernel_rfl
 f6:=⟨Tryz.f46.name,by decide,Tryz.func46.trans (congrArg some (by kernel_rfl))⟩
 f14:=⟨Tryz.f57.name,by decide,Tryz.func57.trans (congrArg some (by kernel_rfl))⟩
 f15:=Tryz.func58.trans (congrArg some (by kernel_rfl))
 f20:=⟨Tryz.f66.name,by decide,Tryz.func66.trans (congrArg some (by kernel_rfl))⟩
 f21:=⟨Tryz.f67.name,by decide,Tryz.func67.trans (congrArg some (by kernel_rfl))⟩
 f22:=⟨Tryz.f68.name,by decide,Tryz.func68.trans (congrArg some (by kernel_rfl))⟩
 f23:=⟨Tryz.f69.name,by decide,Tryz.func69.trans (congrArg some (by kernel_rfl))⟩
 f24:=⟨Tryz.f70.name,by decide,Tryz.func70.trans (congrArg some (by kernel_rfl))⟩
 f25:=⟨Tryz.f71.name,by decide,Tryz.func71.trans (congrArg some (by kernel_rfl))⟩
 f26:=⟨Tryz.f72.name,by decide,Tryz.func72.trans (congrArg some (by kernel_rfl))⟩
 f27:=⟨Tryz.f73.name,by decide,Tryz.func73.trans (congrArg some (by kernel_rfl))⟩
 f28:=Tryz.func74.trans (congrArg some (by kernel_rfl))
 f29:=Tryz.func75.trans (congrArg some (by kernel_rfl))
 f46:=⟨Tryz.f84.name,by decide,Tryz.func84.trans (congrArg some (by kernel_rfl))⟩
 f47:=Tryz.func85.trans (congrArg some (by kernel_rfl))
 f48:=Tryz.func86.trans (congrArg some (by kernel_rfl))
 f49:=⟨Tryz.f87.name,by decide,Tryz.func87.trans (congrArg some (by kernel_rfl))⟩
 f50:=⟨Tryz.f88.name,by decide,Tryz.func88.trans (congrArg some (by kernel_rfl))⟩
 f57:=⟨Tryz.f99.name,by decide,Tryz.func99.trans (congrArg some (by kernel_rfl))⟩
 t0:=Tryz.underlying0
 a0:=Tryz.isAgg0
 z0:=Tryz.sizeOf0
 v0:=Tryz.zeroValue0
 t3:=Tryz.underlying3
 a3:=Tryz.isAgg3
 z3:=Tryz.sizeOf3
 v3:=Tryz.zeroValue3
 t4:=Tryz.underlying4
 a4:=Tryz.isAgg4
 z4:=Tryz.sizeOf4
 v4:=Tryz.zeroValue4
 t5:=Tryz.underlying5
 a5:=Tryz.isAgg5
 z5:=Tryz.sizeOf5
 v5:=Tryz.zeroValue5
 t9:=Tryz.underlying9
 a9:=Tryz.isAgg9
 z9:=Tryz.sizeOf9
 v9:=Tryz.zeroValue9
 t22:=Tryz.underlying70
 a22:=Tryz.isAgg70
 z22:=Tryz.sizeOf70
 v22:=Tryz.zeroValue70
 t25:=Tryz.underlying75
 a25:=Tryz.isAgg75
 z25:=Tryz.sizeOf75
 v25:=Tryz.zeroValue75
 t39:=Tryz.underlying32
 a39:=Tryz.isAgg32
 z39:=Tryz.sizeOf32
 v39:=Tryz.zeroValue32
 t45:=Tryz.underlying100
 a45:=Tryz.isAgg100
 z45:=Tryz.sizeOf100
 v45:=Tryz.zeroValue100
 t46:=Tryz.underlying101
 a46:=Tryz.isAgg101
 z46:=Tryz.sizeOf101
 v46:=Tryz.zeroValue101
 t50:=Tryz.underlying66
 a50:=Tryz.isAgg66
 z50:=Tryz.sizeOf66
 v50:=Tryz.zeroValue66
 t53:=Tryz.underlying107
 a53:=Tryz.isAgg107
 z53:=Tryz.sizeOf107
 v53:=Tryz.zeroValue107
 t55:=Tryz.underlying109
 a55:=Tryz.isAgg109
 z55:=Tryz.sizeOf109
 v55:=Tryz.zeroValue109
 t66:=Tryz.underlying120
 a66:=Tryz.isAgg120
 z66:=Tryz.sizeOf120
 v66:=Tryz.zeroValue120
 t70:=Tryz.underlying124
 a70:=Tryz.isAgg124
 z70:=Tryz.sizeOf124
 v70:=Tryz.zeroValue124
 t76:=Tryz.underlying138
 a76:=Tryz.isAgg138
 z76:=Tryz.sizeOf138
 v76:=Tryz.zeroValue138
 t77:=Tryz.underlying139
 a77:=Tryz.isAgg139
 z77:=Tryz.sizeOf139
 v77:=Tryz.zeroValue139}
open Go Go.RowKit Go.Maps Go.Sort
theorem cmpB_neg:∀(a b:List UInt8),Lib.compareBytes a b<0↔a<b
 | [],[]=>by simp [Lib.compareBytes]
 | [],_::_=>by simp [Lib.compareBytes]
 | _::_,[]=>by simp [Lib.compareBytes]
 | a::as_,b::bs_=>by
  have ih:=cmpB_neg as_ bs_
  rw [List.cons_lt_cons_iff]
  unfold Lib.compareBytes
  by_cases h1:a<b
  ·rw [if_pos h1];exact ⟨fun _=>Or.inl h1,fun _=>by omega⟩
  ·rw [if_neg h1]
   by_cases h2:b<a
   ·rw [if_pos h2]
    exact ⟨fun h=>by omega,fun h=>h.elim (fun h=>absurd h h1) (fun h=>absurd h2 (by rw [h.1];exact UInt8.lt_irrefl _))⟩
   ·rw [if_neg h2,ih]
    have he:a=b:=UInt8.le_antisymm (UInt8.not_lt.1 h2) (UInt8.not_lt.1 h1)
    exact ⟨fun h=>Or.inr ⟨he,h⟩,fun h=>h.elim (fun h=>absurd h h1) (·.2)⟩
def cfB (x y:ByteArray):Int:=Lib.compareBytes (bs x) (bs y)
theorem ltB (x y:ByteArray):ltOf cfB x y=decide (bs x<bs y):=by
 unfold ltOf cfB
 rw [Bool.eq_iff_iff,decide_eq_true_eq,decide_eq_true_eq]
 exact cmpB_neg _ _
theorem swoB:SWO (ltOf cfB) where
 irrefl x:=by rw [ltB];simp [List.lt_irrefl]
 trans x y z h1 h2:=by
  rw [ltB,decide_eq_true_eq] at *
  exact List.lt_trans h1 h2
 ntrans x y z h1 h2:=by
  rw [ltB,decide_eq_false_iff_not] at *
  exact List.not_lt.2 (List.le_trans (List.not_lt.1 h2) (List.not_lt.1 h1))
theorem totB (x y:ByteArray) (h1:ltOf cfB x y=false) (h2:ltOf cfB y x=false):x=y:=by
 rw [ltB,decide_eq_false_iff_not] at *
 exact bs_inj (List.le_antisymm (List.not_lt.1 h2) (List.not_lt.1 h1))
theorem cstr_any (x y:ByteArray) (w:World):Calls Tryz.prog 59 #[.string x,.string y] w fun e w'=>e=.returned (.int .i64 (cfB x y))∧w'=w:=by
 go_enter Tryz.func59,Tryz.ntmps59
 go_wp2
 rw [run_callFunc_extern Tryz.func76 (by kernel_rfl) (by kernel_rfl) (by kernel_rfl) (e:=Extern.BytealgCompare.compare) (by kernel_rfl),Lib.run_compareString]
 simp only [Result.andThen]
 rw [Oper.upon_value]
 go_wp2
 go_ret
 exact ⟨rfl,rfl⟩
theorem compare_any (x y:ByteArray) (w:World):Calls Tryz.prog 48 #[.string x,.string y] w fun e w'=>e=.returned (.int .i64 (cfB x y))∧w'=w:=by
 go_enter Tryz.func48,Tryz.ntmps48
 go_wp2_with (go_at_call 59;refine (cstr_any x y _).mono ?_;rintro e w' ⟨he,hw⟩;subst he hw)
 go_ret
 exact ⟨rfl,rfl⟩
def Grw (w w':World):Prop:=∃q os,w'=grow (w.drewN q) os
theorem Grw.refl (w:World):Grw w w:=⟨0,#[],by simp [grow,World.drewN]⟩
theorem Grw.alloc {w w':World} (h:Grw w w') (o:Obj):Grw w (w'.alloc o):=by
 obtain ⟨q,os,rfl⟩:=h
 exact ⟨q,os++#[o],by rw [alloc_eq_grow,grow_grow]⟩
section
variable {P:Program} {ops:Array Oper} {rest:List Oper} {a:Act} {w w0:World} {Q:Exit→Act→World→Prop} {dst:Option Tmp} {typ:TypeId} {pos:String} {aft:Array Edge} {S:List Nat} {rows:List (Nat×List Value×TypeId)}
theorem wpl_boxG {ty:TypeId} {x:Operand} (l:List Value) (hx:a.eval x=.agg l.toArray) (hm:Mem w0 S w rows) (hg:Grw w0 w)
  (h:∀w' g,Mem w0 S w' ((g,l,ty)::rows)→Grw w0 w'→wpList P ops Q rest (a.put dst (.pointer (some ⟨g,0,none⟩))) w') :
  wpList P ops Q ({dst:=dst,op:=.box ty x,type:=typ,pos:=pos,after:=aft,guard:=none}::rest) a w:=by
 refine wpList_plain rfl fun K hK=>?_
 have hh:=hK _ _ (h _ _ (hm.alloc l ty) (hg.alloc _))
 unfold Oper.wp execOp
 simp [Instr.box,newVar,newRow,newObj,hx,Value.cells]
 exact hh
end
def encP (F:ByteArray→List Value) (b:ByteArray):List Value:=.string b::F b
theorem ag_pr:∀w,(isAgg 72).run Tryz.prog w=.ok true w:=by intro w;simp [go_sem]
theorem szo_pr:∀w,(Go.sizeOf 72).run Tryz.prog w=.ok 4 w:=by intro w;simp [go_sem]
theorem byText_any (F:ByteArray→List Value) (x y:ByteArray) (w:World) :
  Calls Tryz.prog 47 #[.agg (encP F x).toArray,.agg (encP F y).toArray] w fun e w'=>e=.returned (.int .i64 (cfB x y))∧Grw w w':=by
 have hm:=Mem.start w
 have hg:=Grw.refl w
 obtain ⟨X,hX⟩:∃X,X=encP F x:=⟨_,rfl⟩
 obtain ⟨Y,hY⟩:∃Y,Y=encP F y:=⟨_,rfl⟩
 have HX0:Hid (X[0]?=some (.string x)):=by rw [hX];rfl
 have HY0:Hid (Y[0]?=some (.string y)):=by rw [hY];rfl
 rw [←hX,←hY]
 clear hX hY
 go_enter Tryz.func47,Tryz.ntmps47
 go_wp2_with (first
  | ((with_reducible refine af (some 2) (.box 72 (.tmp 0)) ?_);go_must (refine wpl_boxG X rfl hm hg ?_);clear hm hg;intro w1 g1 hm hg)
  | ((with_reducible refine af (some 3) (.box 72 (.tmp 1)) ?_);go_must (refine wpl_boxG Y rfl hm hg ?_);clear hm hg;intro w2 g2 hm hg)
  | ((with_reducible refine af (some 6) (.load 9 (.tmp 5)) ?_);go_must (refine aa (.string x) rfl (ad (.string x) ((Mem.cell hm 1 rfl 0).trans HX0.out) rfl bf) ?_))
  | ((with_reducible refine af (some 8) (.load 9 (.tmp 7)) ?_);go_must (refine aa (.string y) rfl (ad (.string y) ((Mem.cell hm 0 rfl 0).trans HY0.out) rfl bf) ?_))
  | (go_at_call 48;refine (compare_any x y _).mono ?_;rintro e w' ⟨he,hw⟩;subst he hw))
 go_ret
 exact ⟨rfl,hg⟩
theorem sort_p {w:World} {g cap:Nat} (F:ByteArray→List Value) (hF:∀b,(F b).length=3) (hF1:∀b,∀v∈F b,v.oneCell'=true) (L:List ByteArray) (cur:Array Value) (e:TypeId) (hg:w.heap[g]?=some (.cells cur e (0,0))) (hc:∀i b,L[i]?=some b→∀j x,(encP F b)[j]?=some x→w.cell? ⟨g,i * 4+j,none⟩=some x) (hsz:L.length≤100000) :
  Calls Tryz.prog 46 #[.slice (some ⟨g,0,none⟩) L.length cap,.func (.func 47) #[] #[]] w fun e w'=>e=.returned (.tuple #[])∧∃L':List ByteArray,L'.Perm L∧L'.Pairwise (fun x y=>¬bs y<bs x)∧(∀i b,L'[i]?=some b→∀j x,(encP F b)[j]?=some x→w'.cell? ⟨g,i * 4+j,none⟩=some x)∧w.grownBy w' (some g):=by
 have h4:∀b,(encP F b).length=4:=fun b=>by unfold encP;rw [List.length_cons,hF]
 obtain ⟨d,hd⟩:∃d:Array ByteArray,d=L.toArray:=⟨_,rfl⟩
 have hds:d.size=L.length:=by rw [hd];simp
 have hdi:∀i,i<L.length→∃b,L[i]?=some b∧d[i]! = b:=fun i hi=>⟨L[i],by simp [hi],by rw [hd];simp [hi]⟩
 have hglt:g<w.heap.size:=(Array.getElem?_eq_some_iff.1 hg).1
 have hH:HoldsK (encP F) 4 w g 0 d:=by
  intro t ht
  rw [size_flatK] at ht
  obtain ⟨b,hk,he⟩:=hdi (t / 4) (by omega)
  rw [get_flatK _ _ _ _ ht,he]
  refine ⟨?_,by simp [World.frozen?,hg]⟩
  have h1:=hc (t / 4) b hk (t % 4) ((encP F b)[t % 4]!) (by rw [List.getElem!_eq_getElem?_getD,List.getElem?_eq_getElem (by rw [h4];omega)];rfl)
  rw [show t / 4 * 4+t % 4=0+t by omega] at h1
  exact h1
 have eg:∀args w,(callFunc 47 args).run Tryz.prog w=.ok (.enter 47 args) w:=enters_of Tryz.func47 (by kernel_rfl) rfl
 have hcmp:CmpLays Tryz.prog 47 #[] (encP F) 4 cfB g 0 d.size w:=fun _ _ _ _ x y=>(byText_any F x y _).mono (fun _ _ h=>h)
 have hcon:=AnyQ.slices_SortFunc_total sortP 4 ag_pr szo_pr (encP F) h4 (fun x v hv=>by
  rcases List.mem_cons.1 hv with rfl|hv
  ·rfl
  ·exact hF1 x v hv) cfB swoB 47 #[] g 0 cap d w eg hcmp hH hglt (by omega) totB
 rw [hds] at hcon
 refine Calls.mono (show Calls Tryz.prog 46 _ w _ from hcon) ?_
 rintro e' w' ⟨rfl,n,os,hw⟩
 obtain ⟨M,hM⟩:∃M,M=d.toList.mergeSort fun x y => !(ltOf cfB) y x:=⟨_,rfl⟩
 rw [←hM] at hw
 have hMp:M.Perm L:=by
  rw [hM,hd]
  exact List.mergeSort_perm _ _
 have hMl:M.length=L.length:=hMp.length_eq
 have hMs:M.Pairwise fun x y=>(!(ltOf cfB) y x)=true:=by
  rw [hM]
  refine List.pairwise_mergeSort (fun a b c h1 h2=>?_) (fun a b=>?_) _
  ·simp only [Bool.not_eq_true'] at *
   exact swoB.ntrans c b a h2 h1
  ·cases h1:ltOf cfB b a with
   | false=>rfl
   | true =>
    cases h2:ltOf cfB a b with
    | false=>rfl
    | true=>exact absurd (swoB.trans a b a h2 h1) (by rw [swoB.irrefl];simp)
 have hH':HoldsK (encP F) 4 w' g 0 M.toArray:=by
  rw [hw]
  exact holdsK_sortWorldK_c (encP F) 4 w g 0 d M.toArray n os hH hglt (by rw [hds];simpa using hMl)
 refine ⟨rfl,M,hMp,hMs.imp fun {x y} h=>by rw [ltB] at h;simpa using h,fun i b hi j x hx=>?_,?_⟩
 ·have hiM:i<M.length:=(List.getElem?_eq_some_iff.1 hi).1
  have hj3:j<4:=by have:=(List.getElem?_eq_some_iff.1 hx).1;rw [h4] at this;exact this
  have h1:=(HoldsK.cell hH' (i:=i) (c:=j) (by simpa using hiM) hj3).1
  rw [Nat.zero_add] at h1
  rw [h1]
  have e1:M.toArray[i]! = b:=by
   have:M[i]=b:=by have:=(List.getElem?_eq_some_iff.1 hi).2;exact this
   simp [hiM,this]
  rw [e1,List.getElem!_eq_getElem?_getD,hx];rfl
 ·rw [hw]
  refine ⟨rfl,rfl,rfl,?_,fun k hk hne=>?_⟩
  ·show w.heap.size≤((w.heap.modify g _)++os).size
   simp
  ·show ((w.heap.modify g _)++os)[k]?=w.heap[k]?
   rw [Array.getElem?_append_left (by simpa using hk),Array.getElem?_modify,if_neg (fun h=>hne (by rw [h]))]
end Go.Proofs.YtcibhfcjbokdlaaGreatDoor
