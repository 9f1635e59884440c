import Derived.Test.YtnllomcajijbjaaGreatDoorQp07
import Derived.OrdersHeld
import Derived.Shelf.Abstract
import Derived.Test.YtnllomcajijbjaaGreatDoorQp08
import Derived.Test.YtnllomcajijbjaaGreatDoorQp10
import Derived.Test.YtnllomcajijbjaaGreatDoorQp13
import Derived.Test.YtnllomcajijbjaaGreatDoorQp12
set_option maxRecDepth 100000
set_option maxHeartbeats 4000000
namespace Go.Proofs.YtnllomcajijbjaaGreatDoor
open Go Go.RowKit Go.Shelf
def laidL (a:Act):List (Nat×Option Value)→Act
 | []=>a
 | (t,some v)::l=>laidL (a.put (some t) v) l
 | (_,none)::l=>laidL a l
theorem act_put_eval {a:Act} {s t:Nat} (h:t≠s) (v:Value):(a.put (some s) v).eval (.tmp t)=a.eval (.tmp t):=by
 simp [Act.put,Act.eval,Array.getD_eq_getD_getElem?,Ne.symm h]
theorem act_put_same {a:Act} {t:Nat} (h:t<a.tmps.size) (v:Value):(a.put (some t) v).eval (.tmp t)=v:=by
 simp [Act.put,Act.eval,Array.getD_eq_getD_getElem?,h]
theorem act_put_size (a:Act) (t:Option Nat) (v:Value):(a.put t v).tmps.size=a.tmps.size:=by
 cases t<;>simp [Act.put]
theorem act_put_comm (a:Act) {s t:Nat} (h:s≠t) (u v:Value):(a.put (some s) u).put (some t) v=(a.put (some t) v).put (some s) u:=by
 simp only [Act.put]
 congr 1
 apply Array.ext_getElem?
 intro i
 simp only [Array.getElem?_setIfInBounds,Array.size_setIfInBounds]
 by_cases h1:t=i
 ·by_cases h2:s=i
  ·omega
  ·simp [h1,h2]
 ·by_cases h2:s=i<;>simp [h1,h2]
theorem jM (a:Act) {t:Nat} (u v:Value):(a.put (some t) u).put (some t) v=a.put (some t) v:=by
 simp only [Act.put]
 congr 1
 apply Array.ext_getElem?
 intro i
 simp only [Array.getElem?_setIfInBounds,Array.size_setIfInBounds]
 by_cases h1:t=i<;>simp [h1]
theorem fy:∀(l:List (Nat×Option Value)) (a:Act) (t:Nat),t ∉ l.map Prod.fst→(laidL a l).eval (.tmp t)=a.eval (.tmp t)
 | [],_,_,_=>rfl
 | (s,some v)::l,a,t,h=>by
  simp only [List.map_cons,List.mem_cons,not_or] at h
  rw [laidL,fy l _ t h.2,act_put_eval h.1]
 | (_,none)::l,a,t,h=>by
  simp only [List.map_cons,List.mem_cons,not_or] at h
  rw [laidL,fy l a t h.2]
theorem fD:∀(l:List (Nat×Option Value)) (a:Act) (t:Nat) (v:Value),t ∉ l.map Prod.fst→laidL (a.put (some t) v) l=(laidL a l).put (some t) v
 | [],_,_,_,_=>rfl
 | (s,some u)::l,a,t,v,h=>by
  simp only [List.map_cons,List.mem_cons,not_or] at h
  rw [laidL,laidL,act_put_comm a h.1,fD l _ t v h.2]
 | (_,none)::l,a,t,v,h=>by
  simp only [List.map_cons,List.mem_cons,not_or] at h
  rw [laidL,laidL,fD l a t v h.2]
def setF {α:Type} (f:Nat→α) (i:Nat) (x:α):Nat→α:=fun j=>if j=i then x else f j
theorem aK {α:Type} (f:Nat→α) (i:Nat) (x:α):setF f i x i=x:=by simp [setF]
theorem af {α:Type} (f:Nat→α) {i j:Nat} (x:α) (h:j≠i):setF f i x j=f j:=by simp [setF,h]
def laidC (a:Act) (ts:List Nat) (c:Nat→Option Value):Act:=laidL a (ts.map fun t=>(t,c t))
theorem i1 (a:Act) (ts:List Nat):laidC a ts (fun _=>none)=a:=by
 unfold laidC
 induction ts generalizing a with
 | nil=>rfl
 | cons t ts ih=>exact ih a
theorem gX (ts:List Nat) (c:Nat→Option Value):(ts.map fun t=>(t,c t)).map Prod.fst=ts:=by simp [Function.comp_def]
theorem bS {a:Act} {ts:List Nat} {c:Nat→Option Value} {t:Nat} (h:t ∉ ts):(laidC a ts c).eval (.tmp t)=a.eval (.tmp t) :=
 fy _ _ _ (by rw [gX];exact h)
theorem aX:∀ {ts:List Nat} {a:Act} {c:Nat→Option Value} {t:Nat} {v:Value},ts.Nodup→t∈ts→t<a.tmps.size→c t=some v→(laidC a ts c).eval (.tmp t)=v
 | [],_,_,_,_,_,h,_,_=>by cases h
 | s::ts,a,c,t,v,hn,h,hs,hc=>by
  rw [List.nodup_cons] at hn
  by_cases he:t=s
  ·subst he
   show (laidL a ((t,c t)::ts.map fun t=>(t,c t))).eval _=v
   rw [hc,laidL,fy _ _ _ (by rw [gX];exact hn.1),act_put_same hs]
  ·have hm:t∈ts:=by simpa [he] using h
   show (laidL a ((s,c s)::ts.map fun t=>(t,c t))).eval _=v
   cases hcs:c s with
   | none=>exact aX hn.2 hm hs hc
   | some u=>exact aX hn.2 hm (by rw [act_put_size];exact hs) hc
theorem a8:∀ {ts:List Nat} {a:Act} {c:Nat→Option Value} {t:Nat} (v:Value),ts.Nodup→t∈ts→(laidC a ts c).put (some t) v=laidC a ts (setF c t (some v))
 | [],_,_,_,_,_,h=>by cases h
 | s::ts,a,c,t,v,hn,h=>by
  rw [List.nodup_cons] at hn
  by_cases he:t=s
  ·subst he
   have e:(ts.map fun s=>(s,setF c t (some v) s))=ts.map fun s=>(s,c s):=List.map_congr_left fun s hs=>by
    have hne:s≠t:=fun e=>hn.1 (by rw [←e];exact hs)
    rw [af c _ hne]
   show (laidL a ((t,c t)::ts.map fun t=>(t,c t))).put _ v=laidL a ((t,setF c t (some v) t)::ts.map fun s=>(s,setF c t (some v) s))
   rw [e,aK,laidL]
   have hn2:t ∉ (ts.map fun t=>(t,c t)).map Prod.fst:=by rw [gX];exact hn.1
   cases hc:c t with
   | none=>rw [laidL,fD _ _ _ _ hn2]
   | some u=>rw [laidL,←fD _ _ _ _ hn2,jM]
  ·have hm:t∈ts:=by simpa [he] using h
   show (laidL a ((s,c s)::ts.map fun t=>(t,c t))).put _ v=laidL a ((s,setF c t (some v) s)::ts.map fun s=>(s,setF c t (some v) s))
   rw [af c _ (fun e=>he e.symm)]
   cases hcs:c s with
   | none=>exact a8 v hn.2 hm
   | some u=>exact a8 v hn.2 hm
def predsOf (ops:Array Oper) (i:Nat):List Nat:=((ops[i]?).map fun o=>(o.after.toList.filter (Region.binds .any)).map (·.on)).getD []
section
variable {P:Program} {ops:Array Oper} {R:Act→World→Prop} {T:World→Prop}
theorem ready_mem {L:Array Bool} {i:Nat} (h:i∈Region.ready .any ops L):i<ops.size∧L.getD i true=false∧∀j∈predsOf ops i,L.getD j false=true:=by
 unfold Region.ready at h
 simp only [List.mem_filter,List.mem_range,Bool.and_eq_true,Bool.not_eq_true'] at h
 obtain ⟨h1,h2,h3⟩:=h
 refine ⟨h1,h2,fun j hj=>?_⟩
 unfold predsOf at hj
 cases ho:ops[i]? with
 | none=>rw [ho] at hj;simp at hj
 | some o =>
  rw [ho] at hj h3
  simp only [Option.map_some,Option.getD_some,Array.all_eq_true_iff_forall_mem,Bool.or_eq_true,Bool.not_eq_true'] at h3
  simp only [Option.map_some,Option.getD_some,List.mem_map,List.mem_filter] at hj
  obtain ⟨e,⟨he,hb⟩,rfl⟩:=hj
  rcases h3 e (by simpa using he) with h|h
  ·rw [hb] at h;cases h
  ·exact h
theorem ready_none {L:Array Bool} (hL:L.size=ops.size) (hup:((List.range ops.size).all fun i=>(predsOf ops i).all fun j=>decide (j<i))=true) (h:Region.ready .any ops L=[]):∀i,i<ops.size→L.getD i false=true:=by
 intro i
 induction i using Nat.strongRecOn with
 | ind i ih =>
  intro hi
  cases hb:L.getD i false with
  | true=>rfl
  | false =>
   exfalso
   have hm:i∈Region.ready .any ops L:=by
    unfold Region.ready
    simp only [List.mem_filter,List.mem_range,Bool.and_eq_true,Bool.not_eq_true']
    refine ⟨hi,?_,?_⟩
    ·rw [Array.getD_eq_getD_getElem?,Array.getElem?_eq_getElem (by omega)] at hb ⊢
     exact hb
    ·rw [Array.getElem?_eq_getElem hi]
     simp only [Option.map_some,Option.getD_some,Array.all_eq_true_iff_forall_mem,Bool.or_eq_true,Bool.not_eq_true']
     intro e he
     cases hbe:Region.binds .any e with
     | false=>exact Or.inl rfl
     | true =>
      right
      have hj:e.on∈predsOf ops i:=by
       unfold predsOf
       rw [Array.getElem?_eq_getElem hi]
       simp only [Option.map_some,Option.getD_some,List.mem_map,List.mem_filter]
       exact ⟨e,⟨by simpa using he,hbe⟩,rfl⟩
      have hlt:e.on<i:=by
       have:=List.all_eq_true.1 hup i (List.mem_range.2 hi)
       have:=List.all_eq_true.1 this _ hj
       simpa using this
      exact ih _ hlt (by omega)
   rw [h] at hm
   cases hm
theorem dag_go {n:Nat} (I:(Nat→Bool)→Act→World→Prop) (hn:ops.size=n) (hT:∀b a w,I b a w→T w)
  (hup:((List.range ops.size).all fun i=>(predsOf ops i).all fun j=>decide (j<i))=true)
  (hstep:∀b a w i,I b a w→i<n→b i=false→(∀j∈predsOf ops i,b j=true)→(∀j,j<n→b j=true→∀k∈predsOf ops j,b k=true)→wpOp P ops (endsIn R) i (fun a' w'=>I (setF b i true) a' w') a w)
  (hend:∀b a w,I b a w→(∀i,i<n→b i=true)→R a w) :
  ∀(fuel:Nat) (L:Array Bool) (a:Act) (w:World),L.size=n→L.toList.count false≤fuel→(∀j,j<n→L.getD j false=true→∀k∈predsOf ops j,L.getD k false=true)→I (fun j=>L.getD j false) a w→wpAnyH P .any ops (endsIn R) T fuel L a w:=by
 intro fuel
 induction fuel with
 | zero =>
  intro L a w hL hc hcl hI
  have hall:∀i,i<n→L.getD i false=true:=by
   intro i hi
   cases hb:L.getD i false with
   | true=>rfl
   | false =>
    exfalso
    rw [Array.getD_eq_getD_getElem?,Array.getElem?_eq_getElem (by omega)] at hb
    have hm:false∈L.toList:=by rw [←(show L[i]=false from hb)];simp
    have:=List.count_pos_iff.2 hm
    omega
  have hr:Region.ready .any ops L=[]:=by
   cases hq:Region.ready .any ops L with
   | nil=>rfl
   | cons i l =>
    exfalso
    have hm:i∈Region.ready .any ops L:=by rw [hq];simp
    obtain ⟨h1,h2,_⟩:=ready_mem hm
    have h3:=hall i (by omega)
    rw [Array.getD_eq_getD_getElem?,Array.getElem?_eq_getElem (by omega)] at h2 h3
    have h4:L[i]=false:=h2
    have h5:L[i]=true:=h3
    rw [h4] at h5
    cases h5
  exact ⟨hr,hend _ a w hI hall⟩
 | succ fuel ih =>
  intro L a w hL hc hcl hI
  refine ⟨fun h=>hend _ a w hI (fun i hi=>ready_none (by omega) hup h i (by omega)),fun i hi=>?_⟩
  obtain ⟨h1,h2,h3⟩:=ready_mem hi
  have hb:L.getD i false=false:=by
   rw [Array.getD_eq_getD_getElem?,Array.getElem?_eq_getElem (by omega)] at h2 ⊢
   exact h2
  refine wpOp_mono ?_ (hstep (fun j=>L.getD j false) a w i hI (by omega) hb h3 hcl)
  intro a' w' h
  have e:(fun j=>(L.setIfInBounds i true).getD j false)=setF (fun j=>L.getD j false) i true:=by
   funext j
   unfold setF
   by_cases hji:j=i
   ·subst hji
    rw [if_pos rfl,Array.getD_eq_getD_getElem?,Array.getElem?_setIfInBounds,if_pos rfl,if_pos (by omega)]
    rfl
   ·rw [if_neg hji,Array.getD_eq_getD_getElem?,Array.getElem?_setIfInBounds,if_neg (fun e=>hji e.symm),←Array.getD_eq_getD_getElem?]
  refine ⟨hT _ _ _ h,ih _ a' w' (by simp [hL]) ?_ ?_ ?_⟩
  ·rw [Array.toList_setIfInBounds,List.count_set (by simp;omega)]
   have hgi:L.toList[i]'(by simp;omega)=false:=by
    rw [Array.getD_eq_getD_getElem?,Array.getElem?_eq_getElem (by omega)] at hb
    simpa using hb
   have hpos:0<L.toList.count false:=List.count_pos_iff.2 (by rw [←hgi];simp)
   rw [hgi]
   simp only [beq_self_eq_true,if_true,show ((true:Bool)==false)=false from rfl,Bool.false_eq_true,if_false]
   omega
  ·intro j hj hjt k hk
   have e2:∀q,(L.setIfInBounds i true).getD q false=setF (fun j=>L.getD j false) i true q:=fun q=>congrFun e q
   rw [e2] at hjt ⊢
   by_cases hki:k=i
   ·rw [hki,aK]
   ·rw [af _ _ hki]
    by_cases hji:j=i
    ·rw [hji] at hk
     exact h3 k hk
    ·rw [af _ _ hji] at hjt
     exact hcl j hj hjt k hk
  ·rw [e]
   exact h
theorem bE {K:Act→World→Prop} {a:Act} {w:World} (i:Nat) {o:Oper} (hi:ops[i]?=some o) (hg:o.guard=none)
  (h:∀K':Act→World→Prop,(∀a' w',K a' w'→K' a' w')→wpList P ops (endsIn K') [o] a w):wpOp P ops (endsIn R) i K a w:=by
 have hh:=h K (fun _ _ h=>h)
 unfold wpOp
 simp only [hi]
 have hw:Region.wanted o (yielded ops a.tmps)=true:=by simp [Region.wanted,hg]
 unfold wpList at hh
 rw [if_pos hw] at hh
 rw [if_pos hw]
 exact hh
end
section
variable {P:Program} {ops:Array Oper} {rest:List Oper} {a:Act} {w:World} {Q:Exit→Act→World→Prop} {dst:Option Tmp} {typ:TypeId} {pos:String} {aft:Array Edge}
theorem b4 {f:FuncId} {args:Array Operand} {ats:Array TypeId} {vs:Array Value} {post:Ending→World→Prop} (he:Enters P f) (hv:args.map a.eval=vs) (hc:Calls P f vs w post)
  (h:∀e w',post e w'→∃v,e=.returned v∧wpList P ops Q rest (a.put dst v) w') :
  wpList P ops Q ({dst:=dst,op:=.call {callee:=.value (.func f),args:=args,argTypes:=ats},type:=typ,pos:=pos,after:=aft,guard:=none}::rest) a w:=by
 refine wpList_plain rfl fun K hK=>?_
 unfold Oper.wp execOp
 have e1:(resolve a.eval {callee:=.value (.func f),args:=args,argTypes:=ats} typ).run P w=.ok {target:=.fn (.func f) #[],args:=vs} w:=by
  simp [resolve,Deferred.ofValue,Act.eval,hv]
 simp only [Sem.run_bind,e1,Result.andThen_ok,invoke,Array.append_empty,he vs w]
 refine hc.mono ?_
 intro e w' hp
 obtain ⟨v,rfl,hh⟩:=h e w' hp
 exact hK _ _ hh
theorem fH {x:Operand} {v:Value} (hx:a.eval x=v) (h:wpList P ops Q rest (a.put dst v) w) :
  wpList P ops Q ({dst:=dst,op:=.move x,type:=typ,pos:=pos,after:=aft,guard:=none}::rest) a w:=by
 refine wpList_plain rfl fun K hK=>?_
 unfold Oper.wp execOp
 simp only [hx,Sem.run_pure]
 exact hK _ _ h
theorem aW {K:Act→World→Prop} (h:K a w):wpList P ops (endsIn K) [] a w:=h
end
open Go Go.RowKit
theorem dU:Tryz.prog.built 39 []=some (u8s (List.replicate 32 0)).toArray:=by kernel_rfl
theorem wrap_any (ks ms:List Int) (p n:Int) (hkl:ks.length=32) (hml:ms.length=32) (hkb:Bytes ks) (hmb:Bytes ms) (hp:0≤p∧p<4294967296) (w:World) (ht:Tab w) (hq:QTab w) :
  Calls Tryz.prog 24 #[.agg (u8s ks).toArray,.int .u32 p,.int .u64 n,.agg (u8s ms).toArray] w fun e w'=>e=.returned (.agg (u8s (sealOf ks (nonceOf p n) labWrap ms)).toArray)∧Below w.heap.size w w':=by
 have hm:=Mem.start w
 have HT:Hid _:=ht
 have HQ:Hid _:=hq
 have HKL:Hid _:=hkl
 have HKB:Hid _:=hkb
 have HP:Hid (0≤p∧p<4294967296):=hp
 have HKU:Hid ((u8s ks).length=32):=by show _=_;rw [ab];exact hkl
 obtain ⟨ns,hns⟩:∃ns,ns=nonceOf p n:=⟨_,rfl⟩
 have HNN:Hid (∀_:Unit,nonceOf p n=ns):=fun _=>hns.symm
 have HNL:Hid (ns.length=12):=by show _=_;rw [hns,da]
 have HNB:Hid (Bytes ns):=by rw [hns];exact et _ _
 have HML:Hid _:=hml
 have HMB:Hid _:=hmb
 obtain ⟨X,hX⟩:∃X,X=sealOf ks ns labWrap ms:=⟨_,rfl⟩
 have HSS:Hid (∀_:Unit,sealOf ks ns labWrap ms=X):=fun _=>hX.symm
 have HXX:Hid (∀_:Unit,sealOf ks (nonceOf p n) labWrap ms=X):=fun _=>by rw [hX,hns]
 have HXU:Hid ((u8s X).length=48):=by show _=_;rw [ab,hX,fS,hml]
 clear ht hq hkl hml hkb hmb hp hns hX
 go_enter Tryz.func24,Tryz.ntmps24
 go_wp2_with (first
  | ((with_reducible refine aa (some 4) (.box 39 (.tmp 0)) ?_);refine aB (u8s ks) rfl hm ?_;clear hm;intro w1 g4 hm)
  | ((with_reducible refine aa (some 7) (.box 39 (.tmp 3)) ?_);refine aB (u8s ms) rfl hm ?_;clear hm;intro w2 g7 hm)
  | ((with_reducible refine aa (some 8) (.alloc 65) ?_);refine aj _ zero_b48 hm ?_;clear hm;intro w3 g8 hm))
 refine au ?_
 refine a6 (T:=fun W=>Mem w [] W [(g7,u8s ms,39),(g4,u8s ks,39)]) (by kernel_rfl) hm ?_
 clear hm
 intro w4 hm
 refine aG 0 (v:=.agg (u8s ks).toArray) rfl (by kernel_rfl) rfl (fun W hW=>ao 0 _ (Mem.get hW 1 rfl) rfl _ aS rfl 32 az (by rw [HKU.out];omega) (by rw [List.drop_zero,List.take_of_length_le (Nat.le_of_eq HKU.out)])) hm.tail ?_
 go_simp
 refine aG 1 (v:=.int .u32 p) rfl (by kernel_rfl) rfl (fun W _=>by go_simp) hm.tail ?_
 go_simp
 refine aG 2 (v:=.int .u64 n) rfl (by kernel_rfl) rfl (fun W _=>by go_simp) hm.tail ?_
 go_simp
 refine aG 6 (v:=.slice (some ⟨g7,0,none⟩) 32 32) rfl (by kernel_rfl) rfl (fun W _=>by go_simp) hm.tail ?_
 go_simp
 refine wpAnyH_all (rs:=[3,4]) (by kernel_rfl) (by simp) ?_
 intro i hi
 simp only [List.mem_cons,List.not_mem_nil,or_false] at hi
 rcases hi with rfl|rfl
 ·refine aF 3 rfl rfl ?_
  intro K hK
  go_wp2_with (go_at_call 41;refine (cF p n HP.out _).mono ?_;rintro e wn ⟨he,hb⟩;rw [HNN.out ()] at he;subst he;replace hm:=hm.call hb;clear hb)
  refine hK _ _ hm.tail ?_
  clear hK K
  refine aP 4 (by kernel_rfl) rfl rfl ?_
  intro K hK
  refine ey aU eV hm ?_
  clear hm
  intro wl gl hm hb
  clear hb
  refine wpList_nil ?_
  refine hK _ _ hm.tail.tail ?_
  clear hK K
  refine aP 5 (by kernel_rfl) rfl rfl ?_
  intro K hK
  refine dH labWrap rfl aU cy rfl rfl hm ?_
  clear hm
  intro wv hm hs
  have HW:Hid (SlOld wv (.slice (some ⟨gl,0,none⟩) 4 4) labWrap):=hs
  clear hs
  refine wpList_nil ?_
  refine hK _ _ hm.tail ?_
  clear hK K
  refine aP 7 (by kernel_rfl) rfl rfl ?_
  intro K hK
  go_wp2_with (go_at_call 40;refine (ju ks ns labWrap ms _ _ HKL.out HNL.out HKB.out HNB.out bI HMB.out (by decide) (by rw [HML.out];omega) _ (Tab.mem HT.out hm (by simp)) (QTab.mem HQ.out hm (by simp)) HW.out (bB (hm.get 1 rfl) HML.out (Nat.le_refl _))).mono ?_;rintro e wx ⟨gs,cap,l,he,hcap,hge,hr,hb⟩;rw [HML.out] at he hcap;subst he;rw [HSS.out ()] at hr;replace hm:=hm.callNew hb hr hge;clear hb hr hge)
  refine hK _ _ hm.tail.tail ?_
  clear hK K
  refine aG 8 (v:=.pointer (some ⟨gs,0,none⟩)) rfl (by kernel_rfl) rfl (fun W _=>dV 48 dD (by omega) rfl) hm.tail.tail ?_
  go_simp
  refine aP 9 (by kernel_rfl) rfl rfl ?_
  intro K hK
  refine ae (.agg (u8s X).toArray) rfl (bJ 0 _ (hm.get 0 rfl) rfl _ dD rfl 48 d3 (by rw [List.length_append,HXU.out];omega) (by rw [List.drop_zero,List.take_append_of_le_length (by rw [HXU.out];omega),List.take_of_length_le (Nat.le_of_eq HXU.out)])) ?_
  refine wpList_nil ?_
  refine hK _ _ hm.tail.tail ?_
  clear hK K
  refine aP 10 (by kernel_rfl) rfl rfl ?_
  intro K hK
  refine ap 1 (u8s X) hm rfl rfl rfl 48 d3 (by simp [ab]) HXU.out (aq _) ?_
  clear hm
  intro wy hm
  refine wpList_nil ?_
  refine hK _ _ hm.tail.tail ?_
  clear hK K
  refine wpAnyH_done (by kernel_rfl) ?_ _
  simp only [endsIn]
  go_wp2_with fail
  exact aJ 1 hm rfl Tryz.results24 rfl _ dD rfl 48 d3 HXU.out rfl ⟨by rw [HXX.out ()],hm.below⟩
 ·refine aF 4 rfl rfl ?_
  intro K hK
  refine ey aU eV hm ?_
  clear hm
  intro wl gl hm hb
  clear hb
  refine wpList_nil ?_
  refine hK _ _ hm.tail.tail ?_
  clear hK K
  refine wpAnyH_all (rs:=[3,5]) (by kernel_rfl) (by simp) ?_
  intro i hi
  simp only [List.mem_cons,List.not_mem_nil,or_false] at hi
  rcases hi with rfl|rfl
  ·refine aF 3 rfl rfl ?_
   intro K hK
   go_wp2_with (go_at_call 41;refine (cF p n HP.out _).mono ?_;rintro e wn ⟨he,hb⟩;rw [HNN.out ()] at he;subst he;replace hm:=hm.call hb;clear hb)
   refine hK _ _ hm.tail.tail ?_
   clear hK K
   refine aP 5 (by kernel_rfl) rfl rfl ?_
   intro K hK
   refine dH labWrap rfl aU cy rfl rfl hm ?_
   clear hm
   intro wv hm hs
   have HW:Hid (SlOld wv (.slice (some ⟨gl,0,none⟩) 4 4) labWrap):=hs
   clear hs
   refine wpList_nil ?_
   refine hK _ _ hm.tail ?_
   clear hK K
   refine aP 7 (by kernel_rfl) rfl rfl ?_
   intro K hK
   go_wp2_with (go_at_call 40;refine (ju ks ns labWrap ms _ _ HKL.out HNL.out HKB.out HNB.out bI HMB.out (by decide) (by rw [HML.out];omega) _ (Tab.mem HT.out hm (by simp)) (QTab.mem HQ.out hm (by simp)) HW.out (bB (hm.get 1 rfl) HML.out (Nat.le_refl _))).mono ?_;rintro e wx ⟨gs,cap,l,he,hcap,hge,hr,hb⟩;rw [HML.out] at he hcap;subst he;rw [HSS.out ()] at hr;replace hm:=hm.callNew hb hr hge;clear hb hr hge)
   refine hK _ _ hm.tail.tail ?_
   clear hK K
   refine aG 8 (v:=.pointer (some ⟨gs,0,none⟩)) rfl (by kernel_rfl) rfl (fun W _=>dV 48 dD (by omega) rfl) hm.tail.tail ?_
   go_simp
   refine aP 9 (by kernel_rfl) rfl rfl ?_
   intro K hK
   refine ae (.agg (u8s X).toArray) rfl (bJ 0 _ (hm.get 0 rfl) rfl _ dD rfl 48 d3 (by rw [List.length_append,HXU.out];omega) (by rw [List.drop_zero,List.take_append_of_le_length (by rw [HXU.out];omega),List.take_of_length_le (Nat.le_of_eq HXU.out)])) ?_
   refine wpList_nil ?_
   refine hK _ _ hm.tail.tail ?_
   clear hK K
   refine aP 10 (by kernel_rfl) rfl rfl ?_
   intro K hK
   refine ap 1 (u8s X) hm rfl rfl rfl 48 d3 (by simp [ab]) HXU.out (aq _) ?_
   clear hm
   intro wy hm
   refine wpList_nil ?_
   refine hK _ _ hm.tail.tail ?_
   clear hK K
   refine wpAnyH_done (by kernel_rfl) ?_ _
   simp only [endsIn]
   go_wp2_with fail
   exact aJ 1 hm rfl Tryz.results24 rfl _ dD rfl 48 d3 HXU.out rfl ⟨by rw [HXX.out ()],hm.below⟩
  ·refine aF 5 rfl rfl ?_
   intro K hK
   refine dH labWrap rfl aU cy rfl rfl hm ?_
   clear hm
   intro wv hm hs
   have HW:Hid (SlOld wv (.slice (some ⟨gl,0,none⟩) 4 4) labWrap):=hs
   clear hs
   refine wpList_nil ?_
   refine hK _ _ hm.tail ?_
   clear hK K
   refine aP 3 (by kernel_rfl) rfl rfl ?_
   intro K hK
   go_wp2_with (go_at_call 41;refine (cF p n HP.out _).mono ?_;rintro e wn ⟨he,hb⟩;rw [HNN.out ()] at he;subst he;have HW':Hid (SlOld wn (.slice (some ⟨gl,0,none⟩) 4 4) labWrap):=SlOld.below HW.out hb;clear HW;have HW:=HW';replace hm:=hm.call hb;clear hb)
   refine hK _ _ hm.tail ?_
   clear hK K
   refine aP 7 (by kernel_rfl) rfl rfl ?_
   intro K hK
   go_wp2_with (go_at_call 40;refine (ju ks ns labWrap ms _ _ HKL.out HNL.out HKB.out HNB.out bI HMB.out (by decide) (by rw [HML.out];omega) _ (Tab.mem HT.out hm (by simp)) (QTab.mem HQ.out hm (by simp)) HW.out (bB (hm.get 1 rfl) HML.out (Nat.le_refl _))).mono ?_;rintro e wx ⟨gs,cap,l,he,hcap,hge,hr,hb⟩;rw [HML.out] at he hcap;subst he;rw [HSS.out ()] at hr;replace hm:=hm.callNew hb hr hge;clear hb hr hge)
   refine hK _ _ hm.tail.tail ?_
   clear hK K
   refine aG 8 (v:=.pointer (some ⟨gs,0,none⟩)) rfl (by kernel_rfl) rfl (fun W _=>dV 48 dD (by omega) rfl) hm.tail.tail ?_
   go_simp
   refine aP 9 (by kernel_rfl) rfl rfl ?_
   intro K hK
   refine ae (.agg (u8s X).toArray) rfl (bJ 0 _ (hm.get 0 rfl) rfl _ dD rfl 48 d3 (by rw [List.length_append,HXU.out];omega) (by rw [List.drop_zero,List.take_append_of_le_length (by rw [HXU.out];omega),List.take_of_length_le (Nat.le_of_eq HXU.out)])) ?_
   refine wpList_nil ?_
   refine hK _ _ hm.tail.tail ?_
   clear hK K
   refine aP 10 (by kernel_rfl) rfl rfl ?_
   intro K hK
   refine ap 1 (u8s X) hm rfl rfl rfl 48 d3 (by simp [ab]) HXU.out (aq _) ?_
   clear hm
   intro wy hm
   refine wpList_nil ?_
   refine hK _ _ hm.tail.tail ?_
   clear hK K
   refine wpAnyH_done (by kernel_rfl) ?_ _
   simp only [endsIn]
   go_wp2_with fail
   exact aJ 1 hm rfl Tryz.results24 rfl _ dD rfl 48 d3 HXU.out rfl ⟨by rw [HXX.out ()],hm.below⟩
theorem unwrap_good (ks xs Z:List Int) (p n:Int) (hkl:ks.length=32) (hxl:xs.length=48) (hkb:Bytes ks) (hxb:Bytes xs) (hp:0≤p∧p<4294967296) (hf:xs.drop 32=tagOf ks (nonceOf p n) labWrap (xs.take 32)) (hz:Z=encOf ks (nonceOf p n) (xs.take 32)) (w:World) (ht:Tab w) (hq:QTab w) :
  Calls Tryz.prog 29 #[.agg (u8s ks).toArray,.int .u32 p,.int .u64 n,.agg (u8s xs).toArray] w fun e w'=>e=.returned (.tuple #[.agg (u8s Z).toArray,.int .i64 0])∧Below w.heap.size w w':=by
 have hm:=Mem.start w
 have HT:Hid _:=ht
 have HQ:Hid _:=hq
 have HKL:Hid _:=hkl
 have HKB:Hid _:=hkb
 have HP:Hid (0≤p∧p<4294967296):=hp
 have HKU:Hid ((u8s ks).length=32):=by show _=_;rw [ab];exact hkl
 obtain ⟨ns,hns⟩:∃ns,ns=nonceOf p n:=⟨_,rfl⟩
 have HNN:Hid (∀_:Unit,nonceOf p n=ns):=fun _=>hns.symm
 have HNL:Hid (ns.length=12):=by show _=_;rw [hns,da]
 have HNB:Hid (Bytes ns):=by rw [hns];exact et _ _
 have HXL:Hid (xs.length=48):=hxl
 have HXB:Hid _:=hxb
 rw [←hns] at hf hz
 have HF:Hid _:=hf
 have HZZ:Hid (∀_:Unit,encOf ks ns (xs.take 32)=Z):=fun _=>hz.symm
 have HZU:Hid ((u8s Z).length=32):=by show _=_;rw [ab,hz,cH,List.length_take,hxl];rfl
 clear ht hq hkl hxl hkb hxb hp hns hf hz
 go_enter Tryz.func29,Tryz.ntmps29
 go_wp2_with (first
  | ((with_reducible refine aa (some 4) (.box 39 (.tmp 0)) ?_);refine aB (u8s ks) rfl hm ?_;clear hm;intro w1 g4 hm)
  | ((with_reducible refine aa (some 7) (.box 65 (.tmp 3)) ?_);refine aB (u8s xs) rfl hm ?_;clear hm;intro w2 g7 hm)
  | ((with_reducible refine aa (some 8) (.alloc 39) ?_);refine aj _ bd hm ?_;clear hm;intro w3 g8 hm))
 refine au ?_
 refine a6 (T:=fun W=>Mem w [] W [(g8,u8s (List.replicate 32 0),39),(g7,u8s xs,65),(g4,u8s ks,39)]) (by kernel_rfl) hm ?_
 clear hm
 intro w4 hm
 refine aG 0 (v:=.agg (u8s ks).toArray) rfl (by kernel_rfl) rfl (fun W hW=>ao 0 _ (Mem.get hW 2 rfl) rfl _ aS rfl 32 az (by rw [HKU.out];omega) (by rw [List.drop_zero,List.take_of_length_le (Nat.le_of_eq HKU.out)])) hm ?_
 go_simp
 refine aG 1 (v:=.int .u32 p) rfl (by kernel_rfl) rfl (fun W _=>by go_simp) hm ?_
 go_simp
 refine aG 2 (v:=.int .u64 n) rfl (by kernel_rfl) rfl (fun W _=>by go_simp) hm ?_
 go_simp
 refine aG 6 (v:=.slice (some ⟨g7,0,none⟩) 48 48) rfl (by kernel_rfl) rfl (fun W _=>by go_simp) hm ?_
 go_simp
 refine wpAnyH_all (rs:=[3,4]) (by kernel_rfl) (by simp) ?_
 intro i hi
 simp only [List.mem_cons,List.not_mem_nil,or_false] at hi
 rcases hi with rfl|rfl
 ·refine aF 3 rfl rfl ?_
  intro K hK
  go_wp2_with (go_at_call 41;refine (cF p n HP.out _).mono ?_;rintro e wn ⟨he,hb⟩;rw [HNN.out ()] at he;subst he;replace hm:=hm.call hb;clear hb)
  refine hK _ _ hm ?_
  clear hK K
  refine aP 4 (by kernel_rfl) rfl rfl ?_
  intro K hK
  refine ey aU eV hm ?_
  clear hm
  intro wl gl hm hb
  clear hb
  refine wpList_nil ?_
  refine hK _ _ hm.tail ?_
  clear hK K
  refine aP 5 (by kernel_rfl) rfl rfl ?_
  intro K hK
  refine dH labWrap rfl aU cy rfl rfl hm ?_
  clear hm
  intro wv hm hs
  have HW:Hid (SlOld wv (.slice (some ⟨gl,0,none⟩) 4 4) labWrap):=hs
  clear hs
  refine wpList_nil ?_
  refine hK _ _ hm ?_
  clear hK K
  refine aP 7 (by kernel_rfl) rfl rfl ?_
  intro K hK
  go_wp2_with (go_at_call 43;refine (gS ks ns labWrap xs _ _ 0 48 32 HXL.out (by omega) HF.out HKL.out HNL.out HKB.out HNB.out bI HXB.out (by decide) (by rw [HXL.out];omega) _ (Tab.mem HT.out hm (by simp)) (QTab.mem HQ.out hm (by simp)) HW.out (Seg.row (hm.get 1 rfl))).mono ?_;rintro e wx ⟨g,he,hge,hr,hb⟩;subst he;rw [HZZ.out ()] at hr;replace hm:=hm.callNew hb hr hge;clear hb hr hge)
  refine hK _ _ hm.tail ?_
  clear hK K
  refine aG 8 (v:=.tuple #[.slice (some ⟨g,0,none⟩) 32 32,.int .i64 0]) rfl (by kernel_rfl) rfl (fun W _=>by go_simp) hm.tail ?_
  go_simp
  refine aG 9 (v:=.slice (some ⟨g,0,none⟩) 32 32) rfl (by kernel_rfl) rfl (fun W _=>by go_simp) hm.tail ?_
  go_simp
  refine aG 10 (v:=.int .i64 0) rfl (by kernel_rfl) rfl (fun W _=>by go_simp) hm.tail ?_
  go_simp
  refine aG 11 (v:=.slice (some ⟨g,0,none⟩) 32 32) rfl (by kernel_rfl) rfl (fun W _=>by go_simp) hm.tail ?_
  go_simp
  refine aG 12 (v:=.int .i64 0) rfl (by kernel_rfl) rfl (fun W _=>by go_simp) hm.tail ?_
  go_simp
  refine wpAnyH_done (by kernel_rfl) ?_ _
  simp only [endsIn]
  go_wp2_with (first
   | ((with_reducible refine aa (some 28) (.sliceToArrayPointer 39 (.tmp 27)) ?_);go_must (refine cN 32 aS (by omega) rfl ?_))
   | ((with_reducible refine aa (some 29) (.load 39 (.tmp 28)) ?_);refine ay 0 hm rfl rfl _ aS rfl 32 az (HZU.out) ?_)
   | ((with_reducible refine aa none (.store 39 (.tmp 8) (.tmp 29)) ?_);refine ap 1 (u8s Z) hm rfl rfl rfl 32 az (by simp [ab]) (HZU.out) (aq _) ?_;clear hm;intro wy hm))
  exact dA 1 _ hm rfl Tryz.results29 rfl rfl _ aS rfl 32 az HZU.out rfl ⟨rfl,hm.below⟩
 ·refine aF 4 rfl rfl ?_
  intro K hK
  refine ey aU eV hm ?_
  clear hm
  intro wl gl hm hb
  clear hb
  refine wpList_nil ?_
  refine hK _ _ hm.tail ?_
  clear hK K
  refine wpAnyH_all (rs:=[3,5]) (by kernel_rfl) (by simp) ?_
  intro i hi
  simp only [List.mem_cons,List.not_mem_nil,or_false] at hi
  rcases hi with rfl|rfl
  ·refine aF 3 rfl rfl ?_
   intro K hK
   go_wp2_with (go_at_call 41;refine (cF p n HP.out _).mono ?_;rintro e wn ⟨he,hb⟩;rw [HNN.out ()] at he;subst he;replace hm:=hm.call hb;clear hb)
   refine hK _ _ hm.tail ?_
   clear hK K
   refine aP 5 (by kernel_rfl) rfl rfl ?_
   intro K hK
   refine dH labWrap rfl aU cy rfl rfl hm ?_
   clear hm
   intro wv hm hs
   have HW:Hid (SlOld wv (.slice (some ⟨gl,0,none⟩) 4 4) labWrap):=hs
   clear hs
   refine wpList_nil ?_
   refine hK _ _ hm ?_
   clear hK K
   refine aP 7 (by kernel_rfl) rfl rfl ?_
   intro K hK
   go_wp2_with (go_at_call 43;refine (gS ks ns labWrap xs _ _ 0 48 32 HXL.out (by omega) HF.out HKL.out HNL.out HKB.out HNB.out bI HXB.out (by decide) (by rw [HXL.out];omega) _ (Tab.mem HT.out hm (by simp)) (QTab.mem HQ.out hm (by simp)) HW.out (Seg.row (hm.get 1 rfl))).mono ?_;rintro e wx ⟨g,he,hge,hr,hb⟩;subst he;rw [HZZ.out ()] at hr;replace hm:=hm.callNew hb hr hge;clear hb hr hge)
   refine hK _ _ hm.tail ?_
   clear hK K
   refine aG 8 (v:=.tuple #[.slice (some ⟨g,0,none⟩) 32 32,.int .i64 0]) rfl (by kernel_rfl) rfl (fun W _=>by go_simp) hm.tail ?_
   go_simp
   refine aG 9 (v:=.slice (some ⟨g,0,none⟩) 32 32) rfl (by kernel_rfl) rfl (fun W _=>by go_simp) hm.tail ?_
   go_simp
   refine aG 10 (v:=.int .i64 0) rfl (by kernel_rfl) rfl (fun W _=>by go_simp) hm.tail ?_
   go_simp
   refine aG 11 (v:=.slice (some ⟨g,0,none⟩) 32 32) rfl (by kernel_rfl) rfl (fun W _=>by go_simp) hm.tail ?_
   go_simp
   refine aG 12 (v:=.int .i64 0) rfl (by kernel_rfl) rfl (fun W _=>by go_simp) hm.tail ?_
   go_simp
   refine wpAnyH_done (by kernel_rfl) ?_ _
   simp only [endsIn]
   go_wp2_with (first
    | ((with_reducible refine aa (some 28) (.sliceToArrayPointer 39 (.tmp 27)) ?_);go_must (refine cN 32 aS (by omega) rfl ?_))
    | ((with_reducible refine aa (some 29) (.load 39 (.tmp 28)) ?_);refine ay 0 hm rfl rfl _ aS rfl 32 az (HZU.out) ?_)
    | ((with_reducible refine aa none (.store 39 (.tmp 8) (.tmp 29)) ?_);refine ap 1 (u8s Z) hm rfl rfl rfl 32 az (by simp [ab]) (HZU.out) (aq _) ?_;clear hm;intro wy hm))
   exact dA 1 _ hm rfl Tryz.results29 rfl rfl _ aS rfl 32 az HZU.out rfl ⟨rfl,hm.below⟩
  ·refine aF 5 rfl rfl ?_
   intro K hK
   refine dH labWrap rfl aU cy rfl rfl hm ?_
   clear hm
   intro wv hm hs
   have HW:Hid (SlOld wv (.slice (some ⟨gl,0,none⟩) 4 4) labWrap):=hs
   clear hs
   refine wpList_nil ?_
   refine hK _ _ hm ?_
   clear hK K
   refine aP 3 (by kernel_rfl) rfl rfl ?_
   intro K hK
   go_wp2_with (go_at_call 41;refine (cF p n HP.out _).mono ?_;rintro e wn ⟨he,hb⟩;rw [HNN.out ()] at he;subst he;have HW':Hid (SlOld wn (.slice (some ⟨gl,0,none⟩) 4 4) labWrap):=SlOld.below HW.out hb;clear HW;have HW:=HW';replace hm:=hm.call hb;clear hb)
   refine hK _ _ hm ?_
   clear hK K
   refine aP 7 (by kernel_rfl) rfl rfl ?_
   intro K hK
   go_wp2_with (go_at_call 43;refine (gS ks ns labWrap xs _ _ 0 48 32 HXL.out (by omega) HF.out HKL.out HNL.out HKB.out HNB.out bI HXB.out (by decide) (by rw [HXL.out];omega) _ (Tab.mem HT.out hm (by simp)) (QTab.mem HQ.out hm (by simp)) HW.out (Seg.row (hm.get 1 rfl))).mono ?_;rintro e wx ⟨g,he,hge,hr,hb⟩;subst he;rw [HZZ.out ()] at hr;replace hm:=hm.callNew hb hr hge;clear hb hr hge)
   refine hK _ _ hm.tail ?_
   clear hK K
   refine aG 8 (v:=.tuple #[.slice (some ⟨g,0,none⟩) 32 32,.int .i64 0]) rfl (by kernel_rfl) rfl (fun W _=>by go_simp) hm.tail ?_
   go_simp
   refine aG 9 (v:=.slice (some ⟨g,0,none⟩) 32 32) rfl (by kernel_rfl) rfl (fun W _=>by go_simp) hm.tail ?_
   go_simp
   refine aG 10 (v:=.int .i64 0) rfl (by kernel_rfl) rfl (fun W _=>by go_simp) hm.tail ?_
   go_simp
   refine aG 11 (v:=.slice (some ⟨g,0,none⟩) 32 32) rfl (by kernel_rfl) rfl (fun W _=>by go_simp) hm.tail ?_
   go_simp
   refine aG 12 (v:=.int .i64 0) rfl (by kernel_rfl) rfl (fun W _=>by go_simp) hm.tail ?_
   go_simp
   refine wpAnyH_done (by kernel_rfl) ?_ _
   simp only [endsIn]
   go_wp2_with (first
    | ((with_reducible refine aa (some 28) (.sliceToArrayPointer 39 (.tmp 27)) ?_);go_must (refine cN 32 aS (by omega) rfl ?_))
    | ((with_reducible refine aa (some 29) (.load 39 (.tmp 28)) ?_);refine ay 0 hm rfl rfl _ aS rfl 32 az (HZU.out) ?_)
    | ((with_reducible refine aa none (.store 39 (.tmp 8) (.tmp 29)) ?_);refine ap 1 (u8s Z) hm rfl rfl rfl 32 az (by simp [ab]) (HZU.out) (aq _) ?_;clear hm;intro wy hm))
   exact dA 1 _ hm rfl Tryz.results29 rfl rfl _ aS rfl 32 az HZU.out rfl ⟨rfl,hm.below⟩
theorem unwrap_bad (ks xs:List Int) (p n:Int) (hkl:ks.length=32) (hxl:xs.length=48) (hkb:Bytes ks) (hxb:Bytes xs) (hp:0≤p∧p<4294967296) (hf:xs.drop 32≠tagOf ks (nonceOf p n) labWrap (xs.take 32)) (w:World) (ht:Tab w) (hq:QTab w) :
  Calls Tryz.prog 29 #[.agg (u8s ks).toArray,.int .u32 p,.int .u64 n,.agg (u8s xs).toArray] w fun e w'=>e=.returned (.tuple #[.agg (u8s (List.replicate 32 0)).toArray,.int .i64 50])∧Below w.heap.size w w':=by
 have hm:=Mem.start w
 have HT:Hid _:=ht
 have HQ:Hid _:=hq
 have HKL:Hid _:=hkl
 have HKB:Hid _:=hkb
 have HP:Hid (0≤p∧p<4294967296):=hp
 have HKU:Hid ((u8s ks).length=32):=by show _=_;rw [ab];exact hkl
 obtain ⟨ns,hns⟩:∃ns,ns=nonceOf p n:=⟨_,rfl⟩
 have HNN:Hid (∀_:Unit,nonceOf p n=ns):=fun _=>hns.symm
 have HNL:Hid (ns.length=12):=by show _=_;rw [hns,da]
 have HNB:Hid (Bytes ns):=by rw [hns];exact et _ _
 have HXL:Hid (xs.length=48):=hxl
 have HXB:Hid _:=hxb
 rw [←hns] at hf
 have HF:Hid _:=hf
 clear ht hq hkl hxl hkb hxb hp hns hf
 go_enter Tryz.func29,Tryz.ntmps29
 go_wp2_with (first
  | ((with_reducible refine aa (some 4) (.box 39 (.tmp 0)) ?_);refine aB (u8s ks) rfl hm ?_;clear hm;intro w1 g4 hm)
  | ((with_reducible refine aa (some 7) (.box 65 (.tmp 3)) ?_);refine aB (u8s xs) rfl hm ?_;clear hm;intro w2 g7 hm)
  | ((with_reducible refine aa (some 8) (.alloc 39) ?_);refine aj _ bd hm ?_;clear hm;intro w3 g8 hm))
 refine au ?_
 refine a6 (T:=fun W=>Mem w [] W [(g8,u8s (List.replicate 32 0),39),(g7,u8s xs,65),(g4,u8s ks,39)]) (by kernel_rfl) hm ?_
 clear hm
 intro w4 hm
 refine aG 0 (v:=.agg (u8s ks).toArray) rfl (by kernel_rfl) rfl (fun W hW=>ao 0 _ (Mem.get hW 2 rfl) rfl _ aS rfl 32 az (by rw [HKU.out];omega) (by rw [List.drop_zero,List.take_of_length_le (Nat.le_of_eq HKU.out)])) hm ?_
 go_simp
 refine aG 1 (v:=.int .u32 p) rfl (by kernel_rfl) rfl (fun W _=>by go_simp) hm ?_
 go_simp
 refine aG 2 (v:=.int .u64 n) rfl (by kernel_rfl) rfl (fun W _=>by go_simp) hm ?_
 go_simp
 refine aG 6 (v:=.slice (some ⟨g7,0,none⟩) 48 48) rfl (by kernel_rfl) rfl (fun W _=>by go_simp) hm ?_
 go_simp
 refine wpAnyH_all (rs:=[3,4]) (by kernel_rfl) (by simp) ?_
 intro i hi
 simp only [List.mem_cons,List.not_mem_nil,or_false] at hi
 rcases hi with rfl|rfl
 ·refine aF 3 rfl rfl ?_
  intro K hK
  go_wp2_with (go_at_call 41;refine (cF p n HP.out _).mono ?_;rintro e wn ⟨he,hb⟩;rw [HNN.out ()] at he;subst he;replace hm:=hm.call hb;clear hb)
  refine hK _ _ hm ?_
  clear hK K
  refine aP 4 (by kernel_rfl) rfl rfl ?_
  intro K hK
  refine ey aU eV hm ?_
  clear hm
  intro wl gl hm hb
  clear hb
  refine wpList_nil ?_
  refine hK _ _ hm.tail ?_
  clear hK K
  refine aP 5 (by kernel_rfl) rfl rfl ?_
  intro K hK
  refine dH labWrap rfl aU cy rfl rfl hm ?_
  clear hm
  intro wv hm hs
  have HW:Hid (SlOld wv (.slice (some ⟨gl,0,none⟩) 4 4) labWrap):=hs
  clear hs
  refine wpList_nil ?_
  refine hK _ _ hm ?_
  clear hK K
  refine aP 7 (by kernel_rfl) rfl rfl ?_
  intro K hK
  go_wp2_with (go_at_call 43;refine (ja ks ns labWrap xs _ _ 0 48 32 HXL.out (by omega) HF.out HKL.out HNL.out HKB.out HNB.out bI HXB.out (by decide) (by rw [HXL.out];omega) _ (Tab.mem HT.out hm (by simp)) (QTab.mem HQ.out hm (by simp)) HW.out (Seg.row (hm.get 1 rfl))).mono ?_;rintro e wx ⟨he,hb⟩;subst he;replace hm:=hm.call hb;clear hb)
  refine hK _ _ hm ?_
  clear hK K
  refine aG 8 (v:=.tuple #[.slice none 0 0,.int .i64 50]) rfl (by kernel_rfl) rfl (fun W _=>by go_simp) hm ?_
  go_simp
  refine aG 9 (v:=.slice none 0 0) rfl (by kernel_rfl) rfl (fun W _=>by go_simp) hm ?_
  go_simp
  refine aG 10 (v:=.int .i64 50) rfl (by kernel_rfl) rfl (fun W _=>by go_simp) hm ?_
  go_simp
  refine aG 11 (v:=.slice none 0 0) rfl (by kernel_rfl) rfl (fun W _=>by go_simp) hm ?_
  go_simp
  refine aG 12 (v:=.int .i64 50) rfl (by kernel_rfl) rfl (fun W _=>by go_simp) hm ?_
  go_simp
  refine wpAnyH_done (by kernel_rfl) ?_ _
  simp only [endsIn]
  go_wp2_with (first
   | ((with_reducible refine aa (some 25) (.build 39 #[]) ?_);go_must (refine aM (u8s (List.replicate 32 0)) _ rfl dU ?_))
   | ((with_reducible refine aa none (.store 39 (.tmp 8) (.tmp 25)) ?_);refine ap 0 (u8s (List.replicate 32 0)) hm rfl rfl rfl 32 az (by simp [ab]) (by simp [ab]) (aq _) ?_;clear hm;intro wy hm))
  exact dA 0 _ hm rfl Tryz.results29 rfl rfl _ aS rfl 32 az (by simp [ab]) rfl ⟨rfl,hm.below⟩
 ·refine aF 4 rfl rfl ?_
  intro K hK
  refine ey aU eV hm ?_
  clear hm
  intro wl gl hm hb
  clear hb
  refine wpList_nil ?_
  refine hK _ _ hm.tail ?_
  clear hK K
  refine wpAnyH_all (rs:=[3,5]) (by kernel_rfl) (by simp) ?_
  intro i hi
  simp only [List.mem_cons,List.not_mem_nil,or_false] at hi
  rcases hi with rfl|rfl
  ·refine aF 3 rfl rfl ?_
   intro K hK
   go_wp2_with (go_at_call 41;refine (cF p n HP.out _).mono ?_;rintro e wn ⟨he,hb⟩;rw [HNN.out ()] at he;subst he;replace hm:=hm.call hb;clear hb)
   refine hK _ _ hm.tail ?_
   clear hK K
   refine aP 5 (by kernel_rfl) rfl rfl ?_
   intro K hK
   refine dH labWrap rfl aU cy rfl rfl hm ?_
   clear hm
   intro wv hm hs
   have HW:Hid (SlOld wv (.slice (some ⟨gl,0,none⟩) 4 4) labWrap):=hs
   clear hs
   refine wpList_nil ?_
   refine hK _ _ hm ?_
   clear hK K
   refine aP 7 (by kernel_rfl) rfl rfl ?_
   intro K hK
   go_wp2_with (go_at_call 43;refine (ja ks ns labWrap xs _ _ 0 48 32 HXL.out (by omega) HF.out HKL.out HNL.out HKB.out HNB.out bI HXB.out (by decide) (by rw [HXL.out];omega) _ (Tab.mem HT.out hm (by simp)) (QTab.mem HQ.out hm (by simp)) HW.out (Seg.row (hm.get 1 rfl))).mono ?_;rintro e wx ⟨he,hb⟩;subst he;replace hm:=hm.call hb;clear hb)
   refine hK _ _ hm ?_
   clear hK K
   refine aG 8 (v:=.tuple #[.slice none 0 0,.int .i64 50]) rfl (by kernel_rfl) rfl (fun W _=>by go_simp) hm ?_
   go_simp
   refine aG 9 (v:=.slice none 0 0) rfl (by kernel_rfl) rfl (fun W _=>by go_simp) hm ?_
   go_simp
   refine aG 10 (v:=.int .i64 50) rfl (by kernel_rfl) rfl (fun W _=>by go_simp) hm ?_
   go_simp
   refine aG 11 (v:=.slice none 0 0) rfl (by kernel_rfl) rfl (fun W _=>by go_simp) hm ?_
   go_simp
   refine aG 12 (v:=.int .i64 50) rfl (by kernel_rfl) rfl (fun W _=>by go_simp) hm ?_
   go_simp
   refine wpAnyH_done (by kernel_rfl) ?_ _
   simp only [endsIn]
   go_wp2_with (first
    | ((with_reducible refine aa (some 25) (.build 39 #[]) ?_);go_must (refine aM (u8s (List.replicate 32 0)) _ rfl dU ?_))
    | ((with_reducible refine aa none (.store 39 (.tmp 8) (.tmp 25)) ?_);refine ap 0 (u8s (List.replicate 32 0)) hm rfl rfl rfl 32 az (by simp [ab]) (by simp [ab]) (aq _) ?_;clear hm;intro wy hm))
   exact dA 0 _ hm rfl Tryz.results29 rfl rfl _ aS rfl 32 az (by simp [ab]) rfl ⟨rfl,hm.below⟩
  ·refine aF 5 rfl rfl ?_
   intro K hK
   refine dH labWrap rfl aU cy rfl rfl hm ?_
   clear hm
   intro wv hm hs
   have HW:Hid (SlOld wv (.slice (some ⟨gl,0,none⟩) 4 4) labWrap):=hs
   clear hs
   refine wpList_nil ?_
   refine hK _ _ hm ?_
   clear hK K
   refine aP 3 (by kernel_rfl) rfl rfl ?_
   intro K hK
   go_wp2_with (go_at_call 41;refine (cF p n HP.out _).mono ?_;rintro e wn ⟨he,hb⟩;rw [HNN.out ()] at he;subst he;have HW':Hid (SlOld wn (.slice (some ⟨gl,0,none⟩) 4 4) labWrap):=SlOld.below HW.out hb;clear HW;have HW:=HW';replace hm:=hm.call hb;clear hb)
   refine hK _ _ hm ?_
   clear hK K
   refine aP 7 (by kernel_rfl) rfl rfl ?_
   intro K hK
   go_wp2_with (go_at_call 43;refine (ja ks ns labWrap xs _ _ 0 48 32 HXL.out (by omega) HF.out HKL.out HNL.out HKB.out HNB.out bI HXB.out (by decide) (by rw [HXL.out];omega) _ (Tab.mem HT.out hm (by simp)) (QTab.mem HQ.out hm (by simp)) HW.out (Seg.row (hm.get 1 rfl))).mono ?_;rintro e wx ⟨he,hb⟩;subst he;replace hm:=hm.call hb;clear hb)
   refine hK _ _ hm ?_
   clear hK K
   refine aG 8 (v:=.tuple #[.slice none 0 0,.int .i64 50]) rfl (by kernel_rfl) rfl (fun W _=>by go_simp) hm ?_
   go_simp
   refine aG 9 (v:=.slice none 0 0) rfl (by kernel_rfl) rfl (fun W _=>by go_simp) hm ?_
   go_simp
   refine aG 10 (v:=.int .i64 50) rfl (by kernel_rfl) rfl (fun W _=>by go_simp) hm ?_
   go_simp
   refine aG 11 (v:=.slice none 0 0) rfl (by kernel_rfl) rfl (fun W _=>by go_simp) hm ?_
   go_simp
   refine aG 12 (v:=.int .i64 50) rfl (by kernel_rfl) rfl (fun W _=>by go_simp) hm ?_
   go_simp
   refine wpAnyH_done (by kernel_rfl) ?_ _
   simp only [endsIn]
   go_wp2_with (first
    | ((with_reducible refine aa (some 25) (.build 39 #[]) ?_);go_must (refine aM (u8s (List.replicate 32 0)) _ rfl dU ?_))
    | ((with_reducible refine aa none (.store 39 (.tmp 8) (.tmp 25)) ?_);refine ap 0 (u8s (List.replicate 32 0)) hm rfl rfl rfl 32 az (by simp [ab]) (by simp [ab]) (aq _) ?_;clear hm;intro wy hm))
   exact dA 0 _ hm rfl Tryz.results29 rfl rfl _ aS rfl 32 az (by simp [ab]) rfl ⟨rfl,hm.below⟩
open Go Go.RowKit Go.Maps
theorem b7:Tryz.prog.underlying 64=some (.array 64 5):=Tryz.underlying64
theorem info_scn:(Tryz.prog.info? 64).map (fun i=>(i.zero,i.size))=some (some (.agg (u8s (List.replicate 64 0)).toArray),64):=by kernel_rfl
theorem bP:∀w,(zeroValue 64).run Tryz.prog w=.ok (.agg (u8s (List.replicate 64 0)).toArray) w:=(zero_of_info info_scn).1
theorem br:(Tryz.prog.info? 64).map (·.size)=some 64:=(zero_of_info info_scn).2
theorem cY:Tryz.prog.built 64 []=some (u8s (List.replicate 64 0)).toArray:=by kernel_rfl
theorem dp:Tryz.prog.underlying 99=some (.array 16 5):=Tryz.underlying99
theorem info_mrk:(Tryz.prog.info? 99).map (fun i=>(i.zero,i.size))=some (some (.agg (u8s (List.replicate 16 0)).toArray),16):=by kernel_rfl
theorem eZ:∀w,(zeroValue 99).run Tryz.prog w=.ok (.agg (u8s (List.replicate 16 0)).toArray) w:=(zero_of_info info_mrk).1
theorem dE:(Tryz.prog.info? 99).map (·.size)=some 16:=(zero_of_info info_mrk).2
def entL (x:Ent):List Value:=.int .u64 (x.1:Int)::u8s x.2
def entV (x:Ent):Value:=.agg (entL x).toArray
def noEnt:Ent:=(0,List.replicate 48 0)
theorem aI {x:Ent} (h:x.2.length=48):(entL x).length=49:=by simp [entL,ab,h]
theorem un_ent:∃fs,Tryz.prog.underlying 67=some (.struct fs):=⟨_,Tryz.underlying67⟩
theorem jv:(Tryz.prog.info? 67).map (fun i=>(i.zero,i.size))=some (some (.agg (entL noEnt).toArray),49):=by kernel_rfl
theorem bF:∀w,(zeroValue 67).run Tryz.prog w=.ok (.agg (entL noEnt).toArray) w:=(zero_of_info jv).1
theorem bY:(Tryz.prog.info? 67).map (·.size)=some 49:=(zero_of_info jv).2
theorem built_ent0:Tryz.prog.built 67 []=some (entL noEnt).toArray:=by kernel_rfl
theorem eb:Tryz.prog.underlying 60=some (.map 3 67):=Tryz.underlying60
theorem un_pmap:Tryz.prog.underlying 55=some (.map 3 64):=Tryz.underlying55
theorem sz_u64:(Tryz.prog.info? 59).map (·.size)=some 1:=by kernel_rfl
theorem gI:∀w,(isAgg 59).run Tryz.prog w=.ok false w:=by intro w;simp [go_sem]
theorem cj:∀w,(isAgg 60).run Tryz.prog w=.ok false w:=by intro w;simp [go_sem]
theorem sz_pmap:(Tryz.prog.info? 55).map (·.size)=some 1:=by kernel_rfl
theorem ag_pmap:∀w,(isAgg 55).run Tryz.prog w=.ok false w:=by intro w;simp [go_sem]
theorem ag_dkp:∀w,(isAgg 24).run Tryz.prog w=.ok false w:=by intro w;simp [go_sem]
theorem bj:∀w,(isAgg 4).run Tryz.prog w=.ok false w:=by intro w;simp [go_sem]
theorem ag_bsl:∀w,(isAgg 33).run Tryz.prog w=.ok false w:=by intro w;simp [go_sem]
theorem ak:∀w,(isAgg 3).run Tryz.prog w=.ok false w:=by intro w;simp [go_sem]
theorem aY:∀w,(isAgg 5).run Tryz.prog w=.ok false w:=by intro w;simp [go_sem]
theorem un_phs:Tryz.prog.underlying 90=some (.slice 55):=Tryz.underlying90
theorem fw:(Tryz.prog.info? 55).map (fun i=>(i.zero,i.size))=some (some (.map none),1):=by kernel_rfl
theorem av {P:Program} {R:Act→World→Prop} {T:World→Prop} {a:Act} {w w0:World} {S:List Nat} {rows:List (Nat×List Value×TypeId)} {id:Nat} {l:List Oper} (hmix:P.follows .mixedOrders=true) (hm:Mem w0 S w rows)
  (h:∀w',Below w.heap.size w w'→Mem w0 S w' rows→wpAnyH P .any l.toArray (endsIn R) T l.toArray.size (Array.replicate l.toArray.size false) a w'):(Code.region id l.toArray true).wp P (endsIn R) a w :=
 wp_region_held hmix (h _ ⟨rfl,rfl,rfl,Nat.le_refl _,fun _ _=>rfl⟩ hm.drew)
section
variable {P:Program} {ops:Array Oper} {rest:List Oper} {a:Act} {w w0:World} {Q:Exit→Act→World→Prop} {dst:Option Tmp} {typ:TypeId} {pos:String} {aft:Array Edge} {gd:Option (Nat×Bool)} {S:List Nat} {rows:List (Nat×List Value×TypeId)}
theorem run_bsl2 (w:World) {t elem:TypeId} (z v0 v1:Value) (hu:P.underlying t=some (.slice elem)) (hi:(P.info? elem).map (fun i=>(i.zero,i.size))=some (some z,1)) (hz:z.cells=#[z]) (h0:v0.cells=#[v0]) (h1:v1.cells=#[v1]) :
  (Instr.buildSlice t 2 #[(0,v0),(1,v1)]).run P w=.ok (.slice (some ⟨w.heap.size,0,none⟩) 2 2) (w.alloc (.cells [v0,v1].toArray elem)):=by
 obtain ⟨hz1,hs1⟩:=zero_of_info hi
 cases hq:P.info? elem with
 | none=>simp [hq] at hi
 | some q =>
  have hs:q.size=1:=by simpa [hq] using hs1
  have e:Array.map (fun x=>([z][x % 1]?).getD default) (Array.range 2)=#[z,z]:=by
   apply Array.ext
   ·simp
   ·intro i h1 h2
    have h3:i=0∨i=1:=by
     have:i<2:=by simpa using h2
     omega
    rcases h3 with rfl|rfl<;>simp
  simp [Instr.buildSlice,run_underlying hu,sizeOf,typeInfo,hq,hs,hz1,hz,Instr.fill,h0,h1,newRow,newObj]
  rw [e]
  rfl
theorem jh {t elem:TypeId} {x y:Operand} (z v0 v1:Value) (hu:P.underlying t=some (.slice elem)) (hi:(P.info? elem).map (fun i=>(i.zero,i.size))=some (some z,1)) (hz:z.cells=#[z]) (hx:a.eval x=v0) (hy:a.eval y=v1) (h0:v0.cells=#[v0]) (h1:v1.cells=#[v1]) (hm:Mem w0 S w rows)
  (h:∀w' g,Below w.heap.size w w'→Mem w0 S w' ((g,[v0,v1],elem)::rows)→wpList P ops Q rest (a.put dst (.slice (some ⟨g,0,none⟩) 2 2)) w') :
  wpList P ops Q ({dst:=dst,op:=.buildSlice t 2 #[(0,x),(1,y)],type:=typ,pos:=pos,after:=aft,guard:=none}::rest) a w:=by
 refine wpList_plain rfl fun K hK=>?_
 have hh:=hK _ _ (h _ _ ((Below.refl _ _).alloc (Nat.le_refl _) _) (hm.alloc [v0,v1] elem))
 unfold Oper.wp execOp
 simp only [List.map_toArray,List.map_cons,List.map_nil,hx,hy,run_bsl2 (P:=P) w z v0 v1 hu hi hz h0 h1,Sem.run_bind,Sem.run_pure,Result.andThen_ok]
 exact hh
end
open Go Go.RowKit Go.Maps Go.Shelf
theorem grow_nil (n:Nat) (h0:0<n) (hn:n≤1000) (w:World) :
  Calls Tryz.prog 72 #[.slice none 0 0,.int .i64 (n:Int)] w fun e w'=>∃v,e=.returned v∧OwnB 5 w' w.heap.size v []∧Below w.heap.size w w':=by
 cases hq:Tryz.prog.info? 5 with
 | none=>have:=bZ;rw [hq] at this;cases this
 | some i0 =>
  have hi:=bZ
  simp only [hq,Option.map_some,Option.some.injEq,Prod.mk.injEq] at hi
  obtain ⟨hz,h1,h2⟩:=hi
  have hc:=Any8.slices_Grow_grow growA i0 (.int .u8 0) hq hz (by omega) none 0 0 n [] w (Nat.le_refl _) (by omega) (by rw [h2];omega) (by omega) (by simp) (fun _=>rfl) (fun a h=>by cases h)
  refine hc.mono ?_
  rintro e w' ⟨rfl,rfl⟩
  have hcap:=grownCap_ge w (0+n) 0 5
  have hmax:=grownCap_le_maxLen w (0+n) 0 5 (by unfold maxLen;omega)
  refine ⟨_,rfl,World.ownsRow_made w.drew _ (grownCap w (0+n) 0 5) (Nat.le_refl _) hmax ?_,?_⟩
  ·have hC:grownCap w (0+n) 0 (growA_ren.t 25)=grownCap w (0+n) 0 5:=rfl
   rw [Array.size_append,Array.size_append,size_zeroCells,size_zeroCells,hC]
   generalize grownCap w (0+n) 0 5=C at *
   show 0+(0+n - 0) * 1+(C - (0+n)) * 1=C * 1
   omega
  ·exact ⟨rfl,rfl,rfl,by simp,fun k hk=>Below.heap_alloc _ _ _ hk⟩
theorem concat_two (xs ys:List Int) (b c1 c2:Nat) (p q:Option Addr) (hx:xs.length=8) (hy:ys.length=8) (w:World) (hr:Row w b [.slice p 8 c1,.slice q 8 c2] 33) (h1:SlOld w (.slice p 8 c1) xs) (h2:SlOld w (.slice q 8 c2) ys) :
  Calls Tryz.prog 57 #[.slice (some ⟨b,0,none⟩) 2 2] w fun e w'=>∃g cap,e=.returned (.slice (some ⟨g,0,none⟩) 16 cap)∧16≤cap∧Seg w' g 0 (xs++ys)∧Below w.heap.size w w':=by
 have HX:Hid (xs.length=8):=hx
 have HY:Hid (ys.length=8):=hy
 have HBL:Hid (b<w.heap.size):=hr.lt
 have HC0:Hid (w.cell? ⟨b,0,none⟩=some (.slice p 8 c1)):=by show _=_;rw [hr.cell];rfl
 have HC1:Hid (w.cell? ⟨b,1,none⟩=some (.slice q 8 c2)):=by show _=_;rw [hr.cell];rfl
 have H1:Hid (SlOld w (.slice p 8 c1) xs):=h1
 have H2:Hid (SlOld w (.slice q 8 c2) ys):=h2
 have tk1:Nat:=0
 have hm:=Mem.start w
 clear hx hy hr h1 h2
 go_enter Tryz.func57,Tryz.ntmps57
 go_wp2_with fail
 refine wp_loop_rounds 3 ?_
 iterate 3 (rw [rounds_succ];go_wp2_with (first
  | (first|((with_reducible refine aa (some 14) (.load 33 (.tmp 13)) ?_);refine aQ (.slice p 8 c1) ((hm.old (p:=⟨b,0,none⟩) HBL.out (by simp)).trans HC0.out) rfl ag_bsl ?_)|((with_reducible refine aa (some 14) (.load 33 (.tmp 13)) ?_);refine aQ (.slice q 8 c2) ((hm.old (p:=⟨b,1,none⟩) HBL.out (by simp)).trans HC1.out) rfl ag_bsl ?_))
  | (go_at_call 72;refine (grow_nil 16 (by omega) (by omega) _).mono ?_;rintro e w2 ⟨v2,rfl,hown,hb⟩;replace hm:=hm.call hb;clear hb)))
 refine wp_loop_rounds 3 ?_
 iterate 3 (rw [rounds_succ];go_wp2_with (first
  | (first|((with_reducible refine aa (some 30) (.load 33 (.tmp 29)) ?_);refine aQ (.slice p 8 c1) ((hm.old (p:=⟨b,0,none⟩) HBL.out (by simp)).trans HC0.out) rfl ag_bsl ?_)|((with_reducible refine aa (some 30) (.load 33 (.tmp 29)) ?_);refine aQ (.slice q 8 c2) ((hm.old (p:=⟨b,1,none⟩) HBL.out (by simp)).trans HC1.out) rfl ag_bsl ?_))
  | ((with_reducible refine aa (some 33) (.call {callee:=.builtin .append,args:=#[.tmp 31,.tmp 32],argTypes:=#[33,33]}) ?_);(first|(clear tk1;go_must (refine eI rfl aU bZ xs hm hown (by simp) rfl rfl HX.out.symm (fun _=>by have h9:=(SlOld.mem H1.out hm).src0.2.2;rw [HX.out] at h9;exact h9 (by omega)) (by simp [HX.out]) ?_);clear hm hown;intro v5 w5 hown hm)|(go_must (refine eI rfl aU bZ ys hm hown (by simp) rfl rfl HY.out.symm (fun _=>by have h9:=(SlOld.mem H2.out hm).src0.2.2;rw [HY.out] at h9;exact h9 (by omega)) (by simp [HX.out,HY.out]) ?_);clear hm hown;intro v6 w6 hown hm)))))
 go_ret
 have h9:=hown
 obtain ⟨_,h8⟩:=h9
 have hl:(([]++xs)++ys).length=16:=by rw [List.nil_append,List.length_append,HX.out,HY.out]
 rcases h8 with ⟨_,hn⟩|⟨g,cap,cur,rfl,hb,hh,hn,_,_,_⟩
 ·rw [hl] at hn;cases hn
 ·rw [hl]
  refine ⟨g,cap,rfl,by rw [hl] at hn;exact hn,?_,hm.below⟩
  obtain ⟨p9,c9,e9,_,hs9⟩:=hown.old
  obtain ⟨b9,o9,ep,hs⟩:=hs9 (by rw [hl];omega)
  simp only [Value.slice.injEq] at e9
  obtain ⟨e1,_,_⟩:=e9
  rw [ep] at e1
  simp only [Option.some.injEq,Addr.mk.injEq] at e1
  obtain ⟨rfl,rfl,_⟩:=e1
  exact hs
end Go.Proofs.YtnllomcajijbjaaGreatDoor
