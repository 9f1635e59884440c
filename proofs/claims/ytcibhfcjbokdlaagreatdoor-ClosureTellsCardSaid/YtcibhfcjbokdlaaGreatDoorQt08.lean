import Derived.Test.YtcibhfcjbokdlaaGreatDoorQt07
set_option maxRecDepth 100000
set_option maxHeartbeats 4000000
namespace Go.Proofs.YtcibhfcjbokdlaaGreatDoor
open Go Go.RowKit Go.Maps
def delK (p:Value→Value→Prop) (key:Value):Value→Value→Prop:=fun k v=>k≠key∧p k v
section
variable {P:Program} {kT:TypeId} {w w':World} {m q:Nat} {p:Value→Value→Prop}
theorem KM.delRun (h:KM P kT w m q p) (K:Keyed P kT) {t e:TypeId} (ht:P.underlying t=some (.map kT e)) {key:Value} {kl:Lit} (hk:keyOf P kT key=some kl) (ty:TypeId) :
  ∃w',(Builtin.delete_ #[t,kT] ty #[.map (some m),key]).run P w=.ok (.tuple #[]) w'∧KM P kT w' m q (delK p key)∧Upd m w w':=by
 obtain ⟨D,ho,h1,h2⟩:=h
 obtain ⟨w',hr,ho2,hg⟩:=ho.drop K ht hk ty
 refine ⟨w',hr,⟨_,ho2,fun k kl' hk'=>?_,fun k kl' v z hk' hv=>?_⟩,⟨hg.grown.os,hg.grown.tape,hg.grown.output,hg.grown.size,fun k hk hne=>hg.grown.block k hk (by simpa using hne)⟩⟩
 ·by_cases he:kl'=kl
  ·subst he
   have e2:k=key:=K.inj hk' hk
   rw [has_del_same]
   constructor
   ·intro h;cases h
   ·rintro ⟨v,hv⟩;exact absurd e2 hv.1
  ·have e2:k≠key:=fun e=>he (by subst e;exact Option.some.inj (hk'.symm.trans hk))
   rw [has_del_other he,h1 k kl' hk']
   constructor
   ·rintro ⟨v,hv⟩;exact ⟨v,e2,hv⟩
   ·rintro ⟨v,hv⟩;exact ⟨v,hv.2⟩
 ·by_cases he:kl'=kl
  ·subst he
   exact absurd (K.inj hk' hk) hv.1
  ·rw [atKey_del_other he]
   exact h2 k kl' v z hk' hv.2
end
section
variable {P:Program} {kT:TypeId} {ops:Array Oper} {rest:List Oper} {a:Act} {w w0 w':World} {Q:Exit→Act→World→Prop} {dst:Option Tmp} {typ:TypeId} {pos:String} {aft:Array Edge} {gd:Option (Nat×Bool)} {m q:Nat} {p:Value→Value→Prop}
theorem wpl_kmDel {x k:Operand} {t e:TypeId} {key:Value} {kl:Lit} (st:KM P kT w m q p) (K:Keyed P kT) (ht:P.underlying t=some (.map kT e)) (hkey:keyOf P kT key=some kl) (hx:a.eval x=.map (some m)) (hk:a.eval k=key)
  (hh:∀w',KM P kT w' m q (delK p key)→Upd m w w'→wpList P ops Q rest (a.put dst (.tuple #[])) w') :
  wpList P ops Q ({dst:=dst,op:=.call {callee:=.builtin .delete,args:=#[x,k],argTypes:=#[t,kT]},type:=typ,pos:=pos,after:=aft,guard:=none}::rest) a w:=by
 obtain ⟨w',hr,hs,hu⟩:=st.delRun K ht hkey typ
 refine wpList_plain rfl fun K hK=>?_
 have h9:=hK _ _ (hh w' hs hu)
 unfold Oper.wp execOp
 simp only [resolve,invoke,builtin,Sem.run_bind,Sem.run_pure,Result.andThen_ok,List.map_toArray,List.map_cons,List.map_nil,hx,hk,hr]
 exact h9
end
/-- A row cut to its first n. -/
theorem cut_ownN {w:World} {base g L n cap:Nat} {rl:List Nat} (h:w.ownsRow base 3 1 (.slice (some ⟨g,0,none⟩) L cap) L (nums rl)) (hn:n≤L):w.ownsRow base 3 1 (.slice (some ⟨g,0,none⟩) n cap) n (nums (rl.take n)):=by
 obtain ⟨hl,h2⟩:=h
 rw [aL] at hl
 rcases h2 with ⟨h3,h4⟩|⟨g',cap',cur,hv,hb,hh,hc,hm,hs,ht⟩
 ·cases h3
 ·simp only [Value.slice.injEq,Option.some.injEq,Addr.mk.injEq,true_and,and_true] at hv
  obtain ⟨rfl,rfl⟩:=hv
  refine ⟨by rw [aL,List.length_take];omega,Or.inr ⟨g,cap,cur,rfl,hb,hh,by omega,hm,hs,?_⟩⟩
  have e1:(cur.toList.take (L * 1)).take (n * 1)=cur.toList.take (n * 1):=by rw [List.take_take,Nat.min_eq_left (by omega)]
  rw [←e1,ht]
  simp [nums,List.map_take]
theorem NumsOf.take {T:List Tm} {ql:List Nat} {l:List Tm} (h:NumsOf T ql l) (n:Nat):NumsOf T (ql.take n) (l.take n):=by
 refine ⟨by simp [h.1],fun j q hj=>?_⟩
 have hlt:=(List.getElem?_eq_some_iff.1 hj).1
 rw [List.length_take] at hlt
 rw [List.getElem?_take_of_lt (by omega)] at hj ⊢
 exact h.2 j q hj
/-- One that is known is known no more. -/
theorem known_del {T A C:List Tm} {x:Tm} {i:Nat} (hi:T[i]?=some x) (hT:T.Nodup) (hx:x ∉ A++C) (k v:Value):delK (knownP T (A++x::C)) (.int .i64 (i:Int)) k v↔knownP T (A++C) k v:=by
 have hin:∀u,u∈A++x::C↔u∈A++C∨u=x:=fun u=>by
  simp only [List.mem_append,List.mem_cons]
  exact ⟨fun h=>h.elim (fun a=>Or.inl (Or.inl a)) (fun a=>a.elim Or.inr (fun b=>Or.inl (Or.inr b))),fun h=>h.elim (fun a=>a.elim Or.inl (fun b=>Or.inr (Or.inr b))) (fun a=>Or.inr (Or.inl a))⟩
 constructor
 ·rintro ⟨hne,h1,j,u,h2,h3,h4⟩
  refine ⟨h1,j,u,h2,?_,h4⟩
  rcases (hin u).1 h3 with h5|h5
  ·exact h5
  ·exfalso
   subst h5
   obtain ⟨l1,e1⟩:=List.getElem?_eq_some_iff.1 h2
   obtain ⟨l2,e2⟩:=List.getElem?_eq_some_iff.1 hi
   have:j=i:=by
    rcases Nat.lt_trichotomy j i with hlt|rfl|hlt
    ·exact absurd (e1.trans e2.symm) ((List.pairwise_iff_getElem.1 hT) j i l1 l2 hlt)
    ·rfl
    ·exact absurd (e2.trans e1.symm) ((List.pairwise_iff_getElem.1 hT) i j l2 l1 hlt)
   subst this
   exact hne h4
 ·rintro ⟨h1,j,u,h2,h3,h4⟩
  refine ⟨fun he=>?_,h1,j,u,h2,(hin u).2 (Or.inl h3),h4⟩
  rw [h4] at he
  simp only [Value.int.injEq,true_and] at he
  have:j=i:=by omega
  subst this
  rw [hi] at h2
  exact hx (Option.some.inj h2▸h3)
structure Fg (w0 w:World) (b1 QB dg mk g:Nat) (T R K:List Tm) (vr:Value) (rl:List Nat):Prop where
 row:Row w dg [.pointer (some ⟨g,0,none⟩),.map (some mk),vr] 52
 own:w.ownsRow b1 3 1 vr R.length (nums rl)
 km:∃q,q≤QB+R.length∧KM Tryz.prog 3 w mk q (knownP T K)
 os:w.os=w0.os
 tape:w.tape=w0.tape
 output:w.output=w0.output
 size:w0.heap.size≤w.heap.size
 block:∀b,b<w0.heap.size→b≠dg→b≠mk→w.heap[b]?=w0.heap[b]?
theorem Fg.del {w0 w w':World} {b1 QB dg mk g q:Nat} {T R K K':List Tm} {vr key:Value} {rl:List Nat} (h:Fg w0 w b1 QB dg mk g T R K vr rl) (hq:q≤QB+R.length) (hm:∃es c,w.heap[mk]?=some (.map es c)) (hk:KM Tryz.prog 3 w' mk q (delK (knownP T K) key)) (hu:Upd mk w w') (hK:∀k v,delK (knownP T K) key k v↔knownP T K' k v):Fg w0 w' b1 QB dg mk g T R K' vr rl:=by
 obtain ⟨es,c,hm⟩:=hm
 exact ⟨hu.row h.row (b8 h.row hm),cP h.own hu (bk h.own hm),⟨q,hq,hk.same hK⟩,hu.os.trans h.os,hu.tape.trans h.tape,hu.output.trans h.output,Nat.le_trans h.size hu.size,fun b h1 h2 h3=>(hu.block b (Nat.lt_of_lt_of_le h1 h.size) h3).trans (h.block b h1 h2 h3)⟩
theorem cutHi_own {w:World} {base L c:Nat} {p:Option Addr} {cs:List Value} (h:w.ownsRow base 3 1 (.slice p L c) L cs):cutHi p c=p:=by
 obtain ⟨_,h2⟩:=h
 rcases h2 with ⟨h3,_⟩|⟨g',cap',cur,hv,_⟩
 ·simp only [Value.slice.injEq] at h3
  rw [h3.1,h3.2.2];rfl
 ·simp only [Value.slice.injEq] at hv
  rw [hv.1]
  unfold cutHi
  split
  ·rfl
  ·simp [aQ]
theorem exec_cutP {a:Act} {w:World} {dst:Option Tmp} {typ:TypeId} {pos:String} {aft:Array Edge} {gd:Option (Nat×Bool)} {x hi:Operand} {p:Option Addr} {len n cap:Nat} {ih:Int} (hc:cutHi p cap=p) (hn:n≤cap) (hx:a.eval x=.slice p len cap) (hhi:a.eval hi=.int .i64 ih) (hih:ih=(n:Int)) :
  (execOp a.eval {dst:=dst,op:=.slice 41 x none (some hi) none,type:=typ,pos:=pos,after:=aft,guard:=gd}).run Tryz.prog w=.ok (.value (.slice p n cap)) w:=by
 have h:=exec_sHi (dst:=dst) (typ:=typ) (pos:=pos) (aft:=aft) (gd:=gd) (w:=w) aU bB n hn hx hhi hih
 rw [hc] at h
 exact h
theorem cut_ownP {w:World} {base L n c:Nat} {p:Option Addr} {rl:List Nat} (h:w.ownsRow base 3 1 (.slice p L c) L (nums rl)) (hn:n≤L):w.ownsRow base 3 1 (.slice p n c) n (nums (rl.take n)):=by
 have h0:=h
 obtain ⟨hl,h2⟩:=h
 rcases h2 with ⟨h3,h4⟩|⟨g',cap',cur,hv,_⟩
 ·simp only [Value.slice.injEq] at h3
  obtain ⟨rfl,rfl,rfl⟩:=h3
  obtain rfl:n=0:=by omega
  exact World.ownsRow_nil _ _ _ _
 ·simp only [Value.slice.injEq] at hv
  obtain ⟨rfl,_,_⟩:=hv
  exact cut_ownN h0 hn
theorem eU (w:World) (b1 QB dg mk g n:Nat) (T R:List Tm) (vr:Value) (rl:List Nat) (hT:Web T) (hTl:T.length≤100000) (hnd:R.Nodup) (hd:DerA b1 QB w dg mk g T R R vr rl) (hn:n≤R.length) (hR:R.length≤100000) :
  Calls Tryz.prog 37 #[.pointer (some ⟨dg,0,none⟩),.int .i64 (n:Int)] w fun e w'=>e=.returned (.tuple #[])∧∃vr',DerA b1 (QB+R.length) w' dg mk g T (R.take n) (R.take n) vr' (rl.take n)∧vr'.ownBlock=vr.ownBlock∧w'.os=w.os∧w'.tape=w.tape∧w'.output=w.output∧w.heap.size≤w'.heap.size∧∀b,b<w.heap.size→b≠dg→b≠mk→w'.heap[b]?=w.heap[b]?:=by
 have hm:=Mem.start w
 obtain ⟨L,hL⟩:∃L,L=R.length:=⟨_,rfl⟩
 have hown:=hd.own
 rw [←hL] at hown
 obtain ⟨pr,cr,hvr⟩:=cR hown
 subst hvr
 obtain ⟨lz,hlz⟩:∃lz,lz=L - n:=⟨_,rfl⟩
 obtain ⟨pz,hpz⟩:∃pz,pz=cutLo pr cr n:=⟨_,rfl⟩
 obtain ⟨cz,hcz⟩:∃cz,cz=cr - n:=⟨_,rfl⟩
 have hnL:n≤L:=by omega
 have hL4:L≤100000:=by omega
 have HT:Hid (Web T):=hT
 have HTL:Hid (T.length≤100000):=hTl
 have HND:Hid R.Nodup:=hnd
 have HNUM:Hid (NumsOf T rl R):=hd.num
 have HLR:Hid (∀_:Unit,L=R.length):=fun _=>hL
 have HLZ:Hid (∀_:Unit,lz=L - n):=fun _=>hlz
 have HPZ:Hid (∀_:Unit,pz=cutLo pr cr n):=fun _=>hpz
 have HCZ:Hid (∀_:Unit,cz=cr - n):=fun _=>hcz
 have HNL:Hid (n≤L):=hnL
 have HCH:Hid (∀_:Unit,cutHi pr cr=pr):=fun _=>cutHi_own hown
 have HNC:Hid (n≤cr):=by
  have hown2:=hown
  obtain ⟨_,h2⟩:=hown2
  rcases h2 with ⟨h3,h4⟩|⟨g',cap',cur,hv,_,_,hc,_⟩
  ·show n≤cr;omega
  ·simp only [Value.slice.injEq] at hv
   show n≤cr
   omega
 have HPR:Hid (n<L→∃br,pr=some ⟨br,0,none⟩∧L≤cr):=fun hlt=>by
  obtain ⟨_,h2⟩:=hown
  rcases h2 with ⟨h3,h4⟩|⟨g',cap',cur,hv,_,_,hc,_⟩
  ·omega
  ·simp only [Value.slice.injEq] at hv
   exact ⟨g',hv.1,by omega⟩
 have HF0:Hid (Fg w w b1 QB dg mk g T R (R.take n++R.drop (n+0)) (.slice pr L cr) rl):=⟨hd.row,hd.own,by
  obtain ⟨q,h1,h2⟩:=hd.km
  exact ⟨q,h1,by rw [Nat.add_zero,List.take_append_drop];exact h2⟩,rfl,rfl,rfl,Nat.le_refl _,fun _ _ _ _=>rfl⟩
 have HRW:Hid (Row w dg [.pointer (some ⟨g,0,none⟩),.map (some mk),.slice pr L cr] 52):=hd.row
 have hlz4:lz≤100000:=by omega
 clear hT hTl hnd hd hn hR hL hown hlz hpz hcz
 go_enter Tryz.func37,Tryz.ntmps37
 go_wp2_with (first
  | ((with_reducible refine af (some 9) (.load 41 (.tmp 8)) ?_);go_must (refine aa (.slice pr L cr) rfl (ad (.slice pr L cr) (HRW.out.cell 2) rfl bC) ?_))
  | ((with_reducible refine af (some 11) (.slice 41 (.tmp 9) (some (.tmp 10)) none none) ?_);go_must (refine aa (.slice pz lz cz) rfl (by rw [HPZ.out (),HLZ.out (),HCZ.out ()];exact cd aU bB n HNL.out rfl rfl rfl) ?_)))
 clear hm HRW
 go_loopw [13] (fun vj wr=>∃j:Nat,vj=.int .i64 (j:Int)∧j≤lz∧Hid (Fg w wr b1 QB dg mk g T R (R.take n++R.drop (n+j)) (.slice pr L cr) rl)) (fun vj _=>lz - (intOf vj).toNat)
 case atStart=>exact ⟨0,rfl,Nat.zero_le _,HF0.out⟩
 case round =>
  clear HF0
  obtain ⟨j,rfl,hj,HF⟩:=hrel
  by_cases hlt:j<lz
  ·have hji:(j:Int)<(lz:Int):=by omega
   have hnl:n<L:=by have:=HLZ.out ();omega
   obtain ⟨br,hbr,hcr⟩:=HPR.out hnl
   have hnj:n+j<R.length:=by have h1:=HLZ.out ();have h2:=HLR.out ();omega
   obtain ⟨q,hq⟩:∃q,rl[n+j]?=some q:=⟨_,List.getElem?_eq_getElem (by rw [HNUM.out.1];exact hnj)⟩
   obtain ⟨x,hx,hTx⟩:=HNUM.out.2 (n+j) q hq
   have hpz2:pz=some ⟨br,n,none⟩:=by
    rw [HPZ.out (),hbr,cutLo,if_neg (by omega)]
    simp [aQ]
   have hcell:wr.cell? ⟨br,n+j,none⟩=some (.int .i64 (q:Int)):=by
    have h:=HF.out.own
    rw [hbr] at h
    have h3:=h.cells (g:=br) rfl (n+j) _ (dk hq)
    rw [aQ,Nat.zero_add] at h3
    exact h3
   have HC:Hid (wr.cell? ⟨br,n+j,none⟩=some (.int .i64 (q:Int))):=hcell
   have HX:Hid (T[q]?=some x∧q≤100000):=⟨hTx,by have h1:=(List.getElem?_eq_some_iff.1 hTx).1;have h2:=HTL.out;omega⟩
   have HDR:Hid (∀k v,delK (knownP T (R.take n++R.drop (n+j))) (.int .i64 (q:Int)) k v↔knownP T (R.take n++R.drop (n+(j+1))) k v):=by
    obtain ⟨h1,e1⟩:=List.getElem?_eq_some_iff.1 hx
    have e2:R.drop (n+j)=x::R.drop (n+(j+1)):=by rw [List.drop_eq_getElem_cons h1,e1];rfl
    show ∀k v,delK _ _ k v↔_
    rw [e2]
    refine known_del hTx HT.out.nd (fun hm=>?_)
    have e3:R=R.take (n+j)++x::R.drop (n+(j+1)):=by rw [←e2,List.take_append_drop]
    have hnd:=HND.out
    rw [e3] at hnd
    obtain ⟨_,n2,n3⟩:=List.nodup_append.1 hnd
    rcases List.mem_append.1 hm with h5|h5
    ·have h6:x∈R.take (n+j):=by
      have e4:R.take n=(R.take (n+j)).take n:=by rw [List.take_take,Nat.min_eq_left (by omega)]
      rw [e4] at h5
      exact List.mem_of_mem_take h5
     exact n3 x h6 x (List.mem_cons_self ..) rfl
    ·exact (List.nodup_cons.1 n2).1 h5
   have HLT:Hid (j<lz):=hlt
   subst hpz2
   clear hq hx hTx hcell hnj hnl hbr hcr hlt HPR
   go_wp2_with (first
    | ((with_reducible refine af (some 15) (.indexAddr 41 (.tmp 11) (.tmp 13)) ?_);go_must (refine aa (.pointer (some ⟨br,n+j,none⟩)) rfl (a8 j rfl rfl rfl HLT.out) ?_))
    | ((with_reducible refine af (some 16) (.load 3 (.tmp 15)) ?_);go_must (refine aa (.int .i64 (q:Int)) rfl (ad (.int .i64 (q:Int)) HC.out rfl ag) ?_))
    | ((with_reducible refine af (some 20) (.load 50 (.tmp 19)) ?_);go_must (refine aa (.map (some mk)) rfl (ad (.map (some mk)) (HF.out.row.cell 1) rfl fg) ?_))
    | ((with_reducible refine af none (.call {callee:=.builtin .delete,args:=#[.tmp 20,.tmp 21],argTypes:=#[50,3]}) ?_);obtain ⟨qk,hqk,hk0⟩:=HF.out.km;obtain ⟨kl,hkl⟩:=int_of q HX.out.2;go_must (refine wpl_kmDel hk0 eK eI hkl rfl rfl ?_);intro w5 hk5 hu5;have HF5:Hid (Fg w w5 b1 QB dg mk g T R (R.take n++R.drop (n+(j+1))) (.slice pr L cr) rl):=HF.out.del hqk hk0.isMap hk5 hu5 HDR.out;clear hk0 hk5 hu5 hkl hqk))
   go_roundw
   case rel=>exact ⟨j+1,by go_num,by have:=HLT.out;omega,HF5.out⟩
   case measure=>have:=HLT.out;simp [intOf];omega
  ·have hje:j=lz:=by omega
   subst hje
   have hji:¬(j:Int)<(j:Int):=by omega
   clear hlt
   go_wp2_with (first
    | ((with_reducible refine af (some 27) (.load 41 (.tmp 26)) ?_);go_must (refine aa (.slice pr L cr) rfl (ad (.slice pr L cr) (HF.out.row.cell 2) rfl bC) ?_))
    | ((with_reducible refine af (some 29) (.slice 41 (.tmp 27) none (some (.tmp 28)) none) ?_);go_must (refine aa (.slice pr n cr) rfl (exec_cutP (HCH.out ()) HNC.out rfl rfl rfl) ?_))
    | ((with_reducible refine af none (.store 41 (.tmp 31) (.tmp 29)) ?_);go_must (refine bW 0 2 (.slice pr n cr) (Mem.enter HF.out.row) rfl rfl rfl e6 (by show 2<3;omega) rfl rfl ?_);intro w9 hu9 hm9;have HU9:Hid (Upd dg wr w9):=hu9;have HR9:Hid (Row w9 dg [.pointer (some ⟨g,0,none⟩),.map (some mk),.slice pr n cr] 52):=hm9.get 0 rfl;clear hu9 hm9))
   go_end0
   obtain ⟨qk,hqk,hk⟩:=HF.out.km
   obtain ⟨es,cc,hmp⟩:=hk.isMap
   have hown:=HF.out.own
   rw [←HLR.out ()] at hown
   have e:R.drop (n+j)=[]:=List.drop_eq_nil_of_le (by have h1:=HLZ.out ();have h2:=HLR.out ();have h3:=HNL.out;omega)
   rw [e,List.append_nil] at hk
   have htl:(R.take n).length=n:=by rw [List.length_take];have h2:=HLR.out ();have h3:=HNL.out;omega
   refine ⟨rfl,.slice pr n cr,⟨HR9.out,by rw [htl];exact cP (cut_ownP hown HNL.out) HU9.out (bn (cut_ownP hown HNL.out) HF.out.row (by decide)),HNUM.out.take n,⟨qk,by omega,hk.upd HU9.out (b8 HF.out.row hmp)⟩⟩,by cases pr<;>rfl,HU9.out.os.trans HF.out.os,HU9.out.tape.trans HF.out.tape,HU9.out.output.trans HF.out.output,Nat.le_trans HF.out.size HU9.out.size,fun b h1 h2 h3=>(HU9.out.block b (Nat.lt_of_lt_of_le h1 HF.out.size) h2).trans (HF.out.block b h1 h2 h3)⟩
open Go Go.RowKit Go.Maps
theorem dN {w:World} {b1 b2 K L n m:Nat} {e f:TypeId} {v u:Value} {cs ds:List Value} (h:w.ownsRow b1 e K v n cs) (h2:w.ownsRow b2 f L u m ds) (he:e≠f):∀b,v.ownBlock=some b→u.ownBlock≠some b:=by
 intro b hb hu
 obtain ⟨_,h3⟩:=h
 obtain ⟨_,h4⟩:=h2
 rcases h3 with ⟨rfl,_⟩|⟨g,cap,cur,rfl,_,hh,_⟩
 ·cases hb
 ·rcases h4 with ⟨rfl,_⟩|⟨g2,cap2,cur2,rfl,_,hh2,_⟩
  ·cases hu
  ·have e1:g=b:=by simpa [Value.ownBlock] using hb
   have e2:g2=b:=by simpa [Value.ownBlock] using hu
   subst e1 e2
   rw [hh] at hh2
   simp only [Option.some.injEq,Obj.cells.injEq] at hh2
   exact he hh2.2.1
structure WebA (b0:Nat) (w:World) (g m:Nat) (T:List Tm) (AL:List (Value×List Nat)) (vs va:Value):Prop where
 row:Row w g [.map (some m),vs,va] 62
 os:w.ownsRow b0 65 5 vs T.length (shCells T)
 oa:w.ownsRow b0 41 1 va T.length (AL.map Prod.fst)
 al:AL.length=T.length
 ar:∀(i:Nat) (v:Value) (l:List Nat),AL[i]?=some (v,l)→w.ownsRow b0 3 1 v l.length (nums l)
 ne:∀(i j:Nat) (v:Value) (l:List Nat) (v':Value) (l':List Nat),AL[i]?=some (v,l)→AL[j]?=some (v',l')→i≠j→∀b,v.ownBlock=some b→v'.ownBlock≠some b
 map:∃q,q≤T.length∧KM Tryz.prog 65 w m q (shapeP T)
 web:Web T
 nmo:∀(i:Nat) (t:Tm) (v:Value) (l:List Nat),T[i]?=some t→AL[i]?=some (v,l)→∃ws,NumsOf T l ws∧∀x,x∈ws↔x∈T∧t∈x.l
 new:b0≤g∧b0≤m
def Fp (g m:Nat) (AL:List (Value×List Nat)) (vs va:Value) (b:Nat):Prop:=b=g∨b=m∨vs.ownBlock=some b∨va.ownBlock=some b∨∃(i:Nat) (v:Value) (l:List Nat),AL[i]?=some (v,l)∧v.ownBlock=some b
theorem aF {w w':World} {base n K:Nat} {e:TypeId} {v:Value} {cs:List Value} (h:w.ownsRow base e K v n cs) (hk:∀b,v.ownBlock=some b→w'.heap[b]?=w.heap[b]?):w'.ownsRow base e K v n cs:=by
 obtain ⟨hl,h2⟩:=h
 refine ⟨hl,?_⟩
 rcases h2 with h2|⟨b,cap,cur,hv,hb,hh,r⟩
 ·exact Or.inl h2
 ·exact Or.inr ⟨b,cap,cur,hv,hb,by rw [hk b (by rw [hv];rfl)];exact hh,r⟩
section
variable {b0:Nat} {w w':World} {g m:Nat} {T:List Tm} {AL:List (Value×List Nat)} {vs va:Value}
theorem WebA.keep (h:WebA b0 w g m T AL vs va) (hk:∀b,Fp g m AL vs va b→w'.heap[b]?=w.heap[b]?):WebA b0 w' g m T AL vs va:=by
 obtain ⟨q,hq,hm⟩:=h.map
 refine ⟨?_,aF h.os fun b hb=>hk b (Or.inr (Or.inr (Or.inl hb))),aF h.oa fun b hb=>hk b (Or.inr (Or.inr (Or.inr (Or.inl hb)))),h.al,fun i v l hi=>aF (h.ar i v l hi) fun b hb=>hk b (Or.inr (Or.inr (Or.inr (Or.inr ⟨i,v,l,hi,hb⟩)))),h.ne,⟨q,hq,hm.keep (hk m (Or.inr (Or.inl rfl)))⟩,h.web,h.nmo,h.new⟩
 unfold Row
 rw [hk g (Or.inl rfl)]
 exact h.row
theorem WebA.lt (h:WebA b0 w g m T AL vs va) {b:Nat} (hb:Fp g m AL vs va b):b0≤b∧b<w.heap.size:=by
 rcases hb with rfl|rfl|hb|hb|⟨i,v,l,hi,hb⟩
 ·exact ⟨h.new.1,h.row.lt⟩
 ·obtain ⟨q,_,hm⟩:=h.map
  exact ⟨h.new.2,hm.lt⟩
 ·exact av h.os hb
 ·exact av h.oa hb
 ·exact av (h.ar i v l hi) hb
theorem WebA.below (h:WebA b0 w g m T AL vs va) (hb:Below w.heap.size w w'):WebA b0 w' g m T AL vs va:=h.keep fun b hf=>hb.block b (h.lt hf).2
def arOf (AL:List (Value×List Nat)) (i:Nat):Option Addr×Nat×List Nat:=match AL[i]? with
 | some (.slice p _ c,l)=>(p,c,l)
 | _=>(none,0,[])
theorem WebA.rd (h:WebA b0 w g m T AL vs va) (h0:0<T.length):∃bs cs ba ca,WebR w g T (arOf AL) m bs cs ba ca∧(vs.ownBlock=some bs∧va.ownBlock=some ba):=by
 obtain ⟨_,h1⟩:=h.os
 obtain ⟨_,h2⟩:=h.oa
 rcases h1 with ⟨_,h3⟩|⟨bs,cs,cur,rfl,_,hh,_⟩
 ·omega
 rcases h2 with ⟨_,h3⟩|⟨ba,ca,cur2,rfl,_,hh2,_⟩
 ·omega
 have ose:=h.os
 have oae:=h.oa
 refine ⟨bs,cs,ba,ca,⟨h.row,fun i t ht=>?_,fun i hi=>?_⟩,rfl,rfl⟩
 ·have hcell:∀(j:Nat) (v:Value),(shT T t)[j]?=some v→w.cell? ⟨bs,i * 5+j,none⟩=some v:=fun j v hv=>by
   have hc:=ose.cells (g:=bs) rfl (i * 5+j) v (by
    have key:∀(l:List Tm) (i:Nat),l[i]?=some t→(l.flatMap (shT T))[i * 5+j]?=some v:=by
     intro l
     induction l with
     | nil=>intro i hi;simp at hi
     | cons x l ih =>
      intro i hi
      rw [List.flatMap_cons]
      cases i with
      | zero =>
       simp only [List.getElem?_cons_zero,Option.some.injEq] at hi
       subst hi
       rw [Nat.zero_mul,Nat.zero_add,List.getElem?_append_left (List.getElem?_eq_some_iff.1 hv).1]
       exact hv
      | succ i =>
       rw [List.getElem?_append_right (by rw [ci];omega),ci,show (i+1) * 5+j - 5=i * 5+j by omega]
       exact ih i (by simpa using hi)
    exact key T i ht)
   rw [aQ,Nat.zero_add] at hc
   exact hc
  have hmem:=List.mem_of_getElem? ht
  refine ⟨hcell 0 _ rfl,hcell 1 _ rfl,hcell 2 _ rfl,h.web.len2 hmem,fun j x hx=>?_⟩
  have hxT:=h.web.kids t hmem x (List.mem_of_getElem? hx)
  refine ⟨idxT T x,a7 h.web.ok hxT,?_⟩
  have hj:j<2:=by have h1:=(List.getElem?_eq_some_iff.1 hx).1;have h2:=h.web.len2 hmem;omega
  have hq:kidQ T t j=(idxT T x:Int):=by unfold kidQ;rw [hx]
  rw [←hq,Nat.add_assoc]
  match j,hj with
  | 0,_=>exact hcell 3 _ rfl
  | 1,_=>exact hcell 4 _ rfl
 ·obtain ⟨e,he⟩:∃e,AL[i]?=some e:=⟨_,List.getElem?_eq_getElem (by rw [h.al];exact hi)⟩
  obtain ⟨v,l⟩:=e
  have ha:=h.ar i v l he
  obtain ⟨p,c,hv⟩:=cR ha
  subst hv
  have e1:arOf AL i=(p,c,l):=by unfold arOf;rw [he]
  rw [e1]
  refine ⟨?_,bK ha⟩
  have hc:=oae.cells (g:=ba) rfl i (.slice p l.length c) (by rw [List.getElem?_map,he];rfl)
  rw [aQ,Nat.zero_add] at hc
  exact hc
end
section
variable {P:Program} {ops:Array Oper} {rest:List Oper} {a:Act} {w:World} {Q:Exit→Act→World→Prop} {dst:Option Tmp} {typ:TypeId} {pos:String} {aft:Array Edge}
theorem wpl_boxN {ty:TypeId} {x:Operand} (l:List Value) (hx:a.eval x=.agg l.toArray)
  (h:∀w' g,Below w.heap.size w w'→w.heap.size≤g→Row w' g l ty→wpList P ops Q rest (a.put dst (.pointer (some ⟨g,0,none⟩))) w') :
  wpList P ops Q ({dst:=dst,op:=.box ty x,type:=typ,pos:=pos,after:=aft,guard:=none}::rest) a w:=by
 refine aw l hx (Mem.start w) ?_
 intro w' g hm
 refine h w' g hm.below ?_ (hm.get 0 rfl)
 have h2:=hm.fresh (g,_,_) (List.mem_cons_self ..)
 simpa using h2
end
theorem built_web (m:Nat):Tryz.prog.built 62 [(0,.map (some m))]=some [Value.map (some m),.slice none 0 0,.slice none 0 0].toArray:=by kernel_rfl
theorem built_der (g m:Nat):Tryz.prog.built 52 [(0,.pointer (some ⟨g,0,none⟩)),(1,.map (some m))]=some [Value.pointer (some ⟨g,0,none⟩),.map (some m),.slice none 0 0].toArray:=by kernel_rfl
theorem c7 (w:World) :
  Calls Tryz.prog 24 #[] w fun e w'=>∃g m,e=.returned (.pointer (some ⟨g,0,none⟩))∧WebA w.heap.size w' g m [] [] (.slice none 0 0) (.slice none 0 0)∧Below w.heap.size w w':=by
 have hm:=Mem.start w
 go_enter Tryz.func24,Tryz.ntmps24
 go_wp2_with (first
  | ((with_reducible refine af (some 1) (.makeMap 58 none) ?_);go_must (refine wpl_mkmap hm ?_);clear hm;intro w1 m hmap hnew hm;have HKM:Hid (KM Tryz.prog 65 w1 m 0 (fun _ _=>False)):=KM.new hmap;have HMN:Hid (w.heap.size≤m∧m<w1.heap.size):=⟨hnew,(Array.getElem?_eq_some_iff.1 hmap).1⟩;clear hmap hnew)
  | ((with_reducible refine af (some 2) (.build 62 #[(0,.tmp 1)]) ?_);go_must (refine cJ [.map (some m),.slice none 0 0,.slice none 0 0] [(0,.map (some m))] rfl (built_web m) ?_))
  | ((with_reducible refine af (some 3) (.box 62 (.tmp 2)) ?_);have hmB:=hm;go_must (refine wpl_boxN [.map (some m),.slice none 0 0,.slice none 0 0] rfl ?_);clear hm;intro w2 g hb2 hg2 hr2;have HB2:Hid (Below w1.heap.size w1 w2):=hb2;have HG2:Hid (w1.heap.size≤g):=hg2;have HR2:Hid (Row w2 g [.map (some m),.slice none 0 0,.slice none 0 0] 62):=hr2;have HB1:Hid (Below w.heap.size w w1):=hmB.below;clear hb2 hg2 hr2 hmB))
 go_ret
 refine ⟨g,m,rfl,⟨HR2.out,World.ownsRow_nil _ _ _ _,World.ownsRow_nil _ _ _ _,rfl,fun i v l h=>by simp at h,fun i j v l v' l' h=>by simp at h,⟨0,Nat.le_refl _,(HKM.out.below HB2.out).same fun k v=>⟨fun h=>h.elim,fun ⟨i,t,h,_⟩=>by simp at h⟩⟩,Web.nil,fun i t v l h=>by simp at h,Nat.le_trans HB1.out.size HG2.out,HMN.out.1⟩,HB1.out.trans (HB2.out.mono HB1.out.size)⟩
theorem bR (w:World) (g:Nat) (T:List Tm) :
  Calls Tryz.prog 27 #[.pointer (some ⟨g,0,none⟩)] w fun e w'=>∃dg mk,e=.returned (.pointer (some ⟨dg,0,none⟩))∧(∀b1,DerA b1 0 w' dg mk g T [] [] (.slice none 0 0) [])∧Below w.heap.size w w'∧w.heap.size≤dg∧w.heap.size≤mk:=by
 have hm:=Mem.start w
 go_enter Tryz.func27,Tryz.ntmps27
 go_wp2_with (first
  | ((with_reducible refine af (some 4) (.makeMap 50 none) ?_);go_must (refine wpl_mkmap hm ?_);clear hm;intro w1 mk hmap hnew hm;have HKM:Hid (KM Tryz.prog 3 w1 mk 0 (fun _ _=>False)):=KM.new hmap;have HMN:Hid (w.heap.size≤mk):=hnew;clear hmap hnew)
  | ((with_reducible refine af (some 5) (.build 52 #[(0,.tmp 3),(1,.tmp 4)]) ?_);go_must (refine cJ [.pointer (some ⟨g,0,none⟩),.map (some mk),.slice none 0 0] [(0,.pointer (some ⟨g,0,none⟩)),(1,.map (some mk))] rfl (built_der g mk) ?_))
  | ((with_reducible refine af (some 6) (.box 52 (.tmp 5)) ?_);have hmB:=hm;go_must (refine wpl_boxN [.pointer (some ⟨g,0,none⟩),.map (some mk),.slice none 0 0] rfl ?_);clear hm;intro w2 dg hb2 hg2 hr2;have HB2:Hid (Below w1.heap.size w1 w2):=hb2;have HG2:Hid (w1.heap.size≤dg):=hg2;have HR2:Hid (Row w2 dg [.pointer (some ⟨g,0,none⟩),.map (some mk),.slice none 0 0] 52):=hr2;have HB1:Hid (Below w.heap.size w w1):=hmB.below;clear hb2 hg2 hr2 hmB))
 go_ret
 refine ⟨dg,mk,rfl,fun b1=>⟨HR2.out,World.ownsRow_nil _ _ _ _,NumsOf.nil T,⟨0,Nat.zero_le _,(HKM.out.below HB2.out).same fun k v=>⟨fun h=>h.elim,fun ⟨_,i,t,_,h,_⟩=>by simp at h⟩⟩⟩,HB1.out.trans (HB2.out.mono HB1.out.size),Nat.le_trans HB1.out.size HG2.out,HMN.out⟩
open Go Go.RowKit Go.Maps
structure Fr (p:Nat→Prop) (w w':World):Prop where
 os:w'.os=w.os
 tape:w'.tape=w.tape
 output:w'.output=w.output
 size:w.heap.size≤w'.heap.size
 block:∀b,b<w.heap.size→¬p b→w'.heap[b]?=w.heap[b]?
theorem Fr.of_below {p:Nat→Prop} {w w':World} (h:Below w.heap.size w w'):Fr p w w':=⟨h.os,h.tape,h.output,h.size,fun b hb _=>h.block b hb⟩
theorem Fr.of_upd {p:Nat→Prop} {w w':World} {g:Nat} (h:Upd g w w') (hp:p g):Fr p w w':=⟨h.os,h.tape,h.output,h.size,fun b hb hn=>h.block b hb (fun he=>hn (he▸hp))⟩
theorem Fr.of_grown {p:Nat→Prop} {w w':World} {o:Option Nat} (h:w.grownBy w' o) (hp:∀b,o=some b→p b):Fr p w w':=⟨h.os,h.tape,h.output,h.size,fun b hb hn=>h.block b hb (fun he=>hn (hp b he.symm))⟩
theorem Fr.trans {p q:Nat→Prop} {a b c:World} (h:Fr p a b) (k:Fr q b c) (hq:∀x,q x→p x∨a.heap.size≤x):Fr p a c :=
 ⟨k.os.trans h.os,k.tape.trans h.tape,k.output.trans h.output,Nat.le_trans h.size k.size,fun x hx hn=>(k.block x (Nat.lt_of_lt_of_le hx h.size) (fun hqx=>by
  rcases hq x hqx with h1|h1
  ·exact hn h1
  ·omega)).trans (h.block x hx hn)⟩
structure WebN (b0:Nat) (w:World) (g m:Nat) (TM TS:List Tm) (AL:List (Value×List Nat)) (vs va:Value):Prop where
 row:Row w g [.map (some m),vs,va] 62
 os:w.ownsRow b0 65 5 vs TS.length (shCells TS)
 oa:w.ownsRow b0 41 1 va AL.length (AL.map Prod.fst)
 ar:∀(i:Nat) (v:Value) (l:List Nat),AL[i]?=some (v,l)→w.ownsRow b0 3 1 v l.length (nums l)
 ne:∀(i j:Nat) (v:Value) (l:List Nat) (v':Value) (l':List Nat),AL[i]?=some (v,l)→AL[j]?=some (v',l')→i≠j→∀b,v.ownBlock=some b→v'.ownBlock≠some b
 map:∃q,q≤TM.length∧KM Tryz.prog 65 w m q (shapeP TM)
 new:b0≤g∧b0≤m
section
variable {b0:Nat} {w w':World} {g m:Nat} {TM TS T:List Tm} {AL:List (Value×List Nat)} {vs va:Value}
theorem WebA.n (h:WebA b0 w g m T AL vs va):WebN b0 w g m T T AL vs va:=⟨h.row,h.os,by rw [h.al];exact h.oa,h.ar,h.ne,h.map,h.new⟩
theorem WebN.a (h:WebN b0 w g m T T AL vs va) (hal:AL.length=T.length) (hw:Web T) (hn:∀(i:Nat) (t:Tm) (v:Value) (l:List Nat),T[i]?=some t→AL[i]?=some (v,l)→∃ws,NumsOf T l ws∧∀x,x∈ws↔x∈T∧t∈x.l):WebA b0 w g m T AL vs va :=
 ⟨h.row,h.os,by rw [←hal];exact h.oa,hal,h.ar,h.ne,h.map,hw,hn,h.new⟩
structure Ds (g m:Nat) (AL:List (Value×List Nat)) (vs va:Value):Prop where
 gm:g≠m
 gs:vs.ownBlock≠some g
 ga:va.ownBlock≠some g
 gi:∀(i:Nat) (v:Value) (l:List Nat),AL[i]?=some (v,l)→v.ownBlock≠some g
 ms:vs.ownBlock≠some m
 ma:va.ownBlock≠some m
 mi:∀(i:Nat) (v:Value) (l:List Nat),AL[i]?=some (v,l)→v.ownBlock≠some m
 sa:∀b,vs.ownBlock=some b→va.ownBlock≠some b
 si:∀(i:Nat) (v:Value) (l:List Nat),AL[i]?=some (v,l)→∀b,vs.ownBlock=some b→v.ownBlock≠some b
 ai:∀(i:Nat) (v:Value) (l:List Nat),AL[i]?=some (v,l)→∀b,va.ownBlock=some b→v.ownBlock≠some b
theorem WebN.ds (h:WebN b0 w g m TM TS AL vs va):Ds g m AL vs va:=by
 obtain ⟨q,_,hk⟩:=h.map
 obtain ⟨es,c,hm⟩:=hk.isMap
 exact ⟨b8 h.row hm,fun he=>bn h.os h.row (by decide) he.symm,fun he=>bn h.oa h.row (by decide) he.symm,fun i v l hi he=>bn (h.ar i v l hi) h.row (by decide) he.symm,
  fun he=>bk h.os hm he.symm,fun he=>bk h.oa hm he.symm,fun i v l hi he=>bk (h.ar i v l hi) hm he.symm,
  dN h.os h.oa (by decide),fun i v l hi=>dN h.os (h.ar i v l hi) (by decide),fun i v l hi=>dN h.oa (h.ar i v l hi) (by decide)⟩
theorem WebN.lt (h:WebN b0 w g m TM TS AL vs va) {b:Nat} (hb:Fp g m AL vs va b):b0≤b∧b<w.heap.size:=by
 rcases hb with rfl|rfl|hb|hb|⟨i,v,l,hi,hb⟩
 ·exact ⟨h.new.1,h.row.lt⟩
 ·obtain ⟨q,_,hm⟩:=h.map
  exact ⟨h.new.2,hm.lt⟩
 ·exact av h.os hb
 ·exact av h.oa hb
 ·exact av (h.ar i v l hi) hb
theorem WebN.keep (h:WebN b0 w g m TM TS AL vs va) (hk:∀b,Fp g m AL vs va b→w'.heap[b]?=w.heap[b]?):WebN b0 w' g m TM TS AL vs va:=by
 obtain ⟨q,hq,hm⟩:=h.map
 refine ⟨?_,aF h.os fun b hb=>hk b (Or.inr (Or.inr (Or.inl hb))),aF h.oa fun b hb=>hk b (Or.inr (Or.inr (Or.inr (Or.inl hb)))),fun i v l hi=>aF (h.ar i v l hi) fun b hb=>hk b (Or.inr (Or.inr (Or.inr (Or.inr ⟨i,v,l,hi,hb⟩)))),h.ne,⟨q,hq,hm.keep (hk m (Or.inr (Or.inl rfl)))⟩,h.new⟩
 unfold Row
 rw [hk g (Or.inl rfl)]
 exact h.row
theorem WebN.below (h:WebN b0 w g m TM TS AL vs va) (hb:Below w.heap.size w w'):WebN b0 w' g m TM TS AL vs va:=h.keep fun b hf=>hb.block b (h.lt hf).2
/-- One more in the map. -/
theorem WebN.put {TM':List Tm} {q:Nat} (h:WebN b0 w g m TM TS AL vs va) (hq:q≤TM'.length) (hk:KM Tryz.prog 65 w' m q (shapeP TM')) (hu:Upd m w w'):WebN b0 w' g m TM' TS AL vs va∧Fr (Fp g m AL vs va) w w':=by
 have d:=h.ds
 have kp:∀b,Fp g m AL vs va b→b≠m→w'.heap[b]?=w.heap[b]?:=fun b hf hn=>hu.block b (h.lt hf).2 hn
 refine ⟨⟨hu.row h.row d.gm,aF h.os fun b hb=>kp b (Or.inr (Or.inr (Or.inl hb))) (fun he=>d.ms (he▸hb)),aF h.oa fun b hb=>kp b (Or.inr (Or.inr (Or.inr (Or.inl hb)))) (fun he=>d.ma (he▸hb)),fun i v l hi=>aF (h.ar i v l hi) fun b hb=>kp b (Or.inr (Or.inr (Or.inr (Or.inr ⟨i,v,l,hi,hb⟩)))) (fun he=>d.mi i v l hi (he▸hb)),h.ne,⟨q,hq,hk⟩,h.new⟩,Fr.of_upd hu (Or.inr (Or.inl rfl))⟩
/-- One more shape. -/
theorem WebN.shape {TS':List Tm} {wb wc:World} {v':Value} (h:WebN b0 w g m TM TS AL vs va) (hb:Below w.heap.size w wb) (ho:wc.ownsRow b0 65 5 v' TS'.length (shCells TS')) (hg:wb.grownBy wc vs.ownBlock) (hl:v'.ownBlock=vs.ownBlock∨v'.ownBlock=some wb.heap.size) (hu:Upd g wc w') (hr:Row w' g [.map (some m),v',va] 62) :
  WebN b0 w' g m TM TS' AL v' va∧Fr (Fp g m AL vs va) w w'∧∀b,Fp g m AL v' va b→Fp g m AL vs va b∨w.heap.size≤b:=by
 have h1:=h.below hb
 have d:=h.ds
 have s1:=hb.size
 have kp:∀b,Fp g m AL vs va b→b≠g→vs.ownBlock≠some b→w'.heap[b]?=wb.heap[b]?:=fun b hf hn hn2=>by
  have hlt:=(h1.lt hf).2
  rw [hu.block b (by have:=hg.size;omega) hn,hg.block b hlt (fun he=>hn2 he.symm)]
 obtain ⟨q,hq,hk⟩:=h1.map
 have hvg:v'.ownBlock≠some g:=fun he=>by
  rcases hl with hl|hl
  ·exact d.gs (hl▸he)
  ·rw [hl] at he
   have:=Option.some.inj he
   have:=h1.row.lt
   omega
 refine ⟨⟨hr,aF ho fun b hb'=>hu.block b (av ho hb').2 (fun he=>hvg (he▸hb')),aF h1.oa fun b hb'=>kp b (Or.inr (Or.inr (Or.inr (Or.inl hb')))) (fun he=>d.ga (he▸hb')) (fun he=>d.sa b he hb'),
   fun i v l hi=>aF (h1.ar i v l hi) fun b hb'=>kp b (Or.inr (Or.inr (Or.inr (Or.inr ⟨i,v,l,hi,hb'⟩)))) (fun he=>d.gi i v l hi (he▸hb')) (fun he=>d.si i v l hi b he hb'),h.ne,⟨q,hq,hk.keep (kp m (Or.inr (Or.inl rfl)) (fun he=>d.gm he.symm) d.ms)⟩,h.new⟩,
  ((Fr.of_below hb).trans (Fr.of_grown (p:=Fp g m AL vs va) hg fun b hb'=>Or.inr (Or.inr (Or.inl hb'))) fun x hx=>Or.inl hx).trans (Fr.of_upd (p:=Fp g m AL vs va) hu (Or.inl rfl)) fun x hx=>Or.inl hx,fun b hf=>?_⟩
 rcases hf with rfl|rfl|hf|hf|hf
 ·exact Or.inl (Or.inl rfl)
 ·exact Or.inl (Or.inr (Or.inl rfl))
 ·rcases hl with hl|hl
  ·exact Or.inl (Or.inr (Or.inr (Or.inl (hl▸hf))))
  ·rw [hl] at hf
   have:=Option.some.inj hf
   exact Or.inr (by omega)
 ·exact Or.inl (Or.inr (Or.inr (Or.inr (Or.inl hf))))
 ·exact Or.inl (Or.inr (Or.inr (Or.inr (Or.inr hf))))
/-- One more row around, of nothing. -/
theorem WebN.around0 {wb wc:World} {v':Value} (h:WebN b0 w g m TM TS AL vs va) (hb:Below w.heap.size w wb) (ho:wc.ownsRow b0 41 1 v' (AL.length+1) (AL.map Prod.fst++[.slice none 0 0])) (hg:wb.grownBy wc va.ownBlock) (hl:v'.ownBlock=va.ownBlock∨v'.ownBlock=some wb.heap.size) (hu:Upd g wc w') (hr:Row w' g [.map (some m),vs,v'] 62) :
  WebN b0 w' g m TM TS (AL++[(.slice none 0 0,[])]) vs v'∧Fr (Fp g m AL vs va) w w'∧∀b,Fp g m (AL++[(.slice none 0 0,[])]) vs v' b→Fp g m AL vs va b∨w.heap.size≤b:=by
 have h1:=h.below hb
 have d:=h.ds
 have s1:=hb.size
 have kp:∀b,Fp g m AL vs va b→b≠g→va.ownBlock≠some b→w'.heap[b]?=wb.heap[b]?:=fun b hf hn hn2=>by
  have hlt:=(h1.lt hf).2
  rw [hu.block b (by have:=hg.size;omega) hn,hg.block b hlt (fun he=>hn2 he.symm)]
 obtain ⟨q,hq,hk⟩:=h1.map
 have hvg:v'.ownBlock≠some g:=fun he=>by
  rcases hl with hl|hl
  ·exact d.ga (hl▸he)
  ·rw [hl] at he
   have:=Option.some.inj he
   have:=h1.row.lt
   omega
 have hnew:∀(i:Nat) (v:Value) (l:List Nat),(AL++[(Value.slice none 0 0,([]:List Nat))])[i]?=some (v,l)→AL[i]?=some (v,l)∨(v=.slice none 0 0∧l=[]):=fun i v l hi=>by
  by_cases hlt:i<AL.length
  ·rw [List.getElem?_append_left hlt] at hi;exact Or.inl hi
  ·rw [List.getElem?_append_right (by omega)] at hi
   have h0:i - AL.length=0:=by
    have:=(List.getElem?_eq_some_iff.1 hi).1
    simp at this
    omega
   rw [h0] at hi
   simp only [List.getElem?_cons_zero,Option.some.injEq,Prod.mk.injEq] at hi
   exact Or.inr ⟨hi.1.symm,hi.2.symm⟩
 refine ⟨⟨hr,aF h1.os fun b hb'=>kp b (Or.inr (Or.inr (Or.inl hb'))) (fun he=>d.gs (he▸hb')) (d.sa b hb'),by rw [List.length_append,List.map_append];exact aF ho fun b hb'=>hu.block b (av ho hb').2 (fun he=>hvg (he▸hb')),
   fun i v l hi=>?_,fun i j v l v' l' hi hj hij b hb'=>?_,⟨q,hq,hk.keep (kp m (Or.inr (Or.inl rfl)) (fun he=>d.gm he.symm) d.ma)⟩,h.new⟩,
  ((Fr.of_below hb).trans (Fr.of_grown (p:=Fp g m AL vs va) hg fun b hb'=>Or.inr (Or.inr (Or.inr (Or.inl hb')))) fun x hx=>Or.inl hx).trans (Fr.of_upd (p:=Fp g m AL vs va) hu (Or.inl rfl)) fun x hx=>Or.inl hx,fun b hf=>?_⟩
 ·rcases hnew i v l hi with h2|⟨rfl,rfl⟩
  ·exact aF (h1.ar i v l h2) fun b hb'=>kp b (Or.inr (Or.inr (Or.inr (Or.inr ⟨i,v,l,h2,hb'⟩)))) (fun he=>d.gi i v l h2 (he▸hb')) (fun he=>d.ai i v l h2 b he hb')
  ·exact World.ownsRow_nil _ _ _ _
 ·rcases hnew i v l hi with h2|⟨rfl,rfl⟩
  ·rcases hnew j v' l' hj with h3|⟨rfl,rfl⟩
   ·exact h.ne i j v l v' l' h2 h3 hij b hb'
   ·intro hc;cases hc
  ·cases hb'
 ·rcases hf with rfl|rfl|hf|hf|⟨i,v,l,hi,hf⟩
  ·exact Or.inl (Or.inl rfl)
  ·exact Or.inl (Or.inr (Or.inl rfl))
  ·exact Or.inl (Or.inr (Or.inr (Or.inl hf)))
  ·rcases hl with hl|hl
   ·exact Or.inl (Or.inr (Or.inr (Or.inr (Or.inl (hl▸hf)))))
   ·rw [hl] at hf
    have:=Option.some.inj hf
    exact Or.inr (by omega)
  ·rcases hnew i v l hi with h2|⟨rfl,rfl⟩
   ·exact Or.inl (Or.inr (Or.inr (Or.inr (Or.inr ⟨i,v,l,h2,hf⟩))))
   ·cases hf
/-- One of the rows around grows by a number. -/
theorem WebN.aroundI {wb wc:World} {v v':Value} {l:List Nat} {i q ba:Nat} (h:WebN b0 w g m TM TS AL vs va) (hi:AL[i]?=some (v,l)) (hba:va.ownBlock=some ba) (hb:Below w.heap.size w wb) (ho:wc.ownsRow b0 3 1 v' (l++[q]).length (nums (l++[q]))) (hg:wb.grownBy wc v.ownBlock) (hl:v'.ownBlock=v.ownBlock∨v'.ownBlock=some wb.heap.size) (hu:Upd ba wc w')
  (hr:wc.ownsRow b0 41 1 va AL.length (AL.map Prod.fst)→w'.ownsRow b0 41 1 va AL.length ((AL.map Prod.fst).set i v')) :
  WebN b0 w' g m TM TS (AL.set i (v',l++[q])) vs va∧Fr (Fp g m AL vs va) w w'∧∀b,Fp g m (AL.set i (v',l++[q])) vs va b→Fp g m AL vs va b∨w.heap.size≤b:=by
 have h1:=h.below hb
 have d:=h.ds
 have s1:=hb.size
 have s2:=hg.size
 have kp:∀b,Fp g m AL vs va b→b≠ba→v.ownBlock≠some b→w'.heap[b]?=wb.heap[b]?:=fun b hf hn hn2=>by
  have hlt:=(h1.lt hf).2
  rw [hu.block b (by omega) hn,hg.block b hlt (fun he=>hn2 he.symm)]
 obtain ⟨qk,hqk,hk⟩:=h1.map
 have hilt:i<AL.length:=(List.getElem?_eq_some_iff.1 hi).1
 have hbalt:ba<wb.heap.size:=(av h1.oa hba).2
 have hvba:v'.ownBlock≠some ba:=fun he=>by
  rcases hl with hl|hl
  ·exact d.ai i v l hi ba hba (hl▸he)
  ·rw [hl] at he
   have:=Option.some.inj he
   omega
 have hset:∀(j:Nat) (u:Value) (k:List Nat),(AL.set i (v',l++[q]))[j]?=some (u,k)→(j=i∧u=v'∧k=l++[q])∨(j≠i∧AL[j]?=some (u,k)):=fun j u k hj=>by
  by_cases he:j=i
  ·subst he
   rw [List.getElem?_set_self hilt] at hj
   simp only [Option.some.injEq,Prod.mk.injEq] at hj
   exact Or.inl ⟨rfl,hj.1.symm,hj.2.symm⟩
  ·rw [List.getElem?_set_ne (fun h=>he h.symm)] at hj
   exact Or.inr ⟨he,hj⟩
 have hoa:wc.ownsRow b0 41 1 va AL.length (AL.map Prod.fst):=aF h1.oa fun b hb'=>hg.block b (av h1.oa hb').2 (fun he=>d.ai i v l hi b hb' he.symm)
 refine ⟨⟨?_,aF h1.os fun b hb'=>kp b (Or.inr (Or.inr (Or.inl hb'))) (fun he=>d.sa b hb' (he▸hba)) (d.si i v l hi b hb'),by rw [List.length_set,List.map_set];exact hr hoa,
   fun j u k hj=>?_,fun j1 j2 u1 k1 u2 k2 e1 e2 hne b hb'=>?_,⟨qk,hqk,hk.keep (kp m (Or.inr (Or.inl rfl)) (fun he=>d.ma (he▸hba)) (d.mi i v l hi))⟩,h.new⟩,
  ((Fr.of_below hb).trans (Fr.of_grown (p:=Fp g m AL vs va) hg fun b hb'=>Or.inr (Or.inr (Or.inr (Or.inr ⟨i,v,l,hi,hb'⟩)))) fun x hx=>Or.inl hx).trans (Fr.of_upd (p:=Fp g m AL vs va) hu (Or.inr (Or.inr (Or.inr (Or.inl hba))))) fun x hx=>Or.inl hx,fun b hf=>?_⟩
 ·unfold Row
  rw [kp g (Or.inl rfl) (fun he=>d.ga (he▸hba)) (d.gi i v l hi)]
  exact h1.row
 ·rcases hset j u k hj with ⟨rfl,rfl,rfl⟩|⟨hji,hj⟩
  ·exact aF ho fun b hb'=>hu.block b (av ho hb').2 (fun he=>hvba (he▸hb'))
  ·exact aF (h1.ar j u k hj) fun b hb'=>kp b (Or.inr (Or.inr (Or.inr (Or.inr ⟨j,u,k,hj,hb'⟩)))) (fun he=>d.ai j u k hj b (he▸hba) hb') (fun he=>h.ne i j v l u k hi hj (fun e=>hji e.symm) b he hb')
 ·rcases hset j1 u1 k1 e1 with ⟨rfl,rfl,rfl⟩|⟨h3,e1⟩
  ·rcases hset j2 u2 k2 e2 with ⟨rfl,_,_⟩|⟨h4,e2⟩
   ·exact absurd rfl hne
   ·intro he
    rcases hl with hl|hl
    ·exact h.ne j1 j2 v l u2 k2 hi e2 (fun e=>h4 e.symm) b (hl▸hb') he
    ·rw [hl] at hb'
     have:=Option.some.inj hb'
     have:=(av (h1.ar j2 u2 k2 e2) he).2
     omega
  ·have e1':=e1
   rcases hset j2 u2 k2 e2 with ⟨rfl,rfl,rfl⟩|⟨h4,e2⟩
   ·intro he
    rcases hl with hl|hl
    ·exact h.ne j1 j2 u1 k1 v l e1' hi h3 b hb' (hl▸he)
    ·rw [hl] at he
     have:=Option.some.inj he
     have:=(av (h1.ar j1 u1 k1 e1') hb').2
     omega
   ·exact h.ne j1 j2 u1 k1 u2 k2 e1' e2 hne b hb'
 ·rcases hf with rfl|rfl|hf|hf|⟨j,u,k,hj,hf⟩
  ·exact Or.inl (Or.inl rfl)
  ·exact Or.inl (Or.inr (Or.inl rfl))
  ·exact Or.inl (Or.inr (Or.inr (Or.inl hf)))
  ·exact Or.inl (Or.inr (Or.inr (Or.inr (Or.inl hf))))
  ·rcases hset j u k hj with ⟨rfl,rfl,rfl⟩|⟨hji,hj⟩
   ·rcases hl with hl|hl
    ·exact Or.inl (Or.inr (Or.inr (Or.inr (Or.inr ⟨j,v,l,hi,hl▸hf⟩))))
    ·rw [hl] at hf
     have:=Option.some.inj hf
     exact Or.inr (by omega)
   ·exact Or.inl (Or.inr (Or.inr (Or.inr (Or.inr ⟨j,u,k,hj,hf⟩))))
end
end Go.Proofs.YtcibhfcjbokdlaaGreatDoor
