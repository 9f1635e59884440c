/- The statement QuotaExact: for every input the law returns true and each argument reads as it did; nothing is assumed but what its row lists: that two tables of the library (of utf8) hold at the start what its text lays. -/
import Derived.Test.YtdmohffogfbnbaaDoorQx04
import Derived.Test.YtdmohffogfbnbaaDoorQx12
set_option maxRecDepth 100000
set_option maxHeartbeats 4000000
namespace Go.Proofs.YtdmohffogfbnbaaDoor.quotaExact
open Go Go.ChangeShapes Go.WideShapes Go.ChangeAt Go.RowKit
theorem contract (H:Type) (enc:TypeId×Value→H) (W:World) (base:Nat) (args:Array Value) (ds gs:List (DataW H)) (before:List MemPlace)
  (hval:∀(j:Nat) t v,Tryd.f3.params[j]?=some t→args[j]?=some v→Value.okWide Tryd.prog W .any base t v)
  (hW:DataW.Whole enc Tryd.prog Tryd.f3.params.toList Rows.quotaExactSpec.vars false W args.toList ds gs before) (_hL:laidMetH Tryd.prog Rows.quotaExactRow.laid W) (hSh:W.ShapedOpen Tryd.prog) :
  Calls Tryd.prog 3 args W fun e W'=>∃v,e=.returned v∧Rows.quotaExactSpec.post enc Tryd.prog Tryd.f3 false true false false W args v W':=by
 have hW':=hW
 obtain ⟨p,q,hA0,hV,rfl,hfz,hnd⟩:=hW
 have hA:DataW.TrodAll enc Tryd.prog W 0 (fun _=>true) true Tryd.f3.params.toList args.toList ds p:=hA0
 rw [Tryd.params3] at hA hval
 obtain ⟨v0,vs0,d0,ds0,p0,q0,hargs,rfl,rfl,h0,r0⟩:=trodAll_cons hA
 obtain ⟨v1,vs1,d1,ds1,p1,q1,rfl,rfl,rfl,h1,r1⟩:=trodAll_cons r0
 obtain ⟨v2,vs2,d2,ds2,p2,q2,rfl,rfl,rfl,h2,r2⟩:=trodAll_cons r1
 obtain ⟨v3,vs3,d3,ds3,p3,q3,rfl,rfl,rfl,h3,r3⟩:=trodAll_cons r2
 obtain ⟨rfl,rfl,rfl⟩:=trodAll_nil r3
 obtain rfl:args=#[v0,v1,v2,v3]:=by cases args;simp_all
 obtain ⟨rfl,rfl⟩:=trodVars_none hV
 have k0:=h0
 have lt0:∀x∈p0,x.block<W.heap.size:=by obtain ⟨m,hm⟩:=k0;exact DataW.trod_lt m _ _ _ hm
 have k1:=h1
 have lt1:∀x∈p1,x.block<W.heap.size:=by obtain ⟨m,hm⟩:=k1;exact DataW.trod_lt m _ _ _ hm
 have k2:=h2
 have lt2:∀x∈p2,x.block<W.heap.size:=by obtain ⟨m,hm⟩:=k2;exact DataW.trod_lt m _ _ _ hm
 have k3:=h3
 have lt3:∀x∈p3,x.block<W.heap.size:=by obtain ⟨m,hm⟩:=k3;exact DataW.trod_lt m _ _ _ hm
 obtain ⟨zs,rfl,zsl,zsb⟩:=open_a8 22 3 un_ab3 cells_ab3 (hval 0 22 v0 rfl rfl) h0
 obtain ⟨k,rfl,rfl,rfl,wk⟩:=open_int Tryd.underlying5 (hval 1 5 v1 rfl rfl) h1
 have bk:=bounds_u8 wk
 obtain ⟨x,rfl,rfl,rfl,wx⟩:=open_int Tryd.underlying5 (hval 2 5 v2 rfl rfl) h2
 have bx:=bounds_u8 wx
 obtain ⟨y,rfl,rfl,rfl,wy⟩:=open_int Tryd.underlying5 (hval 3 5 v3 rfl rfl) h3
 have by9:=bounds_u8 wy
 clear hA0
 refine (qexact_walk zs zsl zsb k bk x bx y by9 W (maxl_of hSh)).mono fun e W' ⟨he,bel⟩=>?_
 subst he
 exact ⟨_,rfl,_,_,_,[],_,[],hW',trodAll_mk1 (shut_bool Tryd.underlying4 _),(trodAll_cons_mk (Below.trod cL (by kernel_rfl) (of_decide_eq_true (by kernel_rfl)) k0 bel lt0) (trodAll_cons_mk (Below.trod cL (by kernel_rfl) (of_decide_eq_true (by kernel_rfl)) k1 bel lt1) (trodAll_cons_mk (Below.trod cL (by kernel_rfl) (of_decide_eq_true (by kernel_rfl)) k2 bel lt2) (trodAll_cons_mk (Below.trod cL (by kernel_rfl) (of_decide_eq_true (by kernel_rfl)) k3 bel lt3) trodAll_mk0)))),rfl,bel.frame _,fun h=>by cases h⟩
theorem reads (os:Os) {H:Type} (enc:TypeId×Value→H):∃places,DataW.whole enc Tryd.prog ((World.laidAll Tryd.prog os Rows.quotaExactRow.laid).forCall (fun _ _=>0) ⟨#[],#[.agg (([0,0,0]:List Int).map (Value.int .u8)).toArray,.int .u8 0,.int .u8 0,.int .u8 0],[]⟩).memory Tryd.f3.params.toList Rows.quotaExactSpec.vars false (#[.agg (([0,0,0]:List Int).map (Value.int .u8)).toArray,.int .u8 0,.int .u8 0,.int .u8 0]:Array Value).toList 8=some ([.agg (List.replicate 3 (.lit (.int .u8 0))),.lit (.int .u8 0),.lit (.int .u8 0),.lit (.int .u8 0)],[],places) :=
 ⟨[],by kernel_rfl⟩
theorem lifted (os:Os) (started:os.Started) (H:Type) (enc:TypeId×Value→H) (F:Stop.Interp) :
  ReturnsInHanded {} Tryd.checked os 3 .any ((OpenSpec.ofChange Rows.quotaExactSpec).preRow enc Tryd.prog Tryd.f3 Rows.quotaExactRow.domain false Rows.quotaExactRow.laid) (((OpenSpec.ofChange Rows.quotaExactSpec).at F).post enc Tryd.prog Tryd.f3 false true false false):=by
 obtain ⟨places,hx⟩:=reads os enc
 refine returnsInHanded_of_row (C:=Tryd.checked) (s:=OpenSpec.ofChange Rows.quotaExactSpec) own started (by kernel_rfl) Tryd.func3
  (witness_row_at (enc:=enc) (C:=Tryd.checked) false (World.laidAll Tryd.prog os Rows.quotaExactRow.laid) #[.agg (([0,0,0]:List Int).map (Value.int .u8)).toArray,.int .u8 0,.int .u8 0,.int .u8 0] (World.laidAll_os _ _ _) (by kernel_rfl) (by kernel_rfl) (by kernel_rfl)
   (OpenSpec.preRow_of_cond 8 hx (by kernel_rfl) (fun k hk=>by cases hk) (by kernel_rfl) (laidMet_laidAll _ (by kernel_rfl) (by kernel_rfl)))) ?_
 intro W base args ds gs before hval hW _ _ _ hL hSh _
 exact contract H enc W base args ds gs before hval hW hL hSh
theorem said:Rows.QuotaExactSaid :=
 OpenClaim.holds_of_cond 3 Tryd.f3 rfl rfl rfl rfl rfl rfl rfl ⟨rfl,rfl,rfl,rfl,rfl⟩ rfl rfl rfl rfl rfl (by kernel_rfl) Tryd.func3 (by kernel_rfl)
  (of_decide_eq_true (by kernel_rfl)) (by unfold Func.isWrapper;first|(rw [if_pos (by decide +kernel)];kernel_rfl)|(rw [if_neg (by decide +kernel)];exact ⟨rfl,rfl⟩))
  (fun os started H enc _ F=>by rw [OpenClaim.pre_eq_preRow];exact lifted os started H enc F)
theorem plain (f:FuncId) (fn:Func) (hf:Tryd.pinned.checked.prog.funcNamed Rows.quotaExactRow.func=some f) (hfn:Tryd.pinned.checked.prog.funcs[f]?=some fn) :
  false=Tryd.pinned.checked.prog.looks []∧∀(j:Nat) t,fn.params[j]?=some t→Tryd.pinned.checked.prog.wantsStandIn t=false:=by
 obtain rfl:f=3:=Option.some.inj ((show Tryd.prog.funcNamed Rows.quotaExactRow.func=some 3 by kernel_rfl).symm.trans hf) |>.symm
 obtain rfl:fn=Tryd.f3:=(Option.some.inj (Tryd.func3.symm.trans hfn)).symm
 refine ⟨by kernel_rfl,fun j t ht=>?_⟩
 have hall:∀u∈Tryd.f3.params.toList,Tryd.prog.wantsStandIn u=false:=by
  rw [Tryd.params3]
  intro u hu
  simp only [List.mem_cons,List.not_mem_nil,or_false] at hu
  rcases hu with rfl|rfl|rfl|rfl<;>kernel_rfl
 exact hall t (Array.mem_toList_iff.2 (Array.mem_of_getElem? ht))
end Go.Proofs.YtdmohffogfbnbaaDoor.quotaExact
namespace Go.Proofs.YtdmohffogfbnbaaDoor
open Go
theorem quotaExact_card:Rows.QuotaExactCardSaid :=
 Claim7.holds_tied_plain_at .later [] _ _ _ _ quotaExact.said (fun _ h=>by cases h) (by kernel_rfl) (fun _ h=>by cases h) quotaExact_row_tie rfl ⟨rfl,rfl⟩ (by kernel_rfl) rfl quotaExact.plain (by kernel_rfl)
end Go.Proofs.YtdmohffogfbnbaaDoor
