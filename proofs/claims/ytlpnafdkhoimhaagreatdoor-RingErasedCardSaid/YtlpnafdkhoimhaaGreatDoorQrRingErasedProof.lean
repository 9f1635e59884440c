/- The statement RingErased: for every input the law returns true and each argument reads as it did; nothing is assumed but what its row lists: that the table of round words, the table of the rounds' places and two tables of the library (of utf8) hold at the start what the text of the program lays. -/
import Derived.Test.YtlpnafdkhoimhaaGreatDoorQr44
set_option maxRecDepth 100000
set_option maxHeartbeats 4000000
namespace Go.Proofs.YtlpnafdkhoimhaaGreatDoor.ringErased
open Go Go.ChangeShapes Go.WideShapes Go.ChangeAt Go.RowKit
theorem contract (H:Type) (enc:TypeId×Value→H) (W:World) (base:Nat) (args:Array Value) (ds gs:List (DataW H)) (before:List MemPlace)
  (hval:∀(j:Nat) t v,Tryz.f4.params[j]?=some t→args[j]?=some v→Value.okWide Tryz.prog W .any base t v)
  (hW:DataW.Whole enc Tryz.prog Tryz.f4.params.toList Rows.ringErasedSpec.vars false W args.toList ds gs before) (hL:laidMetH Tryz.prog Rows.ringErasedRow.laid W) (hSh:W.ShapedOpen Tryz.prog) :
  Calls Tryz.prog 4 args W fun e W'=>∃v,e=.returned v∧Rows.ringErasedSpec.post enc Tryz.prog Tryz.f4 false true false false W args v W':=by
 have hW':=hW
 obtain ⟨p,q,hA0,hV,rfl,hfz,hnd⟩:=hW
 have hA:DataW.TrodAll enc Tryz.prog W 0 (fun _=>true) true Tryz.f4.params.toList args.toList ds p:=hA0
 rw [Tryz.params4] at hA hval
 obtain ⟨v0,vs0,d0,ds0,p0,q0,hargs,rfl,rfl,h0,r0⟩:=trodAll_cons hA
 obtain ⟨v1,vs1,d1,ds1,p1,q1,rfl,rfl,rfl,h1,r1⟩:=trodAll_cons r0
 obtain ⟨v2,vs2,d2,ds2,p2,q2,rfl,rfl,rfl,h2,r2⟩:=trodAll_cons r1
 obtain ⟨rfl,rfl,rfl⟩:=trodAll_nil r2
 obtain rfl:args=#[v0,v1,v2]:=by cases args;simp_all
 obtain ⟨rfl,rfl⟩:=trodVars_none hV
 have k0:=h0
 have lt0:∀x∈p0,x.block<W.heap.size:=by obtain ⟨m,hm⟩:=k0;exact DataW.trod_lt m _ _ _ hm
 have k1:=h1
 have lt1:∀x∈p1,x.block<W.heap.size:=by obtain ⟨m,hm⟩:=k1;exact DataW.trod_lt m _ _ _ hm
 have k2:=h2
 have lt2:∀x∈p2,x.block<W.heap.size:=by obtain ⟨m,hm⟩:=k2;exact DataW.trod_lt m _ _ _ hm
 obtain ⟨dp,rfl,rfl,rfl,wdp⟩:=open_int Tryz.underlying5 (hval 0 5 v0 rfl rfl) h0
 have bdp:=bounds_u8 wdp
 obtain ⟨at9,rfl,rfl,rfl,wat9⟩:=open_int Tryz.underlying5 (hval 1 5 v1 rfl rfl) h1
 have bat9:=bounds_u8 wat9
 obtain ⟨dd,rfl,ddl,ddb⟩:=open_k3 (hval 2 50 v2 rfl rfl) h2
 clear hA0
 refine (erased_walk dp at9 dd (by omega) (by omega) ddl ddb W (ir hL) (gE hL) (j3 hSh)).mono fun e W' ⟨he,bel⟩=>?_
 subst he
 exact ⟨_,rfl,_,_,_,[],_,[],hW',trodAll_mk1 (shut_bool Tryz.underlying4 _),(trodAll_cons_mk (Below.trod dv (by kernel_rfl) (of_decide_eq_true (by kernel_rfl)) k0 bel lt0) (trodAll_cons_mk (Below.trod dv (by kernel_rfl) (of_decide_eq_true (by kernel_rfl)) k1 bel lt1) (trodAll_cons_mk (Below.trod dv (by kernel_rfl) (of_decide_eq_true (by kernel_rfl)) k2 bel lt2) trodAll_mk0))),rfl,bel.frame _,fun h=>by cases h⟩
theorem reads (os:Os) {H:Type} (enc:TypeId×Value→H):∃places,DataW.whole enc Tryz.prog ((World.laidAll Tryz.prog os Rows.ringErasedRow.laid).forCall (fun _ _=>0) ⟨#[],#[.int .u8 0,.int .u8 0,.agg (u8s (List.replicate 96 0)).toArray],[]⟩).memory Tryz.f4.params.toList Rows.ringErasedSpec.vars false (#[.int .u8 0,.int .u8 0,.agg (u8s (List.replicate 96 0)).toArray]:Array Value).toList 8=some ([.lit (.int .u8 0),.lit (.int .u8 0),.agg (List.replicate 3 (.agg (List.replicate 32 (.lit (.int .u8 0)))))],[],places) :=
 ⟨[],by kernel_rfl⟩
theorem lifted (os:Os) (started:os.Started) (H:Type) (enc:TypeId×Value→H) (F:Stop.Interp) :
  ReturnsInHanded {} Tryz.checked os 4 .any ((OpenSpec.ofChange Rows.ringErasedSpec).preRow enc Tryz.prog Tryz.f4 Rows.ringErasedRow.domain false Rows.ringErasedRow.laid) (((OpenSpec.ofChange Rows.ringErasedSpec).at F).post enc Tryz.prog Tryz.f4 false true false false):=by
 obtain ⟨places,hx⟩:=reads os enc
 refine returnsInHanded_of_row (C:=Tryz.checked) (s:=OpenSpec.ofChange Rows.ringErasedSpec) own started (by kernel_rfl) Tryz.func4
  (witness_row_at (enc:=enc) (C:=Tryz.checked) false (World.laidAll Tryz.prog os Rows.ringErasedRow.laid) #[.int .u8 0,.int .u8 0,.agg (u8s (List.replicate 96 0)).toArray] (World.laidAll_os _ _ _) (by kernel_rfl) (by kernel_rfl) (by kernel_rfl)
   (OpenSpec.preRow_of_cond 8 hx (by kernel_rfl) (fun k hk=>by cases hk) (by kernel_rfl) (laidMet_laidAll _ (by kernel_rfl) (by kernel_rfl)))) ?_
 intro W base args ds gs before hval hW _ _ _ hL hSh _
 exact contract H enc W base args ds gs before hval hW hL hSh
theorem said:Rows.RingErasedSaid :=
 OpenClaim.holds_of_cond 4 Tryz.f4 rfl rfl rfl rfl rfl rfl rfl ⟨rfl,rfl,rfl,rfl,rfl⟩ rfl rfl rfl rfl rfl (by kernel_rfl) Tryz.func4 (by kernel_rfl)
  (of_decide_eq_true (by kernel_rfl)) (by unfold Func.isWrapper;first|(rw [if_pos (by decide +kernel)];kernel_rfl)|(rw [if_neg (by decide +kernel)];exact ⟨rfl,rfl⟩))
  (fun os started H enc _ F=>by rw [OpenClaim.pre_eq_preRow];exact lifted os started H enc F)
theorem plain (f:FuncId) (fn:Func) (hf:Tryz.pinned.checked.prog.funcNamed Rows.ringErasedRow.func=some f) (hfn:Tryz.pinned.checked.prog.funcs[f]?=some fn) :
  false=Tryz.pinned.checked.prog.looks []∧∀(j:Nat) t,fn.params[j]?=some t→Tryz.pinned.checked.prog.wantsStandIn t=false:=by
 obtain rfl:f=4:=Option.some.inj ((show Tryz.prog.funcNamed Rows.ringErasedRow.func=some 4 by kernel_rfl).symm.trans hf) |>.symm
 obtain rfl:fn=Tryz.f4:=(Option.some.inj (Tryz.func4.symm.trans hfn)).symm
 refine ⟨by kernel_rfl,fun j t ht=>?_⟩
 have hall:∀u∈Tryz.f4.params.toList,Tryz.prog.wantsStandIn u=false:=by
  rw [Tryz.params4]
  intro u hu
  simp only [List.mem_cons,List.not_mem_nil,or_false] at hu
  rcases hu with rfl|rfl|rfl<;>kernel_rfl
 exact hall t (Array.mem_toList_iff.2 (Array.mem_of_getElem? ht))
end Go.Proofs.YtlpnafdkhoimhaaGreatDoor.ringErased
namespace Go.Proofs.YtlpnafdkhoimhaaGreatDoor
open Go
theorem ringErased_card:Rows.RingErasedCardSaid :=
 Claim7.holds_tied_plain_at .later [] _ _ _ _ ringErased.said (fun _ h=>by cases h) (by kernel_rfl) (fun _ h=>by cases h) ringErased_row_tie rfl ⟨rfl,rfl⟩ (by kernel_rfl) rfl ringErased.plain (by kernel_rfl)
end Go.Proofs.YtlpnafdkhoimhaaGreatDoor
