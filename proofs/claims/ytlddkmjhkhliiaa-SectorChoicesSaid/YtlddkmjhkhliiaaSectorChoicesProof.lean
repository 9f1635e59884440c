/- The statement SectorChoices: for every input the law returns true and each argument reads as it did; nothing is assumed. -/
import Derived.Test.YtlddkmjhkhliiaaSecOpenB
import Derived.Test.YtlddkmjhkhliiaaSectorChoicesWalk
namespace Go.Proofs.Ytlddkmjhkhliiaa.sectorChoices
open Go Go.ChangeShapes Go.WideShapes Go.ChangeAt Go.RowKit

set_option maxRecDepth 100000 in
theorem contract (H : Type) (enc : TypeId × Value → H) (W : World) (base : Nat) (args : Array Value) (ds gs : List (DataW H)) (before : List MemPlace)
    (hval : ∀ (j : Nat) t v, Try.f7.params[j]? = some t → args[j]? = some v → Value.okWide Try.prog W .any base t v)
    (hW : DataW.Whole enc Try.prog Try.f7.params.toList Rows.sectorChoicesSpec.vars false W args.toList ds gs before) (_hL : laidMetH Try.prog Rows.sectorChoicesRow.laid W) :
    Calls Try.prog 7 args W fun e W' => ∃ v, e = .returned v ∧ Rows.sectorChoicesSpec.post enc Try.prog Try.f7 false true false false W args v W' := by
  have hW' := hW
  obtain ⟨p, q, hA0, hV, rfl, hfz, hnd⟩ := hW
  have hA : DataW.TrodAll enc Try.prog W 0 (fun _ => true) true Try.f7.params.toList args.toList ds p := hA0
  rw [Try.params7] at hA hval
  obtain ⟨v0, vs0, d0, ds0, p0, q0, hargs, rfl, rfl, h0, r0⟩ := trodAll_cons hA
  obtain ⟨v1, vs1, d1, ds1, p1, q1, rfl, rfl, rfl, h1, r1⟩ := trodAll_cons r0
  obtain ⟨v2, vs2, d2, ds2, p2, q2, rfl, rfl, rfl, h2, r2⟩ := trodAll_cons r1
  obtain ⟨rfl, rfl, rfl⟩ := trodAll_nil r2
  obtain rfl : args = #[v0, v1, v2] := by cases args; simp_all
  obtain ⟨rfl, rfl⟩ := trodVars_none hV
  have k0 := h0
  have lt0 : ∀ x ∈ p0, x.block < W.heap.size := by obtain ⟨m, hm⟩ := k0; exact DataW.trod_lt m _ _ _ hm
  have k1 := h1
  have lt1 : ∀ x ∈ p1, x.block < W.heap.size := by obtain ⟨m, hm⟩ := k1; exact DataW.trod_lt m _ _ _ hm
  have k2 := h2
  have lt2 : ∀ x ∈ p2, x.block < W.heap.size := by obtain ⟨m, hm⟩ := k2; exact DataW.trod_lt m _ _ _ hm
  obtain ⟨l0, rfl, hl0⟩ := open_bo6 (hval 0 49 v0 rfl rfl) h0
  obtain ⟨l1, rfl, hl1⟩ := open_bo6 (hval 1 49 v1 rfl rfl) h1
  obtain ⟨l2, rfl, hl2⟩ := open_bo6 (hval 2 49 v2 rfl rfl) h2
  clear hA0
  refine (sectorChoices_walk l0 l1 l2 hl0 hl1 hl2 W).mono fun e W' ⟨he, bel⟩ => ?_
  subst he
  exact ⟨_, rfl, _, _, _, [], _, [], hW', trodAll_mk1 (shut_bool Try.underlying4 _), (trodAll_cons_mk (Below.trod laidOut (by kernel_rfl) (of_decide_eq_true (by kernel_rfl)) k0 bel lt0) (trodAll_cons_mk (Below.trod laidOut (by kernel_rfl) (of_decide_eq_true (by kernel_rfl)) k1 bel lt1) (trodAll_cons_mk (Below.trod laidOut (by kernel_rfl) (of_decide_eq_true (by kernel_rfl)) k2 bel lt2) trodAll_mk0))), rfl, bel.frame _, fun h => by cases h⟩

set_option maxRecDepth 100000 in
theorem reads (os : Os) {H : Type} (enc : TypeId × Value → H) : ∃ places, DataW.whole enc Try.prog ((World.laidAll Try.prog os Rows.sectorChoicesRow.laid).forCall (fun _ _ => 0) ⟨#[], #[.agg (bls (List.replicate 6 false)).toArray, .agg (bls (List.replicate 6 false)).toArray, .agg (bls (List.replicate 6 false)).toArray], []⟩).memory Try.f7.params.toList Rows.sectorChoicesSpec.vars false (#[.agg (bls (List.replicate 6 false)).toArray, .agg (bls (List.replicate 6 false)).toArray, .agg (bls (List.replicate 6 false)).toArray] : Array Value).toList 8 = some ([.agg (List.replicate 6 (.lit (.bool false))), .agg (List.replicate 6 (.lit (.bool false))), .agg (List.replicate 6 (.lit (.bool false)))], [], places) :=
  ⟨[], by kernel_rfl⟩

set_option maxRecDepth 100000 in
theorem lifted (os : Os) (started : os.Started) (H : Type) (enc : TypeId × Value → H) (F : Stop.Interp) :
    ReturnsInHanded {} Try.checked os 7 .any ((OpenSpec.ofChange Rows.sectorChoicesSpec).preRow enc Try.prog Try.f7 Rows.sectorChoicesRow.domain false Rows.sectorChoicesRow.laid) (((OpenSpec.ofChange Rows.sectorChoicesSpec).at F).post enc Try.prog Try.f7 false true false false) := by
  obtain ⟨places, hx⟩ := reads os enc
  refine returnsInHanded_of_row (C := Try.checked) (s := OpenSpec.ofChange Rows.sectorChoicesSpec) own started (by kernel_rfl) Try.func7
    (witness_row_at (enc := enc) (C := Try.checked) false (World.laidAll Try.prog os Rows.sectorChoicesRow.laid) #[.agg (bls (List.replicate 6 false)).toArray, .agg (bls (List.replicate 6 false)).toArray, .agg (bls (List.replicate 6 false)).toArray] (World.laidAll_os _ _ _) (by kernel_rfl) (by kernel_rfl) (by kernel_rfl)
      (OpenSpec.preRow_of_cond 8 hx (by kernel_rfl) (fun k hk => by cases hk) (by kernel_rfl) (laidMet_laidAll _ (by kernel_rfl) (by kernel_rfl)))) ?_
  intro W base args ds gs before hval hW _ _ _ hL _ _
  exact contract H enc W base args ds gs before hval hW hL

set_option maxRecDepth 100000 in
theorem said : Rows.SectorChoicesSaid :=
  OpenClaim.holds_of_cond 7 Try.f7 rfl rfl rfl rfl rfl rfl rfl ⟨rfl, rfl, rfl, rfl, rfl⟩ rfl rfl rfl rfl rfl (by kernel_rfl) Try.func7 (by kernel_rfl)
    (of_decide_eq_true (by kernel_rfl)) (by unfold Func.isWrapper; first | (rw [if_pos (by decide +kernel)]; kernel_rfl) | (rw [if_neg (by decide +kernel)]; exact ⟨rfl, rfl⟩))
    (fun os started H enc _ F => by rw [OpenClaim.pre_eq_preRow]; exact lifted os started H enc F)

end Go.Proofs.Ytlddkmjhkhliiaa.sectorChoices
namespace Go.Proofs.Ytlddkmjhkhliiaa
open Go
set_option maxRecDepth 100000 in
theorem sectorChoices_holds : Rows.SectorChoicesSaid := sectorChoices.said
end Go.Proofs.Ytlddkmjhkhliiaa
