/- The statements' own known. -/
import Derived.Test.YtikmmheknfljkaaDoorPaFace2
namespace Go.Proofs.YtikmmheknfljkaaDoor
open Go Go.RowKit
set_option maxHeartbeats 4000000 in
set_option maxRecDepth 100000 in
theorem known_any (w : World) (hM : MaxL w) : Calls Tryd.prog 8 #[] w fun e w' => e = .returned (.bool true) ∧ Below w.heap.size w w' := by
  have hm := Mem.start w
  have HM : Hid (MaxL w) := hM
  clear hM
  have HP1 : Hid (∀ W, MaxL W → Calls Tryd.prog 9 #[.string ⟨#[97, 47, 98]⟩] W fun e w' => e = .returned (Value.tuple #[.string ⟨#[97]⟩, .bool true]) ∧ Below W.heap.size W w') := fun W hW => by
    have h := parentP_any ⟨#[97, 47, 98]⟩ W (by decide) hW
    rw [show Value.tuple #[.string (mkS (parOf (bs ⟨#[97, 47, 98]⟩))), .bool (parOk (bs ⟨#[97, 47, 98]⟩))] = Value.tuple #[.string ⟨#[97]⟩, .bool true] by rw [show parOf (bs ⟨#[97, 47, 98]⟩) = [97] by decide +kernel, show parOk (bs ⟨#[97, 47, 98]⟩) = true by decide +kernel]; rfl] at h
    exact h
  have HP2 : Hid (∀ W, MaxL W → Calls Tryd.prog 9 #[.string ⟨#[]⟩] W fun e w' => e = .returned (Value.tuple #[.string ⟨#[]⟩, .bool false]) ∧ Below W.heap.size W w') := fun W hW => by
    have h := parentP_any ⟨#[]⟩ W (by decide) hW
    rw [show Value.tuple #[.string (mkS (parOf (bs ⟨#[]⟩))), .bool (parOk (bs ⟨#[]⟩))] = Value.tuple #[.string ⟨#[]⟩, .bool false] by rw [show parOf (bs ⟨#[]⟩) = [] by decide +kernel, show parOk (bs ⟨#[]⟩) = false by decide +kernel]; rfl] at h
    exact h
  have HD1 : Hid (∀ W, MaxL W → Calls Tryd.prog 11 #[.string ⟨#[97, 0, 98, 0]⟩] W fun e w' => e = .returned (Value.tuple #[.string ⟨#[97, 47, 98]⟩, .int .i64 0]) ∧ Below W.heap.size W w') := fun W hW => by
    have h := decode_any ⟨#[97, 0, 98, 0]⟩ W (by decide) hW
    rw [show Value.tuple #[.string (mkS (decOf (bs ⟨#[97, 0, 98, 0]⟩))), .int .i64 (decErr (bs ⟨#[97, 0, 98, 0]⟩))] = Value.tuple #[.string ⟨#[97, 47, 98]⟩, .int .i64 0] by rw [show decOf (bs ⟨#[97, 0, 98, 0]⟩) = [97, 47, 98] by decide +kernel, show decErr (bs ⟨#[97, 0, 98, 0]⟩) = 0 by decide +kernel]; rfl] at h
    exact h
  have HD2 : Hid (∀ W, MaxL W → Calls Tryd.prog 11 #[.string ⟨#[97]⟩] W fun e w' => e = .returned (Value.tuple #[.string ⟨#[]⟩, .int .i64 110]) ∧ Below W.heap.size W w') := fun W hW => by
    have h := decode_any ⟨#[97]⟩ W (by decide) hW
    rw [show Value.tuple #[.string (mkS (decOf (bs ⟨#[97]⟩))), .int .i64 (decErr (bs ⟨#[97]⟩))] = Value.tuple #[.string ⟨#[]⟩, .int .i64 110] by rw [show decOf (bs ⟨#[97]⟩) = [] by decide +kernel, show decErr (bs ⟨#[97]⟩) = 110 by decide +kernel]; rfl] at h
    exact h
  have HI1 : Hid (∀ W, MaxL W → Calls Tryd.prog 15 #[.string ⟨#[]⟩] W fun e w' => e = .returned (Value.bool true) ∧ Below W.heap.size W w') := fun W hW => by
    have h := is_any ⟨#[]⟩ W (by decide) hW
    rw [show Value.bool (isP (bs ⟨#[]⟩)) = Value.bool true by rw [show isP (bs ⟨#[]⟩) = true by decide +kernel]] at h
    exact h
  have HI2 : Hid (∀ W, MaxL W → Calls Tryd.prog 15 #[.string ⟨#[97, 47, 98, 49]⟩] W fun e w' => e = .returned (Value.bool true) ∧ Below W.heap.size W w') := fun W hW => by
    have h := is_any ⟨#[97, 47, 98, 49]⟩ W (by decide) hW
    rw [show Value.bool (isP (bs ⟨#[97, 47, 98, 49]⟩)) = Value.bool true by rw [show isP (bs ⟨#[97, 47, 98, 49]⟩) = true by decide +kernel]] at h
    exact h
  have HI3 : Hid (∀ W, MaxL W → Calls Tryd.prog 15 #[.string ⟨#[97, 47, 47, 98]⟩] W fun e w' => e = .returned (Value.bool false) ∧ Below W.heap.size W w') := fun W hW => by
    have h := is_any ⟨#[97, 47, 47, 98]⟩ W (by decide) hW
    rw [show Value.bool (isP (bs ⟨#[97, 47, 47, 98]⟩)) = Value.bool false by rw [show isP (bs ⟨#[97, 47, 47, 98]⟩) = false by decide +kernel]] at h
    exact h
  have HI4 : Hid (∀ W, MaxL W → Calls Tryd.prog 15 #[.string ⟨#[97, 47, 98, 47, 99, 47, 100]⟩] W fun e w' => e = .returned (Value.bool false) ∧ Below W.heap.size W w') := fun W hW => by
    have h := is_any ⟨#[97, 47, 98, 47, 99, 47, 100]⟩ W (by decide) hW
    rw [show Value.bool (isP (bs ⟨#[97, 47, 98, 47, 99, 47, 100]⟩)) = Value.bool false by rw [show isP (bs ⟨#[97, 47, 98, 47, 99, 47, 100]⟩) = false by decide +kernel]] at h
    exact h
  have HU1 : Hid (∀ W, MaxL W → Calls Tryd.prog 22 #[.string ⟨#[97, 47, 98]⟩, .string ⟨#[97]⟩] W fun e w' => e = .returned (Value.bool true) ∧ Below W.heap.size W w') := fun W hW => by
    have h := under_any ⟨#[97, 47, 98]⟩ ⟨#[97]⟩ W (by decide) (by decide) hW
    rw [show Value.bool (undOf (bs ⟨#[97, 47, 98]⟩) (bs ⟨#[97]⟩)) = Value.bool true by rw [show undOf (bs ⟨#[97, 47, 98]⟩) (bs ⟨#[97]⟩) = true by decide +kernel]] at h
    exact h
  have HU2 : Hid (∀ W, MaxL W → Calls Tryd.prog 22 #[.string ⟨#[97, 98]⟩, .string ⟨#[97]⟩] W fun e w' => e = .returned (Value.bool false) ∧ Below W.heap.size W w') := fun W hW => by
    have h := under_any ⟨#[97, 98]⟩ ⟨#[97]⟩ W (by decide) (by decide) hW
    rw [show Value.bool (undOf (bs ⟨#[97, 98]⟩) (bs ⟨#[97]⟩)) = Value.bool false by rw [show undOf (bs ⟨#[97, 98]⟩) (bs ⟨#[97]⟩) = false by decide +kernel]] at h
    exact h
  have HE1 : Hid (∀ W, MaxL W → Calls Tryd.prog 24 #[.string ⟨#[97, 47, 98]⟩] W fun e w' => e = .returned (Value.int .i64 2) ∧ Below W.heap.size W w') := fun W hW => by
    have h := depthP_any ⟨#[97, 47, 98]⟩ W (by decide) hW
    rw [show Value.int .i64 ((segsB ⟨#[97, 47, 98]⟩).length : Int) = Value.int .i64 2 by rw [show (segsB ⟨#[97, 47, 98]⟩).length = 2 by decide +kernel]; rfl] at h
    exact h
  have tkP1 : Nat := 0
  have tkP2 : Nat := 0
  have tkD1 : Nat := 0
  have tkD2 : Nat := 0
  have tkI1 : Nat := 0
  have tkI2 : Nat := 0
  have tkI3 : Nat := 0
  have tkI4 : Nat := 0
  have tkU1 : Nat := 0
  have tkU2 : Nat := 0
  have tkE1 : Nat := 0
  go_enter Tryd.func8, Tryd.ntmps8
  go_wp2_with (first
    | (go_at_call 9; clear tkP1; refine (HP1.out _ (HM.out.below hm.below)).mono ?_; rintro e w' ⟨he, hb⟩; subst he; replace hm := hm.call hb; clear hb)
    | (go_at_call 9; clear tkP2; refine (HP2.out _ (HM.out.below hm.below)).mono ?_; rintro e w' ⟨he, hb⟩; subst he; replace hm := hm.call hb; clear hb)
    | (go_at_call 11; clear tkD1; refine (HD1.out _ (HM.out.below hm.below)).mono ?_; rintro e w' ⟨he, hb⟩; subst he; replace hm := hm.call hb; clear hb)
    | (go_at_call 11; clear tkD2; refine (HD2.out _ (HM.out.below hm.below)).mono ?_; rintro e w' ⟨he, hb⟩; subst he; replace hm := hm.call hb; clear hb)
    | (go_at_call 15; clear tkI1; refine (HI1.out _ (HM.out.below hm.below)).mono ?_; rintro e w' ⟨he, hb⟩; subst he; replace hm := hm.call hb; clear hb)
    | (go_at_call 15; clear tkI2; refine (HI2.out _ (HM.out.below hm.below)).mono ?_; rintro e w' ⟨he, hb⟩; subst he; replace hm := hm.call hb; clear hb)
    | (go_at_call 15; clear tkI3; refine (HI3.out _ (HM.out.below hm.below)).mono ?_; rintro e w' ⟨he, hb⟩; subst he; replace hm := hm.call hb; clear hb)
    | (go_at_call 15; clear tkI4; refine (HI4.out _ (HM.out.below hm.below)).mono ?_; rintro e w' ⟨he, hb⟩; subst he; replace hm := hm.call hb; clear hb)
    | (go_at_call 22; clear tkU1; refine (HU1.out _ (HM.out.below hm.below)).mono ?_; rintro e w' ⟨he, hb⟩; subst he; replace hm := hm.call hb; clear hb)
    | (go_at_call 22; clear tkU2; refine (HU2.out _ (HM.out.below hm.below)).mono ?_; rintro e w' ⟨he, hb⟩; subst he; replace hm := hm.call hb; clear hb)
    | (go_at_call 24; clear tkE1; refine (HE1.out _ (HM.out.below hm.below)).mono ?_; rintro e w' ⟨he, hb⟩; subst he; replace hm := hm.call hb; clear hb)
    | ((with_reducible refine at_op (some 42) (.binOp .eql 9 (.tmp 41) (.const (.string { data := #[97] })) 9) ?_); go_must (refine wpl_execG (.bool true) rfl (exec_eqsB ⟨#[97]⟩ ⟨#[97]⟩ true rfl rfl (eqs_yes _)) ?_))
    | ((with_reducible refine at_op (some 54) (.binOp .eql 9 (.tmp 53) (.const (.string { data := #[97, 47, 98] })) 9) ?_); go_must (refine wpl_execG (.bool true) rfl (exec_eqsB ⟨#[97, 47, 98]⟩ ⟨#[97, 47, 98]⟩ true rfl rfl (eqs_yes _)) ?_)))
  go_ret
  exact ⟨rfl, hm.below⟩
end Go.Proofs.YtikmmheknfljkaaDoor
