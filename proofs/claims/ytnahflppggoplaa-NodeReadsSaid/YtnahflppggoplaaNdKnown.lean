/- The statements' own function known. -/
import Derived.Test.YtnahflppggoplaaNdReadB
import Derived.Test.YtnahflppggoplaaNdSame
namespace Go.Proofs.Ytnahflppggoplaa
open Go Go.RowKit
section
variable {P : Program} {ops : Array Oper} {rest : List Oper} {a : Act} {w w0 : World} {Q : Exit → Act → World → Prop} {dst : Option Tmp} {typ : TypeId} {pos : String} {aft : Array Edge} {gd : Option (Nat × Bool)} {S : List Nat} {rows : List (Nat × List Value × TypeId)}
set_option maxRecDepth 100000 in
theorem run_bsl2 (w : World) {t elem : TypeId} (z v0 v1 : Value) (hu : P.underlying t = some (.slice elem)) (hi : (P.info? elem).map (fun i => (i.zero, i.size)) = some (some z, 1)) (hz : z.cells = #[z]) (h0 : v0.cells = #[v0]) (h1 : v1.cells = #[v1]) :
    (Instr.buildSlice t 2 #[(0, v0), (1, v1)]).run P w = .ok (.slice (some ⟨w.heap.size, 0, none⟩) 2 2) (w.alloc (.cells [v0, v1].toArray elem)) := by
  obtain ⟨hz1, hs1⟩ := zero_of_info hi
  cases hq : P.info? elem with
  | none => simp [hq] at hi
  | some q =>
    have hs : q.size = 1 := by simpa [hq] using hs1
    have e : Array.map (fun x => ([z][x % 1]?).getD default) (Array.range 2) = #[z, z] := by
      apply Array.ext
      · simp
      · intro i h1 h2
        have h3 : i = 0 ∨ i = 1 := by
          have : i < 2 := by simpa using h2
          omega
        rcases h3 with rfl | rfl <;> simp
    simp [Instr.buildSlice, run_underlying hu, sizeOf, typeInfo, hq, hs, hz1, hz, Instr.fill, h0, h1, newRow, newObj]
    rw [e]
    rfl
set_option maxRecDepth 100000 in
theorem wpl_bsl2 {t elem : TypeId} {x y : Operand} (z v0 v1 : Value) (hu : P.underlying t = some (.slice elem)) (hi : (P.info? elem).map (fun i => (i.zero, i.size)) = some (some z, 1)) (hz : z.cells = #[z]) (hx : a.eval x = v0) (hy : a.eval y = v1) (h0 : v0.cells = #[v0]) (h1 : v1.cells = #[v1]) (hm : Mem w0 S w rows)
    (h : ∀ w' g, Below w.heap.size w w' → Mem w0 S w' ((g, [v0, v1], elem) :: rows) → wpList P ops Q rest (a.put dst (.slice (some ⟨g, 0, none⟩) 2 2)) w') :
    wpList P ops Q ({ dst := dst, op := .buildSlice t 2 #[(0, x), (1, y)], type := typ, pos := pos, after := aft, guard := none } :: rest) a w := by
  refine wpList_plain rfl fun K hK => ?_
  have hh := hK _ _ (h _ _ ((Below.refl _ _).alloc (Nat.le_refl _) _) (hm.alloc [v0, v1] elem))
  unfold Oper.wp execOp
  simp only [List.map_toArray, List.map_cons, List.map_nil, hx, hy, run_bsl2 (P := P) w z v0 v1 hu hi hz h0 h1, Sem.run_bind, Sem.run_pure, Result.andThen_ok]
  exact hh
end
set_option maxRecDepth 100000 in
theorem run_bslP2 (w : World) (k v k' v' : ByteArray) : (Instr.buildSlice 24 2 #[(0, .agg #[.string k, .string v]), (1, .agg #[.string k', .string v'])]).run Try.prog w = .ok (.slice (some ⟨w.heap.size, 0, none⟩) 2 2) (w.alloc (.cells [.string k, .string v, .string k', .string v'].toArray 45)) := by
  obtain ⟨hz1, hs1⟩ := zero_of_info info_pair
  cases hq : Try.prog.info? 45 with
  | none => simp [hq] at hs1
  | some qq =>
    have hs : qq.size = 2 := by simpa [hq] using hs1
    have e : Array.map (fun x => ([Value.string ByteArray.empty, Value.string ByteArray.empty][x % 2]?).getD default) (Array.range 4) = #[.string ByteArray.empty, .string ByteArray.empty, .string ByteArray.empty, .string ByteArray.empty] := by
      apply Array.ext
      · simp
      · intro i h1 h2
        have h3 : i = 0 ∨ i = 1 ∨ i = 2 ∨ i = 3 := by
          have : i < 4 := by simpa using h2
          omega
        rcases h3 with rfl | rfl | rfl | rfl <;> simp
    simp [Instr.buildSlice, run_underlying un_pairs, sizeOf, typeInfo, hq, hs, hz1, Value.cells, Instr.fill, newRow, newObj]
    rw [e]
    rfl
set_option maxRecDepth 100000 in
theorem wpl_bslP2 {ops : Array Oper} {rest : List Oper} {a : Act} {w w0 : World} {Q : Exit → Act → World → Prop} {dst : Option Tmp} {typ : TypeId} {pos : String} {aft : Array Edge} {S : List Nat} {rows : List (Nat × List Value × TypeId)} {x y : Operand} (k v k' v' : ByteArray) (hx : a.eval x = .agg #[.string k, .string v]) (hy : a.eval y = .agg #[.string k', .string v']) (hm : Mem w0 S w rows)
    (h : ∀ w' g, Below w.heap.size w w' → Mem w0 S w' ((g, [.string k, .string v, .string k', .string v'], 45) :: rows) → wpList Try.prog ops Q rest (a.put dst (.slice (some ⟨g, 0, none⟩) 2 2)) w') :
    wpList Try.prog ops Q ({ dst := dst, op := .buildSlice 24 2 #[(0, x), (1, y)], type := typ, pos := pos, after := aft, guard := none } :: rest) a w := by
  refine wpList_plain rfl fun K hK => ?_
  have hh := hK _ _ (h _ _ ((Below.refl _ _).alloc (Nat.le_refl _) _) (hm.alloc [.string k, .string v, .string k', .string v'] 45))
  unfold Oper.wp execOp
  simp only [List.map_toArray, List.map_cons, List.map_nil, hx, hy, run_bslP2, Sem.run_bind, Sem.run_pure, Result.andThen_ok]
  exact hh
set_option maxRecDepth 100000 in
theorem run_pairK (k : ByteArray) (w : World) : (Instr.build 45 #[(0, .string k)]).run Try.prog w = .ok (.agg #[.string k, .string noStr]) w := run_build w 45 _ _ (by kernel_rfl)
set_option maxRecDepth 100000 in
theorem run_pairKV (k v : ByteArray) (w : World) : (Instr.build 45 #[(0, .string k), (1, .string v)]).run Try.prog w = .ok (.agg #[.string k, .string v]) w := run_build w 45 _ _ (by kernel_rfl)
section
variable {a : Act} {w : World} {dst : Option Tmp} {typ : TypeId} {pos : String} {aft : Array Edge} {gd : Option (Nat × Bool)}
set_option maxRecDepth 100000 in
theorem exec_pairK {x : Operand} (k : ByteArray) (hx : a.eval x = .string k) :
    (execOp a.eval { dst := dst, op := .build 45 #[(0, x)], type := typ, pos := pos, after := aft, guard := gd }).run Try.prog w = .ok (.value (.agg #[.string k, .string noStr])) w := by
  unfold execOp
  simp only [List.map_toArray, List.map_cons, List.map_nil, hx, run_pairK, Sem.run_bind, Sem.run_pure, Result.andThen_ok]
set_option maxRecDepth 100000 in
theorem exec_pairKV {x y : Operand} (k v : ByteArray) (hx : a.eval x = .string k) (hy : a.eval y = .string v) :
    (execOp a.eval { dst := dst, op := .build 45 #[(0, x), (1, y)], type := typ, pos := pos, after := aft, guard := gd }).run Try.prog w = .ok (.value (.agg #[.string k, .string v])) w := by
  unfold execOp
  simp only [List.map_toArray, List.map_cons, List.map_nil, hx, hy, run_pairKV, Sem.run_bind, Sem.run_pure, Result.andThen_ok]
end
set_option maxRecDepth 100000 in
theorem SlV.of_row {K : Nat} {w : World} {g n : Nat} {cs : List Value} {e : TypeId} (hr : Row w g cs e) (hl : cs.length = n * K) : SlV K w (.slice (some ⟨g, 0, none⟩) n n) n cs :=
  ⟨_, n, rfl, Nat.le_refl _, hl, fun _ => ⟨g, 0, rfl, fun j u hu => by rw [Nat.zero_add, hr.cell j]; exact hu⟩⟩
structure Two (W : World) (b1 b3 : Value) (x y : List Int) : Prop where
  one : SlOld W b1 x
  two : SlOld W b3 y
set_option maxRecDepth 100000 in
theorem Two.below {W W' : World} {b1 b3 : Value} {x y : List Int} (h : Two W b1 b3 x y) (hb : Below W.heap.size W W') : Two W' b1 b3 x y := ⟨h.one.below hb, h.two.below hb⟩
def strM : ByteArray := { data := #[109] }
def strA : ByteArray := { data := #[97] }
def strBb : ByteArray := { data := #[98] }
set_option maxRecDepth 100000 in
theorem less_ba : less strBb strA = false := by
  unfold less
  rw [ByteArray.toList_eq, ByteArray.toList_eq]
  rfl
set_option maxRecDepth 100000 in
theorem known_br : branchCode [strM] ([1, 2] : List Int).length = 0 := by decide
set_option maxRecDepth 100000 in
theorem known_no : branchCode [] ([1] : List Int).length = 90 := by decide
set_option maxRecDepth 100000 in
theorem known_lf : leafCode [] = 0 := by decide
set_option maxRecDepth 100000 in
theorem known_ba : leafCode [(strBb, noStr), (strA, noStr)] = 90 := by
  rw [leafCode, if_pos]
  show okPairs _ 2 = false
  rw [okPairs, okPair, okKey]
  show (_ && (_ && (_ && (_ || less strBb strA)))) = false
  rw [less_ba]
  simp
set_option maxHeartbeats 4000000 in
set_option maxRecDepth 100000 in
theorem known_any (w : World) :
    Calls Try.prog 4 #[] w fun e w' => e = .returned (.bool true) ∧ Below w.heap.size w w' := by
  have hm := Mem.start w
  have HSP : Hid (∀ p ∈ ([] : List (ByteArray × ByteArray)), p.1.size ≤ 1152921504606846976 ∧ p.2.size ≤ 1152921504606846976) := fun p hp => by cases hp
  have HSB : Hid (∀ p ∈ [(strBb, noStr), (strA, noStr)], p.1.size ≤ 1152921504606846976 ∧ p.2.size ≤ 1152921504606846976) := by
    intro p hp
    simp only [List.mem_cons, List.not_mem_nil, or_false] at hp
    rcases hp with rfl | rfl <;> exact ⟨by decide, by decide⟩
  have HK1 : Hid (∀ x ∈ ([1, 2] : List Int), 0 ≤ x ∧ x < 4294967296) := by
    intro x hx
    simp only [List.mem_cons, List.not_mem_nil, or_false] at hx
    rcases hx with rfl | rfl <;> omega
  have HK2 : Hid (∀ x ∈ ([1] : List Int), 0 ≤ x ∧ x < 4294967296) := by
    intro x hx
    simp only [List.mem_cons, List.not_mem_nil, or_false] at hx
    subst hx; omega
  obtain ⟨rb1, rb2, rb3⟩ := rb_back known_br HK1.out
  have HRB1 : Hid (∀ _ : Unit, (if rbOk (branchB [strM] [1, 2]) = true then (0 : Int) else 90) = 0) := fun _ => by rw [rb1]; rfl
  have HRB2 : Hid (∀ _ : Unit, rbOutK (branchB [strM] [1, 2]) = [strM]) := fun _ => rb2
  have HRB3 : Hid (∀ _ : Unit, rbOutI (branchB [strM] [1, 2]) = [1, 2]) := fun _ => rb3
  have HKI : Hid (∀ _ : Unit, kindOf (branchB [strM] [1, 2]) = 2) := fun _ => by rw [branchB_eq]; rfl
  have HBB : Hid (Bytes (branchB [strM] [1, 2])) := branchB_bytes _ _
  have tk1 : Nat := 0
  have tk2 : Nat := 0
  clear rb1 rb2 rb3
  go_enter Try.func4, Try.ntmps4
  go_wp2_with (first
    | (go_at_call 12; clear tk1; refine (leaf_any [] _ (by simp) HSP.out _ (SlP.nil _)).mono ?_; rintro e w1 ⟨b1, he, hs, hb⟩; rw [known_lf] at he; subst he; have HS1 : Hid (SlOld w1 b1 [1, 0, 0]) := hs; replace hm := hm.call hb; clear hb hs)
    | ((with_reducible refine at_op (some 17) (.buildSlice 30 1 #[(0, .const (.string { data := #[109] }))]) ?_); go_must (refine wpl_bsl1 rfl (.string ByteArray.empty) (.string strM) un_strs info_str rfl rfl rfl hm ?_); clear hm; intro w2 g17 hb2 hm; have HS1b : Hid (SlOld w2 b1 [1, 0, 0]) := SlOld.below HS1.out hb2; clear hb2)
    | ((with_reducible refine at_op (some 18) (.buildSlice 31 2 #[(0, .const (.int .u32 1)), (1, .const (.int .u32 2))]) ?_); go_must (refine wpl_bsl2 (.int .u32 0) (.int .u32 1) (.int .u32 2) un_u32s info_u32 rfl rfl rfl rfl rfl hm ?_); clear hm; intro w3 g18 hb3 hm; have HS1c : Hid (SlOld w3 b1 [1, 0, 0]) := SlOld.below HS1b.out hb3; clear hb3)
    | (go_at_call 13; clear tk2; refine (branch_any [strM] [1, 2] _ _ (by simp) HK1.out _ (SlV.of_row (hm.get 1 rfl) rfl) (SlV.of_row (hm.get 0 rfl) rfl)).mono ?_; rintro e w4 ⟨b3, he, hs, hb⟩; rw [known_br] at he; subst he; rw [branchOut, if_pos known_br] at hs; have HS3 : Hid (Two w4 b1 b3 [1, 0, 0] (branchB [strM] [1, 2])) := ⟨SlOld.below HS1c.out hb, hs⟩; replace hm := hm.call hb; clear hb hs)
    | ((with_reducible refine at_op (some 23) (.buildSlice 31 1 #[(0, .const (.int .u32 1))]) ?_); go_must (refine wpl_bsl1 rfl (.int .u32 0) (.int .u32 1) un_u32s info_u32 rfl rfl rfl hm ?_); clear hm; intro w5 g23 hb5 hm; have HS3b : Hid (Two w5 b1 b3 [1, 0, 0] (branchB [strM] [1, 2])) := Two.below HS3.out hb5; clear hb5)
    | (go_at_call 13; refine (branch_any [] [1] _ _ (by simp) HK2.out _ (SlS.nil _) (SlV.of_row (hm.get 0 rfl) rfl)).mono ?_; rintro e w6 ⟨b5, he, hs, hb⟩; rw [known_no] at he; subst he; have HS3c : Hid (Two w6 b1 b3 [1, 0, 0] (branchB [strM] [1, 2])) := Two.below HS3b.out hb; replace hm := hm.call hb; clear hb hs)
    | ((with_reducible refine at_op (some 28) (.build 45 #[(0, .const (.string { data := #[98] }))]) ?_); go_must (refine wpl_execG (.agg #[.string strBb, .string noStr]) rfl (exec_pairK strBb rfl) ?_))
    | ((with_reducible refine at_op (some 29) (.build 45 #[(0, .const (.string { data := #[97] }))]) ?_); go_must (refine wpl_execG (.agg #[.string strA, .string noStr]) rfl (exec_pairK strA rfl) ?_))
    | ((with_reducible refine at_op (some 30) (.buildSlice 24 2 #[(0, .tmp 28), (1, .tmp 29)]) ?_); go_must (refine wpl_bslP2 strBb noStr strA noStr rfl rfl hm ?_); clear hm; intro w7 g30 hb7 hm; have HS3d : Hid (Two w7 b1 b3 [1, 0, 0] (branchB [strM] [1, 2])) := Two.below HS3c.out hb7; clear hb7)
    | (go_at_call 12; refine (leaf_any [(strBb, noStr), (strA, noStr)] _ (by simp) HSB.out _ (SlV.of_row (hm.get 0 rfl) rfl)).mono ?_; rintro e w8 ⟨b7, he, hs, hb⟩; rw [known_ba] at he; subst he; have HS3e : Hid (Two w8 b1 b3 [1, 0, 0] (branchB [strM] [1, 2])) := Two.below HS3d.out hb; replace hm := hm.call hb; clear hb hs)
    | (go_at_call 7; refine (readBranch_any (branchB [strM] [1, 2]) _ HBB.out _ HS3e.out.two).mono ?_; rintro e w9 ⟨v9, u9, he, hk, hl, hb⟩; rw [HRB1.out ()] at he; rw [HRB2.out ()] at hk; rw [HRB3.out ()] at hl; have HS4 : Hid (Two w9 b1 b3 [1, 0, 0] (branchB [strM] [1, 2])) := Two.below HS3e.out hb; replace hm := hm.call hb; obtain ⟨p9, c9, hv9, _⟩ : ∃ p c, v9 = .slice p 1 c ∧ 1 ≤ c := SlV.len hk; obtain ⟨q9, d9, hu9, _⟩ : ∃ p c, u9 = .slice p 2 c ∧ 2 ≤ c := SlV.len hl; subst hv9; subst hu9; subst he; obtain ⟨b9, o9, hq9⟩ := SlU.at hl rfl (by decide); subst hq9; have c1 : w9.cell? ⟨b9, o9 + 1, none⟩ = some (.int .u32 2) := SlU.cells (l := [1, 2]) rfl hl 1 (by decide); obtain ⟨pb, cb, hb1, _⟩ : ∃ p c, b1 = .slice p 3 c ∧ 3 ≤ c := SlOld.len HS4.out.one; subst hb1; clear hb hk hl HS1 HS1b HS1c HS3 HS3b HS3c HS3d HS3e)
    | ((with_reducible refine at_opG (some 44) (.convert 22 9 (.tmp 43)) (some (2, true)) ?_); go_must (refine wpl_execG (.string (strOf [1, 0, 0])) rfl (exec_tostr un_bs un_u8 un_strT [1, 0, 0] rfl HS4.out.one) ?_))
    | ((with_reducible refine at_opG (some 45) (.binOp .eql 9 (.tmp 44) (.const (.string { data := #[1, 0, 0] })) 9) (some (2, true)) ?_); go_must (refine wpl_execG (.bool true) rfl (exec_eqsB (strOf [1, 0, 0]) _ true rfl rfl (beq_self_str _)) ?_))
    | (go_at_call 11; refine (kind_any (branchB [strM] [1, 2]) _ _ HS4.out.two).mono ?_; rintro e wk ⟨he, hw⟩; rw [HKI.out ()] at he; subst he; replace hw := hw.symm; subst hw)
    | (go_at_call 14; refine (size_any [] 0 _ rfl (by omega) HSP.out _ (SlP.nil _)).mono ?_; rintro e ws ⟨he, hb⟩; rw [show ((min (szP []) 100000 : Nat) : Int) = 3 from rfl] at he; subst he; replace hm := hm.call hb; clear hb))
  go_ret
  exact ⟨rfl, hm.below⟩
end Go.Proofs.Ytnahflppggoplaa
