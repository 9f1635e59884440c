/- The library's functions on strings and numerals, as package term calls them; texts. -/
import Derived.Test.YtbiinchmbclmcaaDoorTmFormed
import Derived.Test.YtbiinchmbclmcaaDoorTmLays
namespace Go.Proofs.YtbiinchmbclmcaaDoor
open Go Go.RowKit
set_option maxRecDepth 100000 in
theorem bex : Builder.Extra Tryd.prog joinA_ren := { sizeBuilder := by kernel_rfl, liesBuilder := by kernel_rfl, t5 := Tryd.underlying5, a5 := Tryd.isAgg5, z5 := Tryd.sizeOf5, v5 := Tryd.zeroValue5, infoByte := by kernel_rfl, cellsByte := by kernel_rfl, sizeByte := by kernel_rfl, neB5 := by decide }
set_option maxRecDepth 100000 in
theorem eqs_no {a b : ByteArray} (h : a ≠ b) : (a == b) = false := by
  cases hc : (a == b) with
  | false => rfl
  | true =>
    refine absurd ?_ h
    rw [beq_toListBytes, beq_iff_eq, ByteArray.toList_eq, ByteArray.toList_eq] at hc
    exact bs_inj hc
set_option maxRecDepth 100000 in
theorem eqs_yes (a : ByteArray) : (a == a) = true := beq_self_str a
set_option maxRecDepth 100000 in
theorem eqs_is (a b : ByteArray) : (a == b) = decide (a = b) := by
  by_cases h : a = b
  · subst h; rw [eqs_yes]; simp
  · rw [eqs_no h]; simp [h]
section
variable {P : Program} {a : Act} {w : World} {dst : Option Tmp} {typ : TypeId} {pos : String} {aft : Array Edge} {gd : Option (Nat × Bool)}
set_option maxRecDepth 100000 in
theorem mkS_append (x y : List UInt8) : mkS x ++ mkS y = mkS (x ++ y) := by
  apply ByteArray.ext
  simp [mkS]
set_option maxRecDepth 100000 in
theorem exec_addB {t : TypeId} {x y : Operand} {rt : TypeId} (s s' r : ByteArray) (hr : r = s ++ s') (hx : a.eval x = .string s) (hy : a.eval y = .string s') (hl : s.size + s'.size ≤ 1000000000) :
    (execOp a.eval { dst := dst, op := .binOp .add t x y rt, type := typ, pos := pos, after := aft, guard := gd }).run P w = .ok (.value (.string r)) w := by
  subst hr
  unfold execOp
  simp only [hx, hy]
  simp [eqGuard, binOp, Op.stringOp]
  omega
set_option maxRecDepth 100000 in
theorem exec_neB {t : TypeId} {x y : Operand} {rt : TypeId} (s s' : ByteArray) (v : Bool) (hx : a.eval x = .string s) (hy : a.eval y = .string s') (hv : (s == s') = v) :
    (execOp a.eval { dst := dst, op := .binOp .neq t x y rt, type := typ, pos := pos, after := aft, guard := gd }).run P w = .ok (.value (.bool (!v))) w := by
  subst hv
  unfold execOp
  simp only [hx, hy]
  simp [eqGuard, binOp, Op.stringOp, beq_toListBytes]
end
set_option maxRecDepth 100000 in
theorem jnB_join (l : List (List UInt8)) : Lib.join l [44] = jnB l := by
  induction l with
  | nil => rfl
  | cons x l ih =>
    cases l with
    | nil => exact Lib.join_one x [44]
    | cons y r =>
      rw [Lib.join_cons, jnB, ← ih, Lib.join_cons]
      simp [Lib.joinTail]
def SlS (w : World) (v : Value) (l : List ByteArray) : Prop := SlV 1 w v l.length (strs l)
set_option maxRecDepth 100000 in
theorem join_any (xs : List ByteArray) (v : Value) (w : World) (hv : SlS w v xs) (hl : xs.length ≤ 100) (hs : (jnB (xs.map bs)).length ≤ 100000) :
    Calls Tryd.prog 32 #[v, .string ⟨#[44]⟩] w fun e w' => e = .returned (.string (mkS (jnB (xs.map bs)))) ∧ Below w.heap.size w w' := by
  obtain ⟨p, cap, rfl, hcap, _, hseg⟩ := hv
  by_cases h0 : xs = []
  · subst h0
    refine (Any.strings_Join_none joinA bex p cap ⟨#[44]⟩ w).mono ?_
    rintro e w' ⟨rfl, rfl⟩
    exact ⟨rfl, Below.refl _ _⟩
  · obtain ⟨b, off, rfl, hc⟩ := hseg (List.length_pos_iff.2 h0)
    have hcells : ∀ (j : Nat) x, xs[j]? = some x → w.cell? ⟨b, off + j, none⟩ = some (.string x) := fun j x hx => hc j _ (by simp [strs, hx])
    have hb : b < w.heap.size := by
      have := hcells 0 (xs[0]'(List.length_pos_iff.2 h0)) (by simp)
      exact block_lt_of_cell this
    have hlen : (Lib.join (xs.map (·.data.toList)) [44]).length ≤ 140737488355328 := by
      rw [jnB_join]
      exact Nat.le_trans hs (by omega)
    refine (Any.strings_Join joinA bex b off cap xs ⟨#[44]⟩ w hcells hb (by omega) hcap hlen).mono ?_
    rintro e w' ⟨rfl, h⟩
    refine ⟨?_, h⟩
    show Ending.returned (.string (mkS (Lib.join (xs.map (·.data.toList)) [44]))) = _
    rw [jnB_join]
    rfl
set_option maxRecDepth 100000 in
theorem dig_lib {n : Nat} (h : n < 100) : Lib.decDigits n = dig (n : Int) := by
  rw [Lib.decDigits, dig]
  by_cases h1 : n < 10
  · rw [dif_pos h1, if_pos (by omega)]; rfl
  · rw [dif_neg h1, if_neg (by omega), Lib.decDigits, dif_pos (by omega)]; rfl
set_option maxRecDepth 100000 in
theorem itoa_any (n : Int) (h0 : 0 ≤ n) (h1 : n ≤ 99) (w : World) :
    Calls Tryd.prog 31 #[.int .i64 n] w fun e w' => e = .returned (.string (mkS (dig n))) ∧ w' = w := by
  obtain ⟨m, rfl⟩ : ∃ m : Nat, n = (m : Int) := ⟨n.toNat, by omega⟩
  rw [← dig_lib (by omega)]
  exact Any.strconv_Itoa_small itoaA m (by omega) w
set_option maxRecDepth 100000 in
theorem cutp_any (s p : ByteArray) (w : World) :
    Calls Tryd.prog 40 #[.string s, .string p] w fun e w' => e = .returned (.tuple #[.string (mkS (Lib.trimPrefix (bs s) (bs p))), .bool (Lib.hasPrefix (bs s) (bs p))]) ∧ w' = w :=
  Any.strings_CutPrefix cutpA s p w
set_option maxRecDepth 100000 in
theorem trim_any (s : ByteArray) (w : World) :
    Calls Tryd.prog 34 #[.string s, .string ⟨#[48, 49, 50, 51, 52, 53, 54, 55, 56, 57]⟩] w fun e w' => e = .returned (.string (mkS ((bs s).drop (ldg (bs s)).length))) ∧ Below w.heap.size w w' := by
  refine (Any.strings_TrimLeft_laid trimA (by kernel_rfl) s ⟨#[48, 49, 50, 51, 52, 53, 54, 55, 56, 57]⟩ w (by decide) (Go.Proofs.ascii_of_all (by decide))).mono ?_
  rintro e w' ⟨rfl, h⟩
  refine ⟨?_, h⟩
  show Ending.returned (.string (mkS (Lib.trimLeftS (bs s) [48, 49, 50, 51, 52, 53, 54, 55, 56, 57]))) = _
  congr 3
  generalize bs s = l
  unfold Lib.trimLeftS ldg
  induction l with
  | nil => rfl
  | cons x l ih =>
    have hx : [48, 49, 50, 51, 52, 53, 54, 55, 56, 57].contains x = isDig x := by
      have key : ∀ i : Fin 256, ([48, 49, 50, 51, 52, 53, 54, 55, 56, 57] : List UInt8).contains (UInt8.ofNat i.val) = isDig (UInt8.ofNat i.val) := by decide +kernel
      have := key ⟨x.toNat, x.toNat_lt⟩
      rwa [show UInt8.ofNat (⟨x.toNat, x.toNat_lt⟩ : Fin 256).val = x from UInt8.ofNat_toNat ..] at this
    rw [List.dropWhile_cons, List.takeWhile_cons, hx]
    cases isDig x with
    | true => simpa using ih
    | false => rfl
end Go.Proofs.YtbiinchmbclmcaaDoor
