/- The walk of the law PathCodes. -/
import Derived.Laws.Strings3
import Derived.Test.YtikmmheknfljkaaDoorPaKnown
namespace Go.Proofs.YtikmmheknfljkaaDoor
open Go Go.RowKit
def leB (a b : List UInt8) : Bool := Op.bytesLess a b || a == b
set_option maxRecDepth 100000 in
theorem less_pre (x t : List UInt8) : Op.bytesLess (x ++ t) x = false := by
  induction x with
  | nil => cases t <;> rfl
  | cons c x ih =>
    rw [List.cons_append, Op.bytesLess, ih]
    simp [UInt8.lt_irrefl]
set_option maxRecDepth 100000 in
theorem mid_pre : ∀ (x t z : List UInt8), leB x z = true → leB z (x ++ t) = true → x <+: z
  | [], t, z, _, _ => List.nil_prefix
  | c :: x, t, [], h, _ => by simp [leB, Op.bytesLess] at h
  | c :: x, t, d :: z, h1, h2 => by
    simp only [leB, Op.bytesLess, List.cons_append, Bool.or_eq_true, Bool.and_eq_true, decide_eq_true_eq, beq_iff_eq, List.cons.injEq] at h1 h2
    have hcd : c = d := by
      rcases h1 with (h1 | h1) | h1
      · rcases h2 with (h2 | h2) | h2
        · exact absurd (UInt8.lt_trans h1 h2) (UInt8.lt_irrefl _)
        · rw [h2.1] at h1; exact absurd h1 (UInt8.lt_irrefl _)
        · rw [h2.1] at h1; exact absurd h1 (UInt8.lt_irrefl _)
      · exact h1.1
      · exact h1.1
    subst hcd
    refine List.cons_prefix_cons.2 ⟨rfl, mid_pre x t z ?_ ?_⟩
    · simp only [leB, Bool.or_eq_true, beq_iff_eq]
      rcases h1 with (h1 | h1) | h1
      · exact absurd h1 (UInt8.lt_irrefl _)
      · exact Or.inl h1.2
      · exact Or.inr h1.2
    · simp only [leB, Bool.or_eq_true, beq_iff_eq]
      rcases h2 with (h2 | h2) | h2
      · exact absurd h2 (UInt8.lt_irrefl _)
      · exact Or.inl h2.2
      · exact Or.inr h2.2
set_option maxRecDepth 100000 in
theorem und_code {a b : List UInt8} (ha : isP a = true) (hb : isP b = true) : undOf b a = true ↔ codeOf (segsOf a) <+: codeOf (segsOf b) := by
  rw [codeOf_prefix (code_free a) (code_free b), undOf, ha, hb, Bool.true_and, Bool.true_and, List.isPrefixOf_iff_prefix]
section
variable {a : Act} {w : World} {dst : Option Tmp} {typ : TypeId} {pos : String} {aft : Array Edge} {gd : Option (Nat × Bool)}
set_option maxRecDepth 100000 in
theorem toL (x : ByteArray) : x.toList = bs x := ByteArray.toList_eq x
set_option maxRecDepth 100000 in
theorem exec_lsS {x y : Operand} {rt : TypeId} (s s' : ByteArray) (v : Bool) (hv : Op.bytesLess (bs s) (bs s') = v) (hx : a.eval x = .string s) (hy : a.eval y = .string s') :
    (execOp a.eval { dst := dst, op := .binOp .lss 9 x y rt, type := typ, pos := pos, after := aft, guard := gd }).run Tryd.prog w = .ok (.value (.bool v)) w := by
  subst hv
  unfold execOp
  simp only [hx, hy]
  simp [eqGuard, binOp, Op.stringOp, toL]
set_option maxRecDepth 100000 in
theorem exec_leS {x y : Operand} {rt : TypeId} (s s' : ByteArray) (v : Bool) (hv : leB (bs s) (bs s') = v) (hx : a.eval x = .string s) (hy : a.eval y = .string s') :
    (execOp a.eval { dst := dst, op := .binOp .leq 9 x y rt, type := typ, pos := pos, after := aft, guard := gd }).run Tryd.prog w = .ok (.value (.bool v)) w := by
  subst hv
  unfold execOp
  simp only [hx, hy]
  simp [eqGuard, binOp, Op.stringOp, toL, leB]
set_option maxRecDepth 100000 in
theorem exec_neB {x y : Operand} {rt : TypeId} (s s' : ByteArray) (v : Bool) (hv : (s == s') = v) (hx : a.eval x = .string s) (hy : a.eval y = .string s') :
    (execOp a.eval { dst := dst, op := .binOp .neq 9 x y rt, type := typ, pos := pos, after := aft, guard := gd }).run Tryd.prog w = .ok (.value (.bool (!v))) w := by
  subst hv
  unfold execOp
  simp only [hx, hy]
  simp [eqGuard, binOp, Op.stringOp, beq_toListBytes]
set_option maxRecDepth 100000 in
theorem exec_shiS {x h : Operand} (s r : ByteArray) (n : Nat) (hn : n ≤ s.size) (hr : bs r = (bs s).take n) (hx : a.eval x = .string s) (hh : a.eval h = .int .i64 (n : Int)) :
    (execOp a.eval { dst := dst, op := .slice 9 x none (some h) none, type := typ, pos := pos, after := aft, guard := gd }).run Tryd.prog w = .ok (.value (.string r)) w := by
  have e : s.extract 0 n = r := bs_inj (by rw [hr]; exact Lib.extract_from_zero s n)
  unfold execOp
  have hc : (0 : Int) ≤ (n : Int) ∧ (n : Int) ≤ (s.size : Int) := by omega
  simp only [hx, Option.map_none, Option.map_some, hh, Sem.run_bind, run_sliceAt_string _ _ _ _ _ _ un_strT, run_slice_string_to_if _ _ _ _ _ un_strT, if_pos hc, Int.toNat_natCast, e, Result.andThen_ok, Sem.run_pure]
end
set_option maxHeartbeats 2000000 in
set_option maxRecDepth 100000 in
theorem pcodes_a (a b c : ByteArray) (w : World) (ha : 60 < a.size) (hM : MaxL w) :
    Calls Tryd.prog 4 #[.string a, .string b, .string c] w fun e w' => e = .returned (.bool true) ∧ Below w.heap.size w w' := by
  have hm := Mem.start w
  have HM : Hid (MaxL w) := hM
  have hai : (60 : Int) < (a.size : Int) := by omega
  clear hM
  go_enter Tryd.func4, Tryd.ntmps4
  go_wp2_with (first
    | (go_at_call 8; refine (known_any _ (HM.out.below hm.below)).mono ?_; rintro e w3 ⟨he, hb⟩; subst he; replace hm := hm.call hb; clear hb))
  go_ret
  exact ⟨rfl, hm.below⟩
set_option maxHeartbeats 2000000 in
set_option maxRecDepth 100000 in
theorem pcodes_b (a b c : ByteArray) (w : World) (ha : a.size ≤ 60) (hb : 60 < b.size) (hM : MaxL w) :
    Calls Tryd.prog 4 #[.string a, .string b, .string c] w fun e w' => e = .returned (.bool true) ∧ Below w.heap.size w w' := by
  have hm := Mem.start w
  have HM : Hid (MaxL w) := hM
  have hai : ¬ (60 : Int) < (a.size : Int) := by omega
  have hbi : (60 : Int) < (b.size : Int) := by omega
  clear hM
  go_enter Tryd.func4, Tryd.ntmps4
  go_wp2_with (first
    | (go_at_call 8; refine (known_any _ (HM.out.below hm.below)).mono ?_; rintro e w3 ⟨he, hb⟩; subst he; replace hm := hm.call hb; clear hb))
  go_ret
  exact ⟨rfl, hm.below⟩
set_option maxHeartbeats 2000000 in
set_option maxRecDepth 100000 in
theorem pcodes_c (a b c : ByteArray) (w : World) (ha : a.size ≤ 60) (hb : b.size ≤ 60) (hc : 60 < c.size) (hM : MaxL w) :
    Calls Tryd.prog 4 #[.string a, .string b, .string c] w fun e w' => e = .returned (.bool true) ∧ Below w.heap.size w w' := by
  have hm := Mem.start w
  have HM : Hid (MaxL w) := hM
  have hai : ¬ (60 : Int) < (a.size : Int) := by omega
  have hbi : ¬ (60 : Int) < (b.size : Int) := by omega
  have hci : (60 : Int) < (c.size : Int) := by omega
  clear hM
  go_enter Tryd.func4, Tryd.ntmps4
  go_wp2_with (first
    | (go_at_call 8; refine (known_any _ (HM.out.below hm.below)).mono ?_; rintro e w3 ⟨he, hb⟩; subst he; replace hm := hm.call hb; clear hb))
  go_ret
  exact ⟨rfl, hm.below⟩
set_option maxHeartbeats 2000000 in
set_option maxRecDepth 100000 in
theorem pcodes_ia (a b c : ByteArray) (w : World) (ha : a.size ≤ 60) (hb : b.size ≤ 60) (hc : c.size ≤ 60) (ia : isP (bs a) = false) (hM : MaxL w) :
    Calls Tryd.prog 4 #[.string a, .string b, .string c] w fun e w' => e = .returned (.bool true) ∧ Below w.heap.size w w' := by
  have hm := Mem.start w
  have HM : Hid (MaxL w) := hM
  have hai : ¬ (60 : Int) < (a.size : Int) := by omega
  have hbi : ¬ (60 : Int) < (b.size : Int) := by omega
  have hci : ¬ (60 : Int) < (c.size : Int) := by omega
  have HIa : Hid (∀ W, MaxL W → Calls Tryd.prog 15 #[.string a] W fun e w' => e = .returned (.bool false) ∧ Below W.heap.size W w') := fun W hW => by
    have h := is_any a W (by omega) hW
    rw [show isP (bs a) = false by exact ia] at h
    exact h
  have tkIa : Nat := 0
  clear hM
  go_enter Tryd.func4, Tryd.ntmps4
  go_wp2_with (first
    | (go_at_call 8; refine (known_any _ (HM.out.below hm.below)).mono ?_; rintro e w3 ⟨he, hb⟩; subst he; replace hm := hm.call hb; clear hb)
    | (go_at_call 15; clear tkIa; refine (HIa.out _ (HM.out.below hm.below)).mono ?_; rintro e w' ⟨he, hb⟩; subst he; replace hm := hm.call hb; clear hb))
  go_ret
  exact ⟨rfl, hm.below⟩
set_option maxHeartbeats 2000000 in
set_option maxRecDepth 100000 in
theorem pcodes_ib (a b c : ByteArray) (w : World) (ha : a.size ≤ 60) (hb : b.size ≤ 60) (hc : c.size ≤ 60) (ia : isP (bs a) = true) (ib : isP (bs b) = false) (hM : MaxL w) :
    Calls Tryd.prog 4 #[.string a, .string b, .string c] w fun e w' => e = .returned (.bool true) ∧ Below w.heap.size w w' := by
  have hm := Mem.start w
  have HM : Hid (MaxL w) := hM
  have hai : ¬ (60 : Int) < (a.size : Int) := by omega
  have hbi : ¬ (60 : Int) < (b.size : Int) := by omega
  have hci : ¬ (60 : Int) < (c.size : Int) := by omega
  have HIa : Hid (∀ W, MaxL W → Calls Tryd.prog 15 #[.string a] W fun e w' => e = .returned (.bool true) ∧ Below W.heap.size W w') := fun W hW => by
    have h := is_any a W (by omega) hW
    rw [show isP (bs a) = true by exact ia] at h
    exact h
  have tkIa : Nat := 0
  have HIb : Hid (∀ W, MaxL W → Calls Tryd.prog 15 #[.string b] W fun e w' => e = .returned (.bool false) ∧ Below W.heap.size W w') := fun W hW => by
    have h := is_any b W (by omega) hW
    rw [show isP (bs b) = false by exact ib] at h
    exact h
  have tkIb : Nat := 0
  clear hM
  go_enter Tryd.func4, Tryd.ntmps4
  go_wp2_with (first
    | (go_at_call 8; refine (known_any _ (HM.out.below hm.below)).mono ?_; rintro e w3 ⟨he, hb⟩; subst he; replace hm := hm.call hb; clear hb)
    | (go_at_call 15; clear tkIa; refine (HIa.out _ (HM.out.below hm.below)).mono ?_; rintro e w' ⟨he, hb⟩; subst he; replace hm := hm.call hb; clear hb)
    | (go_at_call 15; clear tkIb; refine (HIb.out _ (HM.out.below hm.below)).mono ?_; rintro e w' ⟨he, hb⟩; subst he; replace hm := hm.call hb; clear hb))
  go_ret
  exact ⟨rfl, hm.below⟩
set_option maxHeartbeats 2000000 in
set_option maxRecDepth 100000 in
theorem pcodes_ic (a b c : ByteArray) (w : World) (ha : a.size ≤ 60) (hb : b.size ≤ 60) (hc : c.size ≤ 60) (ia : isP (bs a) = true) (ib : isP (bs b) = true) (ic : isP (bs c) = false) (hM : MaxL w) :
    Calls Tryd.prog 4 #[.string a, .string b, .string c] w fun e w' => e = .returned (.bool true) ∧ Below w.heap.size w w' := by
  have hm := Mem.start w
  have HM : Hid (MaxL w) := hM
  have hai : ¬ (60 : Int) < (a.size : Int) := by omega
  have hbi : ¬ (60 : Int) < (b.size : Int) := by omega
  have hci : ¬ (60 : Int) < (c.size : Int) := by omega
  have HIa : Hid (∀ W, MaxL W → Calls Tryd.prog 15 #[.string a] W fun e w' => e = .returned (.bool true) ∧ Below W.heap.size W w') := fun W hW => by
    have h := is_any a W (by omega) hW
    rw [show isP (bs a) = true by exact ia] at h
    exact h
  have tkIa : Nat := 0
  have HIb : Hid (∀ W, MaxL W → Calls Tryd.prog 15 #[.string b] W fun e w' => e = .returned (.bool true) ∧ Below W.heap.size W w') := fun W hW => by
    have h := is_any b W (by omega) hW
    rw [show isP (bs b) = true by exact ib] at h
    exact h
  have tkIb : Nat := 0
  have HIc : Hid (∀ W, MaxL W → Calls Tryd.prog 15 #[.string c] W fun e w' => e = .returned (.bool false) ∧ Below W.heap.size W w') := fun W hW => by
    have h := is_any c W (by omega) hW
    rw [show isP (bs c) = false by exact ic] at h
    exact h
  have tkIc : Nat := 0
  clear hM
  go_enter Tryd.func4, Tryd.ntmps4
  go_wp2_with (first
    | (go_at_call 8; refine (known_any _ (HM.out.below hm.below)).mono ?_; rintro e w3 ⟨he, hb⟩; subst he; replace hm := hm.call hb; clear hb)
    | (go_at_call 15; clear tkIa; refine (HIa.out _ (HM.out.below hm.below)).mono ?_; rintro e w' ⟨he, hb⟩; subst he; replace hm := hm.call hb; clear hb)
    | (go_at_call 15; clear tkIb; refine (HIb.out _ (HM.out.below hm.below)).mono ?_; rintro e w' ⟨he, hb⟩; subst he; replace hm := hm.call hb; clear hb)
    | (go_at_call 15; clear tkIc; refine (HIc.out _ (HM.out.below hm.below)).mono ?_; rintro e w' ⟨he, hb⟩; subst he; replace hm := hm.call hb; clear hb))
  go_ret
  exact ⟨rfl, hm.below⟩
set_option maxRecDepth 100000 in
theorem code_small (l : List UInt8) : (codeOf (segsOf l)).length ≤ 40 := by
  have hok := okSegs_parts (segsOf_ok l)
  have := codeOf_len (ks := segsOf l) (fun k hk => (seg_parts (hok.2 k hk)).2.1)
  omega
set_option maxHeartbeats 2000000 in
set_option maxRecDepth 100000 in
theorem pcodes_short (a b c : ByteArray) (w : World) (ha : a.size ≤ 60) (hb : b.size ≤ 60) (hc : c.size ≤ 60) (ia : isP (bs a) = true) (ib : isP (bs b) = true) (ic : isP (bs c) = true) (hu : undOf (bs b) (bs a) = false) (hl : (codeOf (segsOf (bs b))).length < (codeOf (segsOf (bs a))).length) (hM : MaxL w) :
    Calls Tryd.prog 4 #[.string a, .string b, .string c] w fun e w' => e = .returned (.bool true) ∧ Below w.heap.size w w' := by
  have hm := Mem.start w
  have HM : Hid (MaxL w) := hM
  have hai : ¬ (60 : Int) < (a.size : Int) := by omega
  have hbi : ¬ (60 : Int) < (b.size : Int) := by omega
  have hci : ¬ (60 : Int) < (c.size : Int) := by omega
  have HIa : Hid (∀ W, MaxL W → Calls Tryd.prog 15 #[.string a] W fun e w' => e = .returned (.bool true) ∧ Below W.heap.size W w') := fun W hW => by
    have h := is_any a W (by omega) hW
    rw [show isP (bs a) = true by exact ia] at h
    exact h
  have tkIa : Nat := 0
  have HIb : Hid (∀ W, MaxL W → Calls Tryd.prog 15 #[.string b] W fun e w' => e = .returned (.bool true) ∧ Below W.heap.size W w') := fun W hW => by
    have h := is_any b W (by omega) hW
    rw [show isP (bs b) = true by exact ib] at h
    exact h
  have tkIb : Nat := 0
  have HIc : Hid (∀ W, MaxL W → Calls Tryd.prog 15 #[.string c] W fun e w' => e = .returned (.bool true) ∧ Below W.heap.size W w') := fun W hW => by
    have h := is_any c W (by omega) hW
    rw [show isP (bs c) = true by exact ic] at h
    exact h
  have tkIc : Nat := 0
  obtain ⟨x, hx⟩ : ∃ s, s = mkS (codeOf (segsOf (bs a))) := ⟨_, rfl⟩
  have hbx : bs x = codeOf (segsOf (bs a)) := by rw [hx, bs_mkS]
  have hzx : x.size ≤ 1000 := by rw [hx, mkS_size]; have := code_small (bs a); omega
  obtain ⟨y, hy⟩ : ∃ s, s = mkS (codeOf (segsOf (bs b))) := ⟨_, rfl⟩
  have hby : bs y = codeOf (segsOf (bs b)) := by rw [hy, bs_mkS]
  have hzy : y.size ≤ 1000 := by rw [hy, mkS_size]; have := code_small (bs b); omega
  obtain ⟨z, hz⟩ : ∃ s, s = mkS (codeOf (segsOf (bs c))) := ⟨_, rfl⟩
  have hbz : bs z = codeOf (segsOf (bs c)) := by rw [hz, bs_mkS]
  have hzz : z.size ≤ 1000 := by rw [hz, mkS_size]; have := code_small (bs c); omega
  have HCa : Hid (∀ W, MaxL W → Calls Tryd.prog 25 #[.string a] W fun e w' => e = .returned (.string x) ∧ Below W.heap.size W w') := fun W hW => by
    have h := code_any a W (by omega) hW
    rw [show mkS (codeOf (segsOf (bs a))) = x by rw [hx]] at h
    exact h
  have tkCa : Nat := 0
  have HCb : Hid (∀ W, MaxL W → Calls Tryd.prog 25 #[.string b] W fun e w' => e = .returned (.string y) ∧ Below W.heap.size W w') := fun W hW => by
    have h := code_any b W (by omega) hW
    rw [show mkS (codeOf (segsOf (bs b))) = y by rw [hy]] at h
    exact h
  have tkCb : Nat := 0
  have HCc : Hid (∀ W, MaxL W → Calls Tryd.prog 25 #[.string c] W fun e w' => e = .returned (.string z) ∧ Below W.heap.size W w') := fun W hW => by
    have h := code_any c W (by omega) hW
    rw [show mkS (codeOf (segsOf (bs c))) = z by rw [hz]] at h
    exact h
  have tkCc : Nat := 0
  have HD : Hid (∀ W, MaxL W → Calls Tryd.prog 11 #[.string x] W fun e w' => e = .returned (.tuple #[.string a, .int .i64 0]) ∧ Below W.heap.size W w') := fun W hW => by
    have h := decode_any x W hzx hW
    rw [show Value.tuple #[.string (mkS (decOf (bs x))), .int .i64 (decErr (bs x))] = Value.tuple #[.string a, .int .i64 0] by rw [hbx, decErr, (dec_code (segsOf_ok _)).1, (dec_code (segsOf_ok _)).2, jn_segsOf ia, mkS_bs]; rfl] at h
    exact h
  have tkD : Nat := 0
  obtain ⟨q, hq⟩ : ∃ q, q = decide (a = b) := ⟨_, rfl⟩
  have HQ1 : Hid (∀ _ : Unit, (a == b) = q) := fun _ => by rw [hq, eqs_is]
  have HQ2 : Hid (∀ _ : Unit, (x == y) = q) := fun _ => by
    rw [hq, eqs_is]
    congr 1
    refine propext ⟨fun h9 => bs_inj (code_inj ia ib ?_), fun h9 => by rw [hx, hy, h9]⟩
    rw [← hbx, ← hby, h9]
  have hux := und_code ia ib
  have huz := und_code ia ic
  rw [← hbx, ← hby] at hux
  rw [← hbx, ← hbz] at huz
  have HU1 : Hid (∀ W, MaxL W → Calls Tryd.prog 22 #[.string b, .string a] W fun e w' => e = .returned (.bool false) ∧ Below W.heap.size W w') := fun W hW => by
    have h := under_any b a W (by omega) (by omega) hW
    rw [show undOf (bs b) (bs a) = false by exact hu] at h
    exact h
  have tk1 : Nat := 0
  have tk2 : Nat := 0
  have tk3 : Nat := 0
  have hli : ¬ (x.size : Int) ≤ (y.size : Int) := by
    rw [← hbx, ← hby, bs_length, bs_length] at hl
    omega
  clear hl hu hux huz
  clear ia ib ic hx hy hz hbx hby hbz hq ha hb hc
  clear hM
  go_enter Tryd.func4, Tryd.ntmps4
  go_wp2_with (first
    | (go_at_call 8; refine (known_any _ (HM.out.below hm.below)).mono ?_; rintro e w3 ⟨he, hb⟩; subst he; replace hm := hm.call hb; clear hb)
    | (go_at_call 15; clear tkIa; refine (HIa.out _ (HM.out.below hm.below)).mono ?_; rintro e w' ⟨he, hb⟩; subst he; replace hm := hm.call hb; clear hb)
    | (go_at_call 15; clear tkIb; refine (HIb.out _ (HM.out.below hm.below)).mono ?_; rintro e w' ⟨he, hb⟩; subst he; replace hm := hm.call hb; clear hb)
    | (go_at_call 15; clear tkIc; refine (HIc.out _ (HM.out.below hm.below)).mono ?_; rintro e w' ⟨he, hb⟩; subst he; replace hm := hm.call hb; clear hb)
    | (go_at_call 25; clear tkCa; refine (HCa.out _ (HM.out.below hm.below)).mono ?_; rintro e w' ⟨he, hb⟩; subst he; replace hm := hm.call hb; clear hb)
    | (go_at_call 25; clear tkCb; refine (HCb.out _ (HM.out.below hm.below)).mono ?_; rintro e w' ⟨he, hb⟩; subst he; replace hm := hm.call hb; clear hb)
    | (go_at_call 25; clear tkCc; refine (HCc.out _ (HM.out.below hm.below)).mono ?_; rintro e w' ⟨he, hb⟩; subst he; replace hm := hm.call hb; clear hb)
    | (go_at_call 11; clear tkD; refine (HD.out _ (HM.out.below hm.below)).mono ?_; rintro e w' ⟨he, hb⟩; subst he; replace hm := hm.call hb; clear hb)
    | ((with_reducible refine at_opG (some 59) (.binOp .neq 9 (.tmp 57) (.tmp 58) 9) (some (2, false)) ?_); go_must (refine wpl_execG (.bool false) rfl (exec_neB a a true (eqs_yes _) rfl rfl) ?_))
    | ((with_reducible refine at_opG (some 64) (.binOp .eql 9 (.tmp 62) (.tmp 63) 9) (some (7, false)) ?_); go_must (refine wpl_execG (.bool q) rfl (exec_eqsB x y q rfl rfl (HQ2.out ())) ?_))
    | ((with_reducible refine at_opG (some 67) (.binOp .eql 9 (.tmp 65) (.tmp 66) 9) (some (7, false)) ?_); go_must (refine wpl_execG (.bool q) rfl (exec_eqsB a b q rfl rfl (HQ1.out ())) ?_))
    | (go_at_call 22; clear tk1; refine (HU1.out _ (HM.out.below hm.below)).mono ?_; rintro e w' ⟨he, hb⟩; subst he; replace hm := hm.call hb; clear hb)
    | (go_at_call 22; clear tk2; refine (HU1.out _ (HM.out.below hm.below)).mono ?_; rintro e w' ⟨he, hb⟩; subst he; replace hm := hm.call hb; clear hb)
    | (go_at_call 22; clear tk3; refine (HU1.out _ (HM.out.below hm.below)).mono ?_; rintro e w' ⟨he, hb⟩; subst he; replace hm := hm.call hb; clear hb))
  go_ret
  exact ⟨rfl, hm.below⟩
set_option maxHeartbeats 2000000 in
set_option maxRecDepth 100000 in
theorem pcodes_other (a b c : ByteArray) (w : World) (ha : a.size ≤ 60) (hb : b.size ≤ 60) (hc : c.size ≤ 60) (ia : isP (bs a) = true) (ib : isP (bs b) = true) (ic : isP (bs c) = true) (hu : undOf (bs b) (bs a) = false) (hl : (codeOf (segsOf (bs a))).length ≤ (codeOf (segsOf (bs b))).length) (hM : MaxL w) :
    Calls Tryd.prog 4 #[.string a, .string b, .string c] w fun e w' => e = .returned (.bool true) ∧ Below w.heap.size w w' := by
  have hm := Mem.start w
  have HM : Hid (MaxL w) := hM
  have hai : ¬ (60 : Int) < (a.size : Int) := by omega
  have hbi : ¬ (60 : Int) < (b.size : Int) := by omega
  have hci : ¬ (60 : Int) < (c.size : Int) := by omega
  have HIa : Hid (∀ W, MaxL W → Calls Tryd.prog 15 #[.string a] W fun e w' => e = .returned (.bool true) ∧ Below W.heap.size W w') := fun W hW => by
    have h := is_any a W (by omega) hW
    rw [show isP (bs a) = true by exact ia] at h
    exact h
  have tkIa : Nat := 0
  have HIb : Hid (∀ W, MaxL W → Calls Tryd.prog 15 #[.string b] W fun e w' => e = .returned (.bool true) ∧ Below W.heap.size W w') := fun W hW => by
    have h := is_any b W (by omega) hW
    rw [show isP (bs b) = true by exact ib] at h
    exact h
  have tkIb : Nat := 0
  have HIc : Hid (∀ W, MaxL W → Calls Tryd.prog 15 #[.string c] W fun e w' => e = .returned (.bool true) ∧ Below W.heap.size W w') := fun W hW => by
    have h := is_any c W (by omega) hW
    rw [show isP (bs c) = true by exact ic] at h
    exact h
  have tkIc : Nat := 0
  obtain ⟨x, hx⟩ : ∃ s, s = mkS (codeOf (segsOf (bs a))) := ⟨_, rfl⟩
  have hbx : bs x = codeOf (segsOf (bs a)) := by rw [hx, bs_mkS]
  have hzx : x.size ≤ 1000 := by rw [hx, mkS_size]; have := code_small (bs a); omega
  obtain ⟨y, hy⟩ : ∃ s, s = mkS (codeOf (segsOf (bs b))) := ⟨_, rfl⟩
  have hby : bs y = codeOf (segsOf (bs b)) := by rw [hy, bs_mkS]
  have hzy : y.size ≤ 1000 := by rw [hy, mkS_size]; have := code_small (bs b); omega
  obtain ⟨z, hz⟩ : ∃ s, s = mkS (codeOf (segsOf (bs c))) := ⟨_, rfl⟩
  have hbz : bs z = codeOf (segsOf (bs c)) := by rw [hz, bs_mkS]
  have hzz : z.size ≤ 1000 := by rw [hz, mkS_size]; have := code_small (bs c); omega
  have HCa : Hid (∀ W, MaxL W → Calls Tryd.prog 25 #[.string a] W fun e w' => e = .returned (.string x) ∧ Below W.heap.size W w') := fun W hW => by
    have h := code_any a W (by omega) hW
    rw [show mkS (codeOf (segsOf (bs a))) = x by rw [hx]] at h
    exact h
  have tkCa : Nat := 0
  have HCb : Hid (∀ W, MaxL W → Calls Tryd.prog 25 #[.string b] W fun e w' => e = .returned (.string y) ∧ Below W.heap.size W w') := fun W hW => by
    have h := code_any b W (by omega) hW
    rw [show mkS (codeOf (segsOf (bs b))) = y by rw [hy]] at h
    exact h
  have tkCb : Nat := 0
  have HCc : Hid (∀ W, MaxL W → Calls Tryd.prog 25 #[.string c] W fun e w' => e = .returned (.string z) ∧ Below W.heap.size W w') := fun W hW => by
    have h := code_any c W (by omega) hW
    rw [show mkS (codeOf (segsOf (bs c))) = z by rw [hz]] at h
    exact h
  have tkCc : Nat := 0
  have HD : Hid (∀ W, MaxL W → Calls Tryd.prog 11 #[.string x] W fun e w' => e = .returned (.tuple #[.string a, .int .i64 0]) ∧ Below W.heap.size W w') := fun W hW => by
    have h := decode_any x W hzx hW
    rw [show Value.tuple #[.string (mkS (decOf (bs x))), .int .i64 (decErr (bs x))] = Value.tuple #[.string a, .int .i64 0] by rw [hbx, decErr, (dec_code (segsOf_ok _)).1, (dec_code (segsOf_ok _)).2, jn_segsOf ia, mkS_bs]; rfl] at h
    exact h
  have tkD : Nat := 0
  obtain ⟨q, hq⟩ : ∃ q, q = decide (a = b) := ⟨_, rfl⟩
  have HQ1 : Hid (∀ _ : Unit, (a == b) = q) := fun _ => by rw [hq, eqs_is]
  have HQ2 : Hid (∀ _ : Unit, (x == y) = q) := fun _ => by
    rw [hq, eqs_is]
    congr 1
    refine propext ⟨fun h9 => bs_inj (code_inj ia ib ?_), fun h9 => by rw [hx, hy, h9]⟩
    rw [← hbx, ← hby, h9]
  have hux := und_code ia ib
  have huz := und_code ia ic
  rw [← hbx, ← hby] at hux
  rw [← hbx, ← hbz] at huz
  have HU1 : Hid (∀ W, MaxL W → Calls Tryd.prog 22 #[.string b, .string a] W fun e w' => e = .returned (.bool false) ∧ Below W.heap.size W w') := fun W hW => by
    have h := under_any b a W (by omega) (by omega) hW
    rw [show undOf (bs b) (bs a) = false by exact hu] at h
    exact h
  have tk1 : Nat := 0
  have tk2 : Nat := 0
  have tk3 : Nat := 0
  have hle : x.size ≤ y.size := by
    rw [← hbx, ← hby, bs_length, bs_length] at hl
    exact hl
  have HLE : Hid (x.size ≤ y.size) := hle
  have hli : (x.size : Int) ≤ (y.size : Int) := by omega
  obtain ⟨r, hr⟩ : ∃ r, r = mkS ((bs y).take x.size) := ⟨_, rfl⟩
  have HRR : Hid (∀ _ : Unit, bs r = (bs y).take x.size) := fun _ => by rw [hr, bs_mkS]
  have HRX : Hid (∀ _ : Unit, (r == x) = false) := fun _ => eqs_no (fun he => by
    have h9 := hux.2 (by
      rw [← he]
      rw [HRR.out ()]
      exact List.take_prefix _ _)
    rw [hu] at h9
    cases h9)
  clear hl hu hux huz hr hle
  clear ia ib ic hx hy hz hbx hby hbz hq ha hb hc
  clear hM
  go_enter Tryd.func4, Tryd.ntmps4
  go_wp2_with (first
    | (go_at_call 8; refine (known_any _ (HM.out.below hm.below)).mono ?_; rintro e w3 ⟨he, hb⟩; subst he; replace hm := hm.call hb; clear hb)
    | (go_at_call 15; clear tkIa; refine (HIa.out _ (HM.out.below hm.below)).mono ?_; rintro e w' ⟨he, hb⟩; subst he; replace hm := hm.call hb; clear hb)
    | (go_at_call 15; clear tkIb; refine (HIb.out _ (HM.out.below hm.below)).mono ?_; rintro e w' ⟨he, hb⟩; subst he; replace hm := hm.call hb; clear hb)
    | (go_at_call 15; clear tkIc; refine (HIc.out _ (HM.out.below hm.below)).mono ?_; rintro e w' ⟨he, hb⟩; subst he; replace hm := hm.call hb; clear hb)
    | (go_at_call 25; clear tkCa; refine (HCa.out _ (HM.out.below hm.below)).mono ?_; rintro e w' ⟨he, hb⟩; subst he; replace hm := hm.call hb; clear hb)
    | (go_at_call 25; clear tkCb; refine (HCb.out _ (HM.out.below hm.below)).mono ?_; rintro e w' ⟨he, hb⟩; subst he; replace hm := hm.call hb; clear hb)
    | (go_at_call 25; clear tkCc; refine (HCc.out _ (HM.out.below hm.below)).mono ?_; rintro e w' ⟨he, hb⟩; subst he; replace hm := hm.call hb; clear hb)
    | (go_at_call 11; clear tkD; refine (HD.out _ (HM.out.below hm.below)).mono ?_; rintro e w' ⟨he, hb⟩; subst he; replace hm := hm.call hb; clear hb)
    | ((with_reducible refine at_opG (some 59) (.binOp .neq 9 (.tmp 57) (.tmp 58) 9) (some (2, false)) ?_); go_must (refine wpl_execG (.bool false) rfl (exec_neB a a true (eqs_yes _) rfl rfl) ?_))
    | ((with_reducible refine at_opG (some 64) (.binOp .eql 9 (.tmp 62) (.tmp 63) 9) (some (7, false)) ?_); go_must (refine wpl_execG (.bool q) rfl (exec_eqsB x y q rfl rfl (HQ2.out ())) ?_))
    | ((with_reducible refine at_opG (some 67) (.binOp .eql 9 (.tmp 65) (.tmp 66) 9) (some (7, false)) ?_); go_must (refine wpl_execG (.bool q) rfl (exec_eqsB a b q rfl rfl (HQ1.out ())) ?_))
    | (go_at_call 22; clear tk1; refine (HU1.out _ (HM.out.below hm.below)).mono ?_; rintro e w' ⟨he, hb⟩; subst he; replace hm := hm.call hb; clear hb)
    | (go_at_call 22; clear tk2; refine (HU1.out _ (HM.out.below hm.below)).mono ?_; rintro e w' ⟨he, hb⟩; subst he; replace hm := hm.call hb; clear hb)
    | (go_at_call 22; clear tk3; refine (HU1.out _ (HM.out.below hm.below)).mono ?_; rintro e w' ⟨he, hb⟩; subst he; replace hm := hm.call hb; clear hb)
    | ((with_reducible refine at_opG (some 79) (.slice 9 (.tmp 76) none (some (.tmp 78)) none) (some (5, true)) ?_); go_must (refine wpl_execG (.string r) rfl (exec_shiS y r x.size HLE.out (HRR.out ()) rfl rfl) ?_))
    | ((with_reducible refine at_opG (some 81) (.binOp .eql 9 (.tmp 79) (.tmp 80) 9) (some (5, true)) ?_); go_must (refine wpl_execG (.bool false) rfl (exec_eqsB r x false rfl rfl (HRX.out ())) ?_)))
  go_ret
  exact ⟨rfl, hm.below⟩
set_option maxHeartbeats 2000000 in
set_option maxRecDepth 100000 in
theorem pcodes_y1 (a b c : ByteArray) (w : World) (ha : a.size ≤ 60) (hb : b.size ≤ 60) (hc : c.size ≤ 60) (ia : isP (bs a) = true) (ib : isP (bs b) = true) (ic : isP (bs c) = true) (hu : undOf (bs b) (bs a) = true) (h1 : leB (codeOf (segsOf (bs a))) (codeOf (segsOf (bs c))) = false) (hM : MaxL w) :
    Calls Tryd.prog 4 #[.string a, .string b, .string c] w fun e w' => e = .returned (.bool true) ∧ Below w.heap.size w w' := by
  have hm := Mem.start w
  have HM : Hid (MaxL w) := hM
  have hai : ¬ (60 : Int) < (a.size : Int) := by omega
  have hbi : ¬ (60 : Int) < (b.size : Int) := by omega
  have hci : ¬ (60 : Int) < (c.size : Int) := by omega
  have HIa : Hid (∀ W, MaxL W → Calls Tryd.prog 15 #[.string a] W fun e w' => e = .returned (.bool true) ∧ Below W.heap.size W w') := fun W hW => by
    have h := is_any a W (by omega) hW
    rw [show isP (bs a) = true by exact ia] at h
    exact h
  have tkIa : Nat := 0
  have HIb : Hid (∀ W, MaxL W → Calls Tryd.prog 15 #[.string b] W fun e w' => e = .returned (.bool true) ∧ Below W.heap.size W w') := fun W hW => by
    have h := is_any b W (by omega) hW
    rw [show isP (bs b) = true by exact ib] at h
    exact h
  have tkIb : Nat := 0
  have HIc : Hid (∀ W, MaxL W → Calls Tryd.prog 15 #[.string c] W fun e w' => e = .returned (.bool true) ∧ Below W.heap.size W w') := fun W hW => by
    have h := is_any c W (by omega) hW
    rw [show isP (bs c) = true by exact ic] at h
    exact h
  have tkIc : Nat := 0
  obtain ⟨x, hx⟩ : ∃ s, s = mkS (codeOf (segsOf (bs a))) := ⟨_, rfl⟩
  have hbx : bs x = codeOf (segsOf (bs a)) := by rw [hx, bs_mkS]
  have hzx : x.size ≤ 1000 := by rw [hx, mkS_size]; have := code_small (bs a); omega
  obtain ⟨y, hy⟩ : ∃ s, s = mkS (codeOf (segsOf (bs b))) := ⟨_, rfl⟩
  have hby : bs y = codeOf (segsOf (bs b)) := by rw [hy, bs_mkS]
  have hzy : y.size ≤ 1000 := by rw [hy, mkS_size]; have := code_small (bs b); omega
  obtain ⟨z, hz⟩ : ∃ s, s = mkS (codeOf (segsOf (bs c))) := ⟨_, rfl⟩
  have hbz : bs z = codeOf (segsOf (bs c)) := by rw [hz, bs_mkS]
  have hzz : z.size ≤ 1000 := by rw [hz, mkS_size]; have := code_small (bs c); omega
  have HCa : Hid (∀ W, MaxL W → Calls Tryd.prog 25 #[.string a] W fun e w' => e = .returned (.string x) ∧ Below W.heap.size W w') := fun W hW => by
    have h := code_any a W (by omega) hW
    rw [show mkS (codeOf (segsOf (bs a))) = x by rw [hx]] at h
    exact h
  have tkCa : Nat := 0
  have HCb : Hid (∀ W, MaxL W → Calls Tryd.prog 25 #[.string b] W fun e w' => e = .returned (.string y) ∧ Below W.heap.size W w') := fun W hW => by
    have h := code_any b W (by omega) hW
    rw [show mkS (codeOf (segsOf (bs b))) = y by rw [hy]] at h
    exact h
  have tkCb : Nat := 0
  have HCc : Hid (∀ W, MaxL W → Calls Tryd.prog 25 #[.string c] W fun e w' => e = .returned (.string z) ∧ Below W.heap.size W w') := fun W hW => by
    have h := code_any c W (by omega) hW
    rw [show mkS (codeOf (segsOf (bs c))) = z by rw [hz]] at h
    exact h
  have tkCc : Nat := 0
  have HD : Hid (∀ W, MaxL W → Calls Tryd.prog 11 #[.string x] W fun e w' => e = .returned (.tuple #[.string a, .int .i64 0]) ∧ Below W.heap.size W w') := fun W hW => by
    have h := decode_any x W hzx hW
    rw [show Value.tuple #[.string (mkS (decOf (bs x))), .int .i64 (decErr (bs x))] = Value.tuple #[.string a, .int .i64 0] by rw [hbx, decErr, (dec_code (segsOf_ok _)).1, (dec_code (segsOf_ok _)).2, jn_segsOf ia, mkS_bs]; rfl] at h
    exact h
  have tkD : Nat := 0
  obtain ⟨q, hq⟩ : ∃ q, q = decide (a = b) := ⟨_, rfl⟩
  have HQ1 : Hid (∀ _ : Unit, (a == b) = q) := fun _ => by rw [hq, eqs_is]
  have HQ2 : Hid (∀ _ : Unit, (x == y) = q) := fun _ => by
    rw [hq, eqs_is]
    congr 1
    refine propext ⟨fun h9 => bs_inj (code_inj ia ib ?_), fun h9 => by rw [hx, hy, h9]⟩
    rw [← hbx, ← hby, h9]
  have hux := und_code ia ib
  have huz := und_code ia ic
  rw [← hbx, ← hby] at hux
  rw [← hbx, ← hbz] at huz
  have HU1 : Hid (∀ W, MaxL W → Calls Tryd.prog 22 #[.string b, .string a] W fun e w' => e = .returned (.bool true) ∧ Below W.heap.size W w') := fun W hW => by
    have h := under_any b a W (by omega) (by omega) hW
    rw [show undOf (bs b) (bs a) = true by exact hu] at h
    exact h
  have tk1 : Nat := 0
  have tk2 : Nat := 0
  have tk3 : Nat := 0
  obtain ⟨tt, htt⟩ := hux.1 hu
  have hle : x.size ≤ y.size := by
    rw [← bs_length, ← bs_length, ← htt]; simp
  have HLE : Hid (x.size ≤ y.size) := hle
  have hli : (x.size : Int) ≤ (y.size : Int) := by omega
  have HRR : Hid (∀ _ : Unit, bs x = (bs y).take x.size) := fun _ => by rw [← htt, ← bs_length, List.take_left]
  have HRX : Hid (∀ _ : Unit, (x == x) = true) := fun _ => eqs_yes x
  have HLS : Hid (∀ _ : Unit, Op.bytesLess (bs y) (bs x) = false) := fun _ => by rw [← htt]; exact less_pre _ _
  have HL1 : Hid (∀ _ : Unit, leB (bs x) (bs z) = false) := fun _ => by rw [hbx, hbz]; exact h1
  clear hu hux huz h1 htt hle
  clear ia ib ic hx hy hz hbx hby hbz hq ha hb hc
  clear hM
  go_enter Tryd.func4, Tryd.ntmps4
  go_wp2_with (first
    | (go_at_call 8; refine (known_any _ (HM.out.below hm.below)).mono ?_; rintro e w3 ⟨he, hb⟩; subst he; replace hm := hm.call hb; clear hb)
    | (go_at_call 15; clear tkIa; refine (HIa.out _ (HM.out.below hm.below)).mono ?_; rintro e w' ⟨he, hb⟩; subst he; replace hm := hm.call hb; clear hb)
    | (go_at_call 15; clear tkIb; refine (HIb.out _ (HM.out.below hm.below)).mono ?_; rintro e w' ⟨he, hb⟩; subst he; replace hm := hm.call hb; clear hb)
    | (go_at_call 15; clear tkIc; refine (HIc.out _ (HM.out.below hm.below)).mono ?_; rintro e w' ⟨he, hb⟩; subst he; replace hm := hm.call hb; clear hb)
    | (go_at_call 25; clear tkCa; refine (HCa.out _ (HM.out.below hm.below)).mono ?_; rintro e w' ⟨he, hb⟩; subst he; replace hm := hm.call hb; clear hb)
    | (go_at_call 25; clear tkCb; refine (HCb.out _ (HM.out.below hm.below)).mono ?_; rintro e w' ⟨he, hb⟩; subst he; replace hm := hm.call hb; clear hb)
    | (go_at_call 25; clear tkCc; refine (HCc.out _ (HM.out.below hm.below)).mono ?_; rintro e w' ⟨he, hb⟩; subst he; replace hm := hm.call hb; clear hb)
    | (go_at_call 11; clear tkD; refine (HD.out _ (HM.out.below hm.below)).mono ?_; rintro e w' ⟨he, hb⟩; subst he; replace hm := hm.call hb; clear hb)
    | ((with_reducible refine at_opG (some 59) (.binOp .neq 9 (.tmp 57) (.tmp 58) 9) (some (2, false)) ?_); go_must (refine wpl_execG (.bool false) rfl (exec_neB a a true (eqs_yes _) rfl rfl) ?_))
    | ((with_reducible refine at_opG (some 64) (.binOp .eql 9 (.tmp 62) (.tmp 63) 9) (some (7, false)) ?_); go_must (refine wpl_execG (.bool q) rfl (exec_eqsB x y q rfl rfl (HQ2.out ())) ?_))
    | ((with_reducible refine at_opG (some 67) (.binOp .eql 9 (.tmp 65) (.tmp 66) 9) (some (7, false)) ?_); go_must (refine wpl_execG (.bool q) rfl (exec_eqsB a b q rfl rfl (HQ1.out ())) ?_))
    | (go_at_call 22; clear tk1; refine (HU1.out _ (HM.out.below hm.below)).mono ?_; rintro e w' ⟨he, hb⟩; subst he; replace hm := hm.call hb; clear hb)
    | (go_at_call 22; clear tk2; refine (HU1.out _ (HM.out.below hm.below)).mono ?_; rintro e w' ⟨he, hb⟩; subst he; replace hm := hm.call hb; clear hb)
    | (go_at_call 22; clear tk3; refine (HU1.out _ (HM.out.below hm.below)).mono ?_; rintro e w' ⟨he, hb⟩; subst he; replace hm := hm.call hb; clear hb)
    | ((with_reducible refine at_opG (some 79) (.slice 9 (.tmp 76) none (some (.tmp 78)) none) (some (5, true)) ?_); go_must (refine wpl_execG (.string x) rfl (exec_shiS y x x.size HLE.out (HRR.out ()) rfl rfl) ?_))
    | ((with_reducible refine at_opG (some 81) (.binOp .eql 9 (.tmp 79) (.tmp 80) 9) (some (5, true)) ?_); go_must (refine wpl_execG (.bool true) rfl (exec_eqsB x x true rfl rfl (HRX.out ())) ?_))
    | ((with_reducible refine at_opG (some 95) (.binOp .lss 9 (.tmp 93) (.tmp 94) 9) (some (9, true)) ?_); go_must (refine wpl_execG (.bool false) rfl (exec_lsS y x false (HLS.out ()) rfl rfl) ?_))
    | ((with_reducible refine at_opG (some 104) (.binOp .leq 9 (.tmp 102) (.tmp 103) 9) (some (3, true)) ?_); go_must (refine wpl_execG (.bool false) rfl (exec_leS x z false (HL1.out ()) rfl rfl) ?_)))
  go_ret
  exact ⟨rfl, hm.below⟩
set_option maxHeartbeats 2000000 in
set_option maxRecDepth 100000 in
theorem pcodes_y2 (a b c : ByteArray) (w : World) (ha : a.size ≤ 60) (hb : b.size ≤ 60) (hc : c.size ≤ 60) (ia : isP (bs a) = true) (ib : isP (bs b) = true) (ic : isP (bs c) = true) (hu : undOf (bs b) (bs a) = true) (h1 : leB (codeOf (segsOf (bs a))) (codeOf (segsOf (bs c))) = true) (h2 : leB (codeOf (segsOf (bs c))) (codeOf (segsOf (bs b))) = false) (hM : MaxL w) :
    Calls Tryd.prog 4 #[.string a, .string b, .string c] w fun e w' => e = .returned (.bool true) ∧ Below w.heap.size w w' := by
  have hm := Mem.start w
  have HM : Hid (MaxL w) := hM
  have hai : ¬ (60 : Int) < (a.size : Int) := by omega
  have hbi : ¬ (60 : Int) < (b.size : Int) := by omega
  have hci : ¬ (60 : Int) < (c.size : Int) := by omega
  have HIa : Hid (∀ W, MaxL W → Calls Tryd.prog 15 #[.string a] W fun e w' => e = .returned (.bool true) ∧ Below W.heap.size W w') := fun W hW => by
    have h := is_any a W (by omega) hW
    rw [show isP (bs a) = true by exact ia] at h
    exact h
  have tkIa : Nat := 0
  have HIb : Hid (∀ W, MaxL W → Calls Tryd.prog 15 #[.string b] W fun e w' => e = .returned (.bool true) ∧ Below W.heap.size W w') := fun W hW => by
    have h := is_any b W (by omega) hW
    rw [show isP (bs b) = true by exact ib] at h
    exact h
  have tkIb : Nat := 0
  have HIc : Hid (∀ W, MaxL W → Calls Tryd.prog 15 #[.string c] W fun e w' => e = .returned (.bool true) ∧ Below W.heap.size W w') := fun W hW => by
    have h := is_any c W (by omega) hW
    rw [show isP (bs c) = true by exact ic] at h
    exact h
  have tkIc : Nat := 0
  obtain ⟨x, hx⟩ : ∃ s, s = mkS (codeOf (segsOf (bs a))) := ⟨_, rfl⟩
  have hbx : bs x = codeOf (segsOf (bs a)) := by rw [hx, bs_mkS]
  have hzx : x.size ≤ 1000 := by rw [hx, mkS_size]; have := code_small (bs a); omega
  obtain ⟨y, hy⟩ : ∃ s, s = mkS (codeOf (segsOf (bs b))) := ⟨_, rfl⟩
  have hby : bs y = codeOf (segsOf (bs b)) := by rw [hy, bs_mkS]
  have hzy : y.size ≤ 1000 := by rw [hy, mkS_size]; have := code_small (bs b); omega
  obtain ⟨z, hz⟩ : ∃ s, s = mkS (codeOf (segsOf (bs c))) := ⟨_, rfl⟩
  have hbz : bs z = codeOf (segsOf (bs c)) := by rw [hz, bs_mkS]
  have hzz : z.size ≤ 1000 := by rw [hz, mkS_size]; have := code_small (bs c); omega
  have HCa : Hid (∀ W, MaxL W → Calls Tryd.prog 25 #[.string a] W fun e w' => e = .returned (.string x) ∧ Below W.heap.size W w') := fun W hW => by
    have h := code_any a W (by omega) hW
    rw [show mkS (codeOf (segsOf (bs a))) = x by rw [hx]] at h
    exact h
  have tkCa : Nat := 0
  have HCb : Hid (∀ W, MaxL W → Calls Tryd.prog 25 #[.string b] W fun e w' => e = .returned (.string y) ∧ Below W.heap.size W w') := fun W hW => by
    have h := code_any b W (by omega) hW
    rw [show mkS (codeOf (segsOf (bs b))) = y by rw [hy]] at h
    exact h
  have tkCb : Nat := 0
  have HCc : Hid (∀ W, MaxL W → Calls Tryd.prog 25 #[.string c] W fun e w' => e = .returned (.string z) ∧ Below W.heap.size W w') := fun W hW => by
    have h := code_any c W (by omega) hW
    rw [show mkS (codeOf (segsOf (bs c))) = z by rw [hz]] at h
    exact h
  have tkCc : Nat := 0
  have HD : Hid (∀ W, MaxL W → Calls Tryd.prog 11 #[.string x] W fun e w' => e = .returned (.tuple #[.string a, .int .i64 0]) ∧ Below W.heap.size W w') := fun W hW => by
    have h := decode_any x W hzx hW
    rw [show Value.tuple #[.string (mkS (decOf (bs x))), .int .i64 (decErr (bs x))] = Value.tuple #[.string a, .int .i64 0] by rw [hbx, decErr, (dec_code (segsOf_ok _)).1, (dec_code (segsOf_ok _)).2, jn_segsOf ia, mkS_bs]; rfl] at h
    exact h
  have tkD : Nat := 0
  obtain ⟨q, hq⟩ : ∃ q, q = decide (a = b) := ⟨_, rfl⟩
  have HQ1 : Hid (∀ _ : Unit, (a == b) = q) := fun _ => by rw [hq, eqs_is]
  have HQ2 : Hid (∀ _ : Unit, (x == y) = q) := fun _ => by
    rw [hq, eqs_is]
    congr 1
    refine propext ⟨fun h9 => bs_inj (code_inj ia ib ?_), fun h9 => by rw [hx, hy, h9]⟩
    rw [← hbx, ← hby, h9]
  have hux := und_code ia ib
  have huz := und_code ia ic
  rw [← hbx, ← hby] at hux
  rw [← hbx, ← hbz] at huz
  have HU1 : Hid (∀ W, MaxL W → Calls Tryd.prog 22 #[.string b, .string a] W fun e w' => e = .returned (.bool true) ∧ Below W.heap.size W w') := fun W hW => by
    have h := under_any b a W (by omega) (by omega) hW
    rw [show undOf (bs b) (bs a) = true by exact hu] at h
    exact h
  have tk1 : Nat := 0
  have tk2 : Nat := 0
  have tk3 : Nat := 0
  obtain ⟨tt, htt⟩ := hux.1 hu
  have hle : x.size ≤ y.size := by
    rw [← bs_length, ← bs_length, ← htt]; simp
  have HLE : Hid (x.size ≤ y.size) := hle
  have hli : (x.size : Int) ≤ (y.size : Int) := by omega
  have HRR : Hid (∀ _ : Unit, bs x = (bs y).take x.size) := fun _ => by rw [← htt, ← bs_length, List.take_left]
  have HRX : Hid (∀ _ : Unit, (x == x) = true) := fun _ => eqs_yes x
  have HLS : Hid (∀ _ : Unit, Op.bytesLess (bs y) (bs x) = false) := fun _ => by rw [← htt]; exact less_pre _ _
  have HL1 : Hid (∀ _ : Unit, leB (bs x) (bs z) = true) := fun _ => by rw [hbx, hbz]; exact h1
  have HL2 : Hid (∀ _ : Unit, leB (bs z) (bs y) = false) := fun _ => by rw [hby, hbz]; exact h2
  clear hu hux huz h1 h2 htt hle
  clear ia ib ic hx hy hz hbx hby hbz hq ha hb hc
  clear hM
  go_enter Tryd.func4, Tryd.ntmps4
  go_wp2_with (first
    | (go_at_call 8; refine (known_any _ (HM.out.below hm.below)).mono ?_; rintro e w3 ⟨he, hb⟩; subst he; replace hm := hm.call hb; clear hb)
    | (go_at_call 15; clear tkIa; refine (HIa.out _ (HM.out.below hm.below)).mono ?_; rintro e w' ⟨he, hb⟩; subst he; replace hm := hm.call hb; clear hb)
    | (go_at_call 15; clear tkIb; refine (HIb.out _ (HM.out.below hm.below)).mono ?_; rintro e w' ⟨he, hb⟩; subst he; replace hm := hm.call hb; clear hb)
    | (go_at_call 15; clear tkIc; refine (HIc.out _ (HM.out.below hm.below)).mono ?_; rintro e w' ⟨he, hb⟩; subst he; replace hm := hm.call hb; clear hb)
    | (go_at_call 25; clear tkCa; refine (HCa.out _ (HM.out.below hm.below)).mono ?_; rintro e w' ⟨he, hb⟩; subst he; replace hm := hm.call hb; clear hb)
    | (go_at_call 25; clear tkCb; refine (HCb.out _ (HM.out.below hm.below)).mono ?_; rintro e w' ⟨he, hb⟩; subst he; replace hm := hm.call hb; clear hb)
    | (go_at_call 25; clear tkCc; refine (HCc.out _ (HM.out.below hm.below)).mono ?_; rintro e w' ⟨he, hb⟩; subst he; replace hm := hm.call hb; clear hb)
    | (go_at_call 11; clear tkD; refine (HD.out _ (HM.out.below hm.below)).mono ?_; rintro e w' ⟨he, hb⟩; subst he; replace hm := hm.call hb; clear hb)
    | ((with_reducible refine at_opG (some 59) (.binOp .neq 9 (.tmp 57) (.tmp 58) 9) (some (2, false)) ?_); go_must (refine wpl_execG (.bool false) rfl (exec_neB a a true (eqs_yes _) rfl rfl) ?_))
    | ((with_reducible refine at_opG (some 64) (.binOp .eql 9 (.tmp 62) (.tmp 63) 9) (some (7, false)) ?_); go_must (refine wpl_execG (.bool q) rfl (exec_eqsB x y q rfl rfl (HQ2.out ())) ?_))
    | ((with_reducible refine at_opG (some 67) (.binOp .eql 9 (.tmp 65) (.tmp 66) 9) (some (7, false)) ?_); go_must (refine wpl_execG (.bool q) rfl (exec_eqsB a b q rfl rfl (HQ1.out ())) ?_))
    | (go_at_call 22; clear tk1; refine (HU1.out _ (HM.out.below hm.below)).mono ?_; rintro e w' ⟨he, hb⟩; subst he; replace hm := hm.call hb; clear hb)
    | (go_at_call 22; clear tk2; refine (HU1.out _ (HM.out.below hm.below)).mono ?_; rintro e w' ⟨he, hb⟩; subst he; replace hm := hm.call hb; clear hb)
    | (go_at_call 22; clear tk3; refine (HU1.out _ (HM.out.below hm.below)).mono ?_; rintro e w' ⟨he, hb⟩; subst he; replace hm := hm.call hb; clear hb)
    | ((with_reducible refine at_opG (some 79) (.slice 9 (.tmp 76) none (some (.tmp 78)) none) (some (5, true)) ?_); go_must (refine wpl_execG (.string x) rfl (exec_shiS y x x.size HLE.out (HRR.out ()) rfl rfl) ?_))
    | ((with_reducible refine at_opG (some 81) (.binOp .eql 9 (.tmp 79) (.tmp 80) 9) (some (5, true)) ?_); go_must (refine wpl_execG (.bool true) rfl (exec_eqsB x x true rfl rfl (HRX.out ())) ?_))
    | ((with_reducible refine at_opG (some 95) (.binOp .lss 9 (.tmp 93) (.tmp 94) 9) (some (9, true)) ?_); go_must (refine wpl_execG (.bool false) rfl (exec_lsS y x false (HLS.out ()) rfl rfl) ?_))
    | ((with_reducible refine at_opG (some 104) (.binOp .leq 9 (.tmp 102) (.tmp 103) 9) (some (3, true)) ?_); go_must (refine wpl_execG (.bool true) rfl (exec_leS x z true (HL1.out ()) rfl rfl) ?_))
    | ((with_reducible refine at_opG (some 109) (.binOp .leq 9 (.tmp 107) (.tmp 108) 9) (some (8, true)) ?_); go_must (refine wpl_execG (.bool false) rfl (exec_leS z y false (HL2.out ()) rfl rfl) ?_)))
  go_ret
  exact ⟨rfl, hm.below⟩
set_option maxHeartbeats 2000000 in
set_option maxRecDepth 100000 in
theorem pcodes_y3 (a b c : ByteArray) (w : World) (ha : a.size ≤ 60) (hb : b.size ≤ 60) (hc : c.size ≤ 60) (ia : isP (bs a) = true) (ib : isP (bs b) = true) (ic : isP (bs c) = true) (hu : undOf (bs b) (bs a) = true) (h1 : leB (codeOf (segsOf (bs a))) (codeOf (segsOf (bs c))) = true) (h2 : leB (codeOf (segsOf (bs c))) (codeOf (segsOf (bs b))) = true) (hM : MaxL w) :
    Calls Tryd.prog 4 #[.string a, .string b, .string c] w fun e w' => e = .returned (.bool true) ∧ Below w.heap.size w w' := by
  have hm := Mem.start w
  have HM : Hid (MaxL w) := hM
  have hai : ¬ (60 : Int) < (a.size : Int) := by omega
  have hbi : ¬ (60 : Int) < (b.size : Int) := by omega
  have hci : ¬ (60 : Int) < (c.size : Int) := by omega
  have HIa : Hid (∀ W, MaxL W → Calls Tryd.prog 15 #[.string a] W fun e w' => e = .returned (.bool true) ∧ Below W.heap.size W w') := fun W hW => by
    have h := is_any a W (by omega) hW
    rw [show isP (bs a) = true by exact ia] at h
    exact h
  have tkIa : Nat := 0
  have HIb : Hid (∀ W, MaxL W → Calls Tryd.prog 15 #[.string b] W fun e w' => e = .returned (.bool true) ∧ Below W.heap.size W w') := fun W hW => by
    have h := is_any b W (by omega) hW
    rw [show isP (bs b) = true by exact ib] at h
    exact h
  have tkIb : Nat := 0
  have HIc : Hid (∀ W, MaxL W → Calls Tryd.prog 15 #[.string c] W fun e w' => e = .returned (.bool true) ∧ Below W.heap.size W w') := fun W hW => by
    have h := is_any c W (by omega) hW
    rw [show isP (bs c) = true by exact ic] at h
    exact h
  have tkIc : Nat := 0
  obtain ⟨x, hx⟩ : ∃ s, s = mkS (codeOf (segsOf (bs a))) := ⟨_, rfl⟩
  have hbx : bs x = codeOf (segsOf (bs a)) := by rw [hx, bs_mkS]
  have hzx : x.size ≤ 1000 := by rw [hx, mkS_size]; have := code_small (bs a); omega
  obtain ⟨y, hy⟩ : ∃ s, s = mkS (codeOf (segsOf (bs b))) := ⟨_, rfl⟩
  have hby : bs y = codeOf (segsOf (bs b)) := by rw [hy, bs_mkS]
  have hzy : y.size ≤ 1000 := by rw [hy, mkS_size]; have := code_small (bs b); omega
  obtain ⟨z, hz⟩ : ∃ s, s = mkS (codeOf (segsOf (bs c))) := ⟨_, rfl⟩
  have hbz : bs z = codeOf (segsOf (bs c)) := by rw [hz, bs_mkS]
  have hzz : z.size ≤ 1000 := by rw [hz, mkS_size]; have := code_small (bs c); omega
  have HCa : Hid (∀ W, MaxL W → Calls Tryd.prog 25 #[.string a] W fun e w' => e = .returned (.string x) ∧ Below W.heap.size W w') := fun W hW => by
    have h := code_any a W (by omega) hW
    rw [show mkS (codeOf (segsOf (bs a))) = x by rw [hx]] at h
    exact h
  have tkCa : Nat := 0
  have HCb : Hid (∀ W, MaxL W → Calls Tryd.prog 25 #[.string b] W fun e w' => e = .returned (.string y) ∧ Below W.heap.size W w') := fun W hW => by
    have h := code_any b W (by omega) hW
    rw [show mkS (codeOf (segsOf (bs b))) = y by rw [hy]] at h
    exact h
  have tkCb : Nat := 0
  have HCc : Hid (∀ W, MaxL W → Calls Tryd.prog 25 #[.string c] W fun e w' => e = .returned (.string z) ∧ Below W.heap.size W w') := fun W hW => by
    have h := code_any c W (by omega) hW
    rw [show mkS (codeOf (segsOf (bs c))) = z by rw [hz]] at h
    exact h
  have tkCc : Nat := 0
  have HD : Hid (∀ W, MaxL W → Calls Tryd.prog 11 #[.string x] W fun e w' => e = .returned (.tuple #[.string a, .int .i64 0]) ∧ Below W.heap.size W w') := fun W hW => by
    have h := decode_any x W hzx hW
    rw [show Value.tuple #[.string (mkS (decOf (bs x))), .int .i64 (decErr (bs x))] = Value.tuple #[.string a, .int .i64 0] by rw [hbx, decErr, (dec_code (segsOf_ok _)).1, (dec_code (segsOf_ok _)).2, jn_segsOf ia, mkS_bs]; rfl] at h
    exact h
  have tkD : Nat := 0
  obtain ⟨q, hq⟩ : ∃ q, q = decide (a = b) := ⟨_, rfl⟩
  have HQ1 : Hid (∀ _ : Unit, (a == b) = q) := fun _ => by rw [hq, eqs_is]
  have HQ2 : Hid (∀ _ : Unit, (x == y) = q) := fun _ => by
    rw [hq, eqs_is]
    congr 1
    refine propext ⟨fun h9 => bs_inj (code_inj ia ib ?_), fun h9 => by rw [hx, hy, h9]⟩
    rw [← hbx, ← hby, h9]
  have hux := und_code ia ib
  have huz := und_code ia ic
  rw [← hbx, ← hby] at hux
  rw [← hbx, ← hbz] at huz
  have HU1 : Hid (∀ W, MaxL W → Calls Tryd.prog 22 #[.string b, .string a] W fun e w' => e = .returned (.bool true) ∧ Below W.heap.size W w') := fun W hW => by
    have h := under_any b a W (by omega) (by omega) hW
    rw [show undOf (bs b) (bs a) = true by exact hu] at h
    exact h
  have tk1 : Nat := 0
  have tk2 : Nat := 0
  have tk3 : Nat := 0
  obtain ⟨tt, htt⟩ := hux.1 hu
  have hle : x.size ≤ y.size := by
    rw [← bs_length, ← bs_length, ← htt]; simp
  have HLE : Hid (x.size ≤ y.size) := hle
  have hli : (x.size : Int) ≤ (y.size : Int) := by omega
  have HRR : Hid (∀ _ : Unit, bs x = (bs y).take x.size) := fun _ => by rw [← htt, ← bs_length, List.take_left]
  have HRX : Hid (∀ _ : Unit, (x == x) = true) := fun _ => eqs_yes x
  have HLS : Hid (∀ _ : Unit, Op.bytesLess (bs y) (bs x) = false) := fun _ => by rw [← htt]; exact less_pre _ _
  have HL1 : Hid (∀ _ : Unit, leB (bs x) (bs z) = true) := fun _ => by rw [hbx, hbz]; exact h1
  have HL2 : Hid (∀ _ : Unit, leB (bs z) (bs y) = true) := fun _ => by rw [hby, hbz]; exact h2
  have HU2 : Hid (∀ W, MaxL W → Calls Tryd.prog 22 #[.string c, .string a] W fun e w' => e = .returned (.bool true) ∧ Below W.heap.size W w') := fun W hW => by
    have h := under_any c a W (by omega) (by omega) hW
    rw [show undOf (bs c) (bs a) = true by exact huz.2 (mid_pre _ tt _ (HL1.out ()) (by rw [htt]; exact HL2.out ()))] at h
    exact h
  have tk4 : Nat := 0
  clear hu hux huz h1 h2 htt hle
  clear ia ib ic hx hy hz hbx hby hbz hq ha hb hc
  clear hM
  go_enter Tryd.func4, Tryd.ntmps4
  go_wp2_with (first
    | (go_at_call 8; refine (known_any _ (HM.out.below hm.below)).mono ?_; rintro e w3 ⟨he, hb⟩; subst he; replace hm := hm.call hb; clear hb)
    | (go_at_call 15; clear tkIa; refine (HIa.out _ (HM.out.below hm.below)).mono ?_; rintro e w' ⟨he, hb⟩; subst he; replace hm := hm.call hb; clear hb)
    | (go_at_call 15; clear tkIb; refine (HIb.out _ (HM.out.below hm.below)).mono ?_; rintro e w' ⟨he, hb⟩; subst he; replace hm := hm.call hb; clear hb)
    | (go_at_call 15; clear tkIc; refine (HIc.out _ (HM.out.below hm.below)).mono ?_; rintro e w' ⟨he, hb⟩; subst he; replace hm := hm.call hb; clear hb)
    | (go_at_call 25; clear tkCa; refine (HCa.out _ (HM.out.below hm.below)).mono ?_; rintro e w' ⟨he, hb⟩; subst he; replace hm := hm.call hb; clear hb)
    | (go_at_call 25; clear tkCb; refine (HCb.out _ (HM.out.below hm.below)).mono ?_; rintro e w' ⟨he, hb⟩; subst he; replace hm := hm.call hb; clear hb)
    | (go_at_call 25; clear tkCc; refine (HCc.out _ (HM.out.below hm.below)).mono ?_; rintro e w' ⟨he, hb⟩; subst he; replace hm := hm.call hb; clear hb)
    | (go_at_call 11; clear tkD; refine (HD.out _ (HM.out.below hm.below)).mono ?_; rintro e w' ⟨he, hb⟩; subst he; replace hm := hm.call hb; clear hb)
    | ((with_reducible refine at_opG (some 59) (.binOp .neq 9 (.tmp 57) (.tmp 58) 9) (some (2, false)) ?_); go_must (refine wpl_execG (.bool false) rfl (exec_neB a a true (eqs_yes _) rfl rfl) ?_))
    | ((with_reducible refine at_opG (some 64) (.binOp .eql 9 (.tmp 62) (.tmp 63) 9) (some (7, false)) ?_); go_must (refine wpl_execG (.bool q) rfl (exec_eqsB x y q rfl rfl (HQ2.out ())) ?_))
    | ((with_reducible refine at_opG (some 67) (.binOp .eql 9 (.tmp 65) (.tmp 66) 9) (some (7, false)) ?_); go_must (refine wpl_execG (.bool q) rfl (exec_eqsB a b q rfl rfl (HQ1.out ())) ?_))
    | (go_at_call 22; clear tk1; refine (HU1.out _ (HM.out.below hm.below)).mono ?_; rintro e w' ⟨he, hb⟩; subst he; replace hm := hm.call hb; clear hb)
    | (go_at_call 22; clear tk2; refine (HU1.out _ (HM.out.below hm.below)).mono ?_; rintro e w' ⟨he, hb⟩; subst he; replace hm := hm.call hb; clear hb)
    | (go_at_call 22; clear tk3; refine (HU1.out _ (HM.out.below hm.below)).mono ?_; rintro e w' ⟨he, hb⟩; subst he; replace hm := hm.call hb; clear hb)
    | (go_at_call 22; clear tk4; refine (HU2.out _ (HM.out.below hm.below)).mono ?_; rintro e w' ⟨he, hb⟩; subst he; replace hm := hm.call hb; clear hb)
    | ((with_reducible refine at_opG (some 79) (.slice 9 (.tmp 76) none (some (.tmp 78)) none) (some (5, true)) ?_); go_must (refine wpl_execG (.string x) rfl (exec_shiS y x x.size HLE.out (HRR.out ()) rfl rfl) ?_))
    | ((with_reducible refine at_opG (some 81) (.binOp .eql 9 (.tmp 79) (.tmp 80) 9) (some (5, true)) ?_); go_must (refine wpl_execG (.bool true) rfl (exec_eqsB x x true rfl rfl (HRX.out ())) ?_))
    | ((with_reducible refine at_opG (some 95) (.binOp .lss 9 (.tmp 93) (.tmp 94) 9) (some (9, true)) ?_); go_must (refine wpl_execG (.bool false) rfl (exec_lsS y x false (HLS.out ()) rfl rfl) ?_))
    | ((with_reducible refine at_opG (some 104) (.binOp .leq 9 (.tmp 102) (.tmp 103) 9) (some (3, true)) ?_); go_must (refine wpl_execG (.bool true) rfl (exec_leS x z true (HL1.out ()) rfl rfl) ?_))
    | ((with_reducible refine at_opG (some 109) (.binOp .leq 9 (.tmp 107) (.tmp 108) 9) (some (8, true)) ?_); go_must (refine wpl_execG (.bool true) rfl (exec_leS z y true (HL2.out ()) rfl rfl) ?_)))
  go_ret
  exact ⟨rfl, hm.below⟩
set_option maxRecDepth 100000 in
theorem pcodes_walk (a b c : ByteArray) (w : World) (hM : MaxL w) :
    Calls Tryd.prog 4 #[.string a, .string b, .string c] w fun e w' => e = .returned (.bool true) ∧ Below w.heap.size w w' := by
  by_cases ha : a.size ≤ 60
  · by_cases hb : b.size ≤ 60
    · by_cases hc : c.size ≤ 60
      · cases ia : isP (bs a) with
        | false => exact pcodes_ia a b c w ha hb hc ia hM
        | true =>
          cases ib : isP (bs b) with
          | false => exact pcodes_ib a b c w ha hb hc ia ib hM
          | true =>
            cases ic : isP (bs c) with
            | false => exact pcodes_ic a b c w ha hb hc ia ib ic hM
            | true =>
              cases hu : undOf (bs b) (bs a) with
              | false =>
                by_cases hl : (codeOf (segsOf (bs a))).length ≤ (codeOf (segsOf (bs b))).length
                · exact pcodes_other a b c w ha hb hc ia ib ic hu hl hM
                · exact pcodes_short a b c w ha hb hc ia ib ic hu (by omega) hM
              | true =>
                cases h1 : leB (codeOf (segsOf (bs a))) (codeOf (segsOf (bs c))) with
                | false => exact pcodes_y1 a b c w ha hb hc ia ib ic hu h1 hM
                | true =>
                  cases h2 : leB (codeOf (segsOf (bs c))) (codeOf (segsOf (bs b))) with
                  | false => exact pcodes_y2 a b c w ha hb hc ia ib ic hu h1 h2 hM
                  | true => exact pcodes_y3 a b c w ha hb hc ia ib ic hu h1 h2 hM
      · exact pcodes_c a b c w ha hb (by omega) hM
    · exact pcodes_b a b c w ha (by omega) hM
  · exact pcodes_a a b c w (by omega) hM
end Go.Proofs.YtikmmheknfljkaaDoor
