/- The walk of the law PathTells. -/
import Derived.Test.YtikmmheknfljkaaDoorPaRefF
namespace Go.Proofs.YtikmmheknfljkaaDoor
open Go Go.RowKit
set_option maxHeartbeats 2000000 in
set_option maxRecDepth 100000 in
theorem ptells_a (a b : ByteArray) (n cap : Nat) (q : Option Addr) (w : World) (ha : 100 < a.size) (hM : MaxL w) :
    Calls Tryd.prog 3 #[.string a, .string b, .slice q n cap] w fun e w' => e = .returned (.bool true) ∧ Below w.heap.size w w' := by
  have hm := Mem.start w
  have HM : Hid (MaxL w) := hM
  have hai : (100 : Int) < (a.size : Int) := by omega
  clear hM
  go_enter Tryd.func3, Tryd.ntmps3
  go_wp2_with (first
    | (go_at_call 8; refine (known_any _ (HM.out.below hm.below)).mono ?_; rintro e w3 ⟨he, hb⟩; subst he; replace hm := hm.call hb; clear hb))
  go_ret
  exact ⟨rfl, hm.below⟩
set_option maxHeartbeats 2000000 in
set_option maxRecDepth 100000 in
theorem ptells_b (a b : ByteArray) (n cap : Nat) (q : Option Addr) (w : World) (ha : a.size ≤ 100) (hb : 100 < b.size) (hM : MaxL w) :
    Calls Tryd.prog 3 #[.string a, .string b, .slice q n cap] w fun e w' => e = .returned (.bool true) ∧ Below w.heap.size w w' := by
  have hm := Mem.start w
  have HM : Hid (MaxL w) := hM
  have hai : ¬ (100 : Int) < (a.size : Int) := by omega
  have hbi : (100 : Int) < (b.size : Int) := by omega
  clear hM
  go_enter Tryd.func3, Tryd.ntmps3
  go_wp2_with (first
    | (go_at_call 8; refine (known_any _ (HM.out.below hm.below)).mono ?_; rintro e w3 ⟨he, hb⟩; subst he; replace hm := hm.call hb; clear hb))
  go_ret
  exact ⟨rfl, hm.below⟩
set_option maxHeartbeats 2000000 in
set_option maxRecDepth 100000 in
theorem ptells_n (a b : ByteArray) (n cap : Nat) (q : Option Addr) (w : World) (ha : a.size ≤ 100) (hb : b.size ≤ 100) (hn : 10 < n) (hM : MaxL w) :
    Calls Tryd.prog 3 #[.string a, .string b, .slice q n cap] w fun e w' => e = .returned (.bool true) ∧ Below w.heap.size w w' := by
  have hm := Mem.start w
  have HM : Hid (MaxL w) := hM
  have hai : ¬ (100 : Int) < (a.size : Int) := by omega
  have hbi : ¬ (100 : Int) < (b.size : Int) := by omega
  have hni : (10 : Int) < (n : Int) := by omega
  clear hM
  go_enter Tryd.func3, Tryd.ntmps3
  go_wp2_with (first
    | (go_at_call 8; refine (known_any _ (HM.out.below hm.below)).mono ?_; rintro e w3 ⟨he, hb⟩; subst he; replace hm := hm.call hb; clear hb))
  go_ret
  exact ⟨rfl, hm.below⟩
set_option maxHeartbeats 8000000 in
set_option maxRecDepth 100000 in
theorem ptells_yes (a b : ByteArray) (xs : List ByteArray) (n cap : Nat) (q : Option Addr) (w : World) (ha : a.size ≤ 100) (hb : b.size ≤ 100) (hn : n ≤ 10) (hxn : xs.length = n) (hz : ∀ x ∈ xs, x.size ≤ maxLen) (hv : SlS w (.slice q n cap) xs) (hdk : decOk (bs a) = true) (hM : MaxL w) :
    Calls Tryd.prog 3 #[.string a, .string b, .slice q n cap] w fun e w' => e = .returned (.bool true) ∧ Below w.heap.size w w' := by
  have hm := Mem.start w
  have HM : Hid (MaxL w) := hM
  have hai : ¬ (100 : Int) < (a.size : Int) := by omega
  have hbi : ¬ (100 : Int) < (b.size : Int) := by omega
  have hni : ¬ (10 : Int) < (n : Int) := by omega
  obtain ⟨ks, hks⟩ : ∃ ks, ks = segsB a := ⟨_, rfl⟩
  obtain ⟨m, hmk⟩ : ∃ m, m = ks.length := ⟨_, rfl⟩
  have HNm : Hid (∀ _ : Unit, ks.length = m) := fun _ => hmk.symm
  have hm3 : m ≤ 3 := by rw [hmk, hks]; exact (segsB_ok a).len
  obtain ⟨sg, hsg⟩ : ∃ r, r = seg (bs a) := ⟨_, rfl⟩
  obtain ⟨ia, hia⟩ : ∃ r, r = isP (bs a) := ⟨_, rfl⟩
  obtain ⟨pp, hpp⟩ : ∃ r, r = mkS (parOf (bs a)) := ⟨_, rfl⟩
  obtain ⟨po, hpo⟩ : ∃ r, r = parOk (bs a) := ⟨_, rfl⟩
  obtain ⟨un, hun⟩ : ∃ r, r = undOf (bs a) (bs b) := ⟨_, rfl⟩
  obtain ⟨co, hco⟩ : ∃ r, r = mkS (codeOf (segsOf (bs a))) := ⟨_, rfl⟩
  obtain ⟨de, hde⟩ : ∃ r, r = mkS (decOf (bs a)) := ⟨_, rfl⟩
  obtain ⟨jo, hjo⟩ : ∃ r, r = mkS (jn 47 ((plOf xs).map bs)) := ⟨_, rfl⟩
  have HV : Hid (SlS w (.slice q n cap) xs) := hv
  have HP1 : Hid (∀ W, MaxL W → Calls Tryd.prog 9 #[.string a] W fun e w' => e = .returned (.tuple #[.string pp, .bool po]) ∧ Below W.heap.size W w') := fun W hW => by rw [hpp, hpo]; exact parentP_any a W (by omega) hW
  have HP2 : Hid (∀ W, Calls Tryd.prog 10 #[.string a] W fun e w' => e = .returned (.tuple #[.string pp, .bool po]) ∧ Below W.heap.size W w') := fun W => by rw [hpp, hpo]; exact parentR_any a W (by omega)
  have HI1 : Hid (∀ W, MaxL W → Calls Tryd.prog 15 #[.string a] W fun e w' => e = .returned (.bool ia) ∧ Below W.heap.size W w') := fun W hW => by rw [hia]; exact is_any a W (by omega) hW
  have HI2 : Hid (∀ W, Calls Tryd.prog 16 #[.string a] W fun e w' => e = .returned (.bool ia) ∧ Below W.heap.size W w') := fun W => by rw [hia]; exact isR_any a W (by omega)
  have HU1 : Hid (∀ W, MaxL W → Calls Tryd.prog 22 #[.string a, .string b] W fun e w' => e = .returned (.bool un) ∧ Below W.heap.size W w') := fun W hW => by rw [hun]; exact under_any a b W (by omega) (by omega) hW
  have HU2 : Hid (∀ W, Calls Tryd.prog 23 #[.string a, .string b] W fun e w' => e = .returned (.bool un) ∧ Below W.heap.size W w') := fun W => by rw [hun]; exact underR_any a b W (by omega) (by omega)
  have HE1 : Hid (∀ W, MaxL W → Calls Tryd.prog 24 #[.string a] W fun e w' => e = .returned (.int .i64 (m : Int)) ∧ Below W.heap.size W w') := fun W hW => by rw [hmk, hks]; exact depthP_any a W (by omega) hW
  have HC1 : Hid (∀ W, MaxL W → Calls Tryd.prog 25 #[.string a] W fun e w' => e = .returned (.string co) ∧ Below W.heap.size W w') := fun W hW => by rw [hco]; exact code_any a W (by omega) hW
  have HC2 : Hid (∀ W, Calls Tryd.prog 26 #[.string a] W fun e w' => e = .returned (.string co) ∧ Below W.heap.size W w') := fun W => by rw [hco]; exact codeR_any a W (by omega)
  have HD1 : Hid (∀ W, MaxL W → Calls Tryd.prog 11 #[.string a] W fun e w' => e = .returned (.tuple #[.string de, .int .i64 0]) ∧ Below W.heap.size W w') := fun W hW => by
    have h9 := decode_any a W (by omega) hW
    rw [← hde, decErr, hdk] at h9
    exact h9
  have HD2 : Hid (∀ W, Calls Tryd.prog 12 #[.string a] W fun e w' => e = .returned (.tuple #[.string de, .bool true]) ∧ Below W.heap.size W w') := fun W => by
    have h9 := decR_any a W (by omega)
    rw [← hde, hdk] at h9
    exact h9
  have HS1 : Hid (∀ W, Calls Tryd.prog 13 #[.string a] W fun e w' => e = .returned (.bool sg) ∧ w' = W) := fun W => by rw [hsg]; exact segment_any a W
  have HS2 : Hid (∀ W, Calls Tryd.prog 14 #[.string a] W fun e w' => e = .returned (.bool sg) ∧ w' = W) := fun W => by rw [hsg]; exact segR_any a W (by unfold maxLen; omega)
  have HJ1 : Hid (∀ W, Below w.heap.size w W → Calls Tryd.prog 20 #[.slice q n cap] W fun e w' => e = .returned (.string jo) ∧ Below W.heap.size W w') := fun W hW => by rw [hjo]; exact joinP_any xs _ W (SlV.below HV.out hW)
  have HJ2 : Hid (∀ W, Below w.heap.size w W → Calls Tryd.prog 21 #[.slice q n cap] W fun e w' => e = .returned (.string jo) ∧ Below W.heap.size W w') := fun W hW => by rw [hjo]; exact joinR_go xs n cap q W hxn (SlV.below HV.out hW) (by omega) hz
  have HL1 : Hid (∀ W, MaxL W → Calls Tryd.prog 18 #[.string a] W fun e w' => ∃ v, e = .returned v ∧ SlS w' v ks ∧ Below W.heap.size W w') := fun W hW => by
    refine (split_any a W (by omega) hW).mono ?_
    rintro e w' ⟨v, he, ho, hb⟩
    rw [hks]
    exact ⟨v, he, own_sl ho, hb⟩
  have HL2 : Hid (∀ W, Calls Tryd.prog 19 #[.string a] W fun e w' => ∃ v, e = .returned v ∧ SlS w' v ks ∧ Below W.heap.size W w') := fun W => by rw [hks]; exact splitR_any a W (by omega)
  clear hM hv hxn hz hks hmk hsg hia hpp hpo hun hco hde hjo hdk ha hb hn
  have tkP1 : Nat := 0
  have tkP2 : Nat := 0
  have tkI1 : Nat := 0
  have tkI2 : Nat := 0
  have tkU1 : Nat := 0
  have tkU2 : Nat := 0
  have tkE1 : Nat := 0
  have tkC1 : Nat := 0
  have tkC2 : Nat := 0
  have tkD1 : Nat := 0
  have tkD2 : Nat := 0
  have tkL1 : Nat := 0
  have tkL2 : Nat := 0
  have tkL3 : Nat := 0
  go_enter Tryd.func3, Tryd.ntmps3
  go_wp2_with (first
    | (go_at_call 8; refine (known_any _ (HM.out.below hm.below)).mono ?_; rintro e w3 ⟨he, hb⟩; subst he; replace hm := hm.call hb; clear hb)
    | (go_at_call 9; clear tkP1; refine (HP1.out _ (HM.out.below hm.below)).mono ?_; rintro e w' ⟨he, hb⟩; subst he; replace hm := hm.call hb; clear hb)
    | (go_at_call 10; clear tkP2; refine (HP2.out _).mono ?_; rintro e w' ⟨he, hb⟩; subst he; replace hm := hm.call hb; clear hb)
    | (go_at_call 15; clear tkI1; refine (HI1.out _ (HM.out.below hm.below)).mono ?_; rintro e w' ⟨he, hb⟩; subst he; replace hm := hm.call hb; clear hb)
    | (go_at_call 16; clear tkI2; refine (HI2.out _).mono ?_; rintro e w' ⟨he, hb⟩; subst he; replace hm := hm.call hb; clear hb)
    | (go_at_call 22; clear tkU1; refine (HU1.out _ (HM.out.below hm.below)).mono ?_; rintro e w' ⟨he, hb⟩; subst he; replace hm := hm.call hb; clear hb)
    | (go_at_call 23; clear tkU2; refine (HU2.out _).mono ?_; rintro e w' ⟨he, hb⟩; subst he; replace hm := hm.call hb; clear hb)
    | (go_at_call 24; clear tkE1; refine (HE1.out _ (HM.out.below hm.below)).mono ?_; rintro e w' ⟨he, hb⟩; subst he; replace hm := hm.call hb; clear hb)
    | (go_at_call 25; clear tkC1; refine (HC1.out _ (HM.out.below hm.below)).mono ?_; rintro e w' ⟨he, hb⟩; subst he; replace hm := hm.call hb; clear hb)
    | (go_at_call 26; clear tkC2; refine (HC2.out _).mono ?_; rintro e w' ⟨he, hb⟩; subst he; replace hm := hm.call hb; clear hb)
    | (go_at_call 11; clear tkD1; refine (HD1.out _ (HM.out.below hm.below)).mono ?_; rintro e w' ⟨he, hb⟩; subst he; replace hm := hm.call hb; clear hb)
    | (go_at_call 12; clear tkD2; refine (HD2.out _).mono ?_; rintro e w' ⟨he, hb⟩; subst he; replace hm := hm.call hb; clear hb)
    | (go_at_call 13; refine (HS1.out _).mono ?_; rintro e w' ⟨he, hw⟩; subst he; subst hw)
    | (go_at_call 14; refine (HS2.out _).mono ?_; rintro e w' ⟨he, hw⟩; subst he; subst hw)
    | (go_at_call 20; refine (HJ1.out _ hm.below).mono ?_; rintro e w' ⟨he, hb⟩; subst he; replace hm := hm.call hb; clear hb)
    | (go_at_call 21; refine (HJ2.out _ hm.below).mono ?_; rintro e w' ⟨he, hb⟩; subst he; replace hm := hm.call hb; clear hb)
    | (go_at_call 18; clear tkL1; refine (HL1.out _ (HM.out.below hm.below)).mono ?_; rintro e wA ⟨v, he, ho, hb⟩; subst he; obtain ⟨p1, c1, hv, hcap⟩ := SlV.len ho; subst hv; have HO1 : Hid (SlS wA (.slice p1 m c1) ks) := by { have h9 := ho; rw [HNm.out ()] at h9; exact h9 }; rw [HNm.out ()]; clear ho hcap; replace hm := hm.call hb; clear hb)
    | (go_at_call 19; clear tkL2; refine (HL2.out _).mono ?_; rintro e wB ⟨v, he, ho, hb⟩; subst he; obtain ⟨p2, c2, hv, hcap⟩ := SlV.len ho; subst hv; have HO2 : Hid (SlS wB (.slice p2 m c2) ks) := by { have h9 := ho; rw [HNm.out ()] at h9; exact h9 }; rw [HNm.out ()]; clear ho hcap; have HO3 : Hid (SlS wB (.slice p1 m c1) ks) := SlV.below HO1.out hb; replace hm := hm.call hb; clear hb)
    | (go_at_call 17; refine (texts_same ks m c1 c2 p1 p2 (HNm.out ()) (by omega) _ HO3.out HO2.out).mono ?_; rintro e w' ⟨he, hb⟩; subst he; replace hm := hm.call hb; clear hb)
    | (go_at_call 19; clear tkL3; refine (HL2.out _).mono ?_; rintro e wD ⟨v, he, ho, hb⟩; subst he; obtain ⟨p4, c4, hv, hcap⟩ := SlV.len ho; subst hv; have HO4 : Hid (SlS wD (.slice p4 m c4) ks) := by { have h9 := ho; rw [HNm.out ()] at h9; exact h9 }; rw [HNm.out ()]; clear ho hcap; replace hm := hm.call hb; clear hb)
    | ((with_reducible refine at_opG (some 74) (.binOp .eql 9 (.tmp 71) (.tmp 73) 9) (some (19, true)) ?_); go_must (refine wpl_execG (.bool true) rfl (exec_eqsB jo jo true rfl rfl (eqs_yes _)) ?_))
    | ((with_reducible refine at_opG (some 79) (.binOp .eql 9 (.tmp 77) (.tmp 78) 9) (some (26, true)) ?_); go_must (refine wpl_execG (.bool true) rfl (exec_eqsB pp pp true rfl rfl (eqs_yes _)) ?_))
    | ((with_reducible refine at_opG (some 108) (.binOp .eql 9 (.tmp 105) (.tmp 107) 9) (some (53, true)) ?_); go_must (refine wpl_execG (.bool true) rfl (exec_eqsB co co true rfl rfl (eqs_yes _)) ?_))
    | ((with_reducible refine at_opG (some 113) (.binOp .eql 9 (.tmp 111) (.tmp 112) 9) (some (60, true)) ?_); go_must (refine wpl_execG (.bool true) rfl (exec_eqsB de de true rfl rfl (eqs_yes _)) ?_)))
  go_ret
  exact ⟨rfl, hm.below⟩
set_option maxHeartbeats 8000000 in
set_option maxRecDepth 100000 in
theorem ptells_no (a b : ByteArray) (xs : List ByteArray) (n cap : Nat) (q : Option Addr) (w : World) (ha : a.size ≤ 100) (hb : b.size ≤ 100) (hn : n ≤ 10) (hxn : xs.length = n) (hz : ∀ x ∈ xs, x.size ≤ maxLen) (hv : SlS w (.slice q n cap) xs) (hdk : decOk (bs a) = false) (hM : MaxL w) :
    Calls Tryd.prog 3 #[.string a, .string b, .slice q n cap] w fun e w' => e = .returned (.bool true) ∧ Below w.heap.size w w' := by
  have hm := Mem.start w
  have HM : Hid (MaxL w) := hM
  have hai : ¬ (100 : Int) < (a.size : Int) := by omega
  have hbi : ¬ (100 : Int) < (b.size : Int) := by omega
  have hni : ¬ (10 : Int) < (n : Int) := by omega
  obtain ⟨ks, hks⟩ : ∃ ks, ks = segsB a := ⟨_, rfl⟩
  obtain ⟨m, hmk⟩ : ∃ m, m = ks.length := ⟨_, rfl⟩
  have HNm : Hid (∀ _ : Unit, ks.length = m) := fun _ => hmk.symm
  have hm3 : m ≤ 3 := by rw [hmk, hks]; exact (segsB_ok a).len
  obtain ⟨sg, hsg⟩ : ∃ r, r = seg (bs a) := ⟨_, rfl⟩
  obtain ⟨ia, hia⟩ : ∃ r, r = isP (bs a) := ⟨_, rfl⟩
  obtain ⟨pp, hpp⟩ : ∃ r, r = mkS (parOf (bs a)) := ⟨_, rfl⟩
  obtain ⟨po, hpo⟩ : ∃ r, r = parOk (bs a) := ⟨_, rfl⟩
  obtain ⟨un, hun⟩ : ∃ r, r = undOf (bs a) (bs b) := ⟨_, rfl⟩
  obtain ⟨co, hco⟩ : ∃ r, r = mkS (codeOf (segsOf (bs a))) := ⟨_, rfl⟩
  obtain ⟨de, hde⟩ : ∃ r, r = mkS (decOf (bs a)) := ⟨_, rfl⟩
  obtain ⟨jo, hjo⟩ : ∃ r, r = mkS (jn 47 ((plOf xs).map bs)) := ⟨_, rfl⟩
  have HV : Hid (SlS w (.slice q n cap) xs) := hv
  have HP1 : Hid (∀ W, MaxL W → Calls Tryd.prog 9 #[.string a] W fun e w' => e = .returned (.tuple #[.string pp, .bool po]) ∧ Below W.heap.size W w') := fun W hW => by rw [hpp, hpo]; exact parentP_any a W (by omega) hW
  have HP2 : Hid (∀ W, Calls Tryd.prog 10 #[.string a] W fun e w' => e = .returned (.tuple #[.string pp, .bool po]) ∧ Below W.heap.size W w') := fun W => by rw [hpp, hpo]; exact parentR_any a W (by omega)
  have HI1 : Hid (∀ W, MaxL W → Calls Tryd.prog 15 #[.string a] W fun e w' => e = .returned (.bool ia) ∧ Below W.heap.size W w') := fun W hW => by rw [hia]; exact is_any a W (by omega) hW
  have HI2 : Hid (∀ W, Calls Tryd.prog 16 #[.string a] W fun e w' => e = .returned (.bool ia) ∧ Below W.heap.size W w') := fun W => by rw [hia]; exact isR_any a W (by omega)
  have HU1 : Hid (∀ W, MaxL W → Calls Tryd.prog 22 #[.string a, .string b] W fun e w' => e = .returned (.bool un) ∧ Below W.heap.size W w') := fun W hW => by rw [hun]; exact under_any a b W (by omega) (by omega) hW
  have HU2 : Hid (∀ W, Calls Tryd.prog 23 #[.string a, .string b] W fun e w' => e = .returned (.bool un) ∧ Below W.heap.size W w') := fun W => by rw [hun]; exact underR_any a b W (by omega) (by omega)
  have HE1 : Hid (∀ W, MaxL W → Calls Tryd.prog 24 #[.string a] W fun e w' => e = .returned (.int .i64 (m : Int)) ∧ Below W.heap.size W w') := fun W hW => by rw [hmk, hks]; exact depthP_any a W (by omega) hW
  have HC1 : Hid (∀ W, MaxL W → Calls Tryd.prog 25 #[.string a] W fun e w' => e = .returned (.string co) ∧ Below W.heap.size W w') := fun W hW => by rw [hco]; exact code_any a W (by omega) hW
  have HC2 : Hid (∀ W, Calls Tryd.prog 26 #[.string a] W fun e w' => e = .returned (.string co) ∧ Below W.heap.size W w') := fun W => by rw [hco]; exact codeR_any a W (by omega)
  have HD1 : Hid (∀ W, MaxL W → Calls Tryd.prog 11 #[.string a] W fun e w' => e = .returned (.tuple #[.string de, .int .i64 110]) ∧ Below W.heap.size W w') := fun W hW => by
    have h9 := decode_any a W (by omega) hW
    rw [← hde, decErr, hdk] at h9
    exact h9
  have HD2 : Hid (∀ W, Calls Tryd.prog 12 #[.string a] W fun e w' => e = .returned (.tuple #[.string de, .bool false]) ∧ Below W.heap.size W w') := fun W => by
    have h9 := decR_any a W (by omega)
    rw [← hde, hdk] at h9
    exact h9
  have HS1 : Hid (∀ W, Calls Tryd.prog 13 #[.string a] W fun e w' => e = .returned (.bool sg) ∧ w' = W) := fun W => by rw [hsg]; exact segment_any a W
  have HS2 : Hid (∀ W, Calls Tryd.prog 14 #[.string a] W fun e w' => e = .returned (.bool sg) ∧ w' = W) := fun W => by rw [hsg]; exact segR_any a W (by unfold maxLen; omega)
  have HJ1 : Hid (∀ W, Below w.heap.size w W → Calls Tryd.prog 20 #[.slice q n cap] W fun e w' => e = .returned (.string jo) ∧ Below W.heap.size W w') := fun W hW => by rw [hjo]; exact joinP_any xs _ W (SlV.below HV.out hW)
  have HJ2 : Hid (∀ W, Below w.heap.size w W → Calls Tryd.prog 21 #[.slice q n cap] W fun e w' => e = .returned (.string jo) ∧ Below W.heap.size W w') := fun W hW => by rw [hjo]; exact joinR_go xs n cap q W hxn (SlV.below HV.out hW) (by omega) hz
  have HL1 : Hid (∀ W, MaxL W → Calls Tryd.prog 18 #[.string a] W fun e w' => ∃ v, e = .returned v ∧ SlS w' v ks ∧ Below W.heap.size W w') := fun W hW => by
    refine (split_any a W (by omega) hW).mono ?_
    rintro e w' ⟨v, he, ho, hb⟩
    rw [hks]
    exact ⟨v, he, own_sl ho, hb⟩
  have HL2 : Hid (∀ W, Calls Tryd.prog 19 #[.string a] W fun e w' => ∃ v, e = .returned v ∧ SlS w' v ks ∧ Below W.heap.size W w') := fun W => by rw [hks]; exact splitR_any a W (by omega)
  clear hM hv hxn hz hks hmk hsg hia hpp hpo hun hco hde hjo hdk ha hb hn
  have tkP1 : Nat := 0
  have tkP2 : Nat := 0
  have tkI1 : Nat := 0
  have tkI2 : Nat := 0
  have tkU1 : Nat := 0
  have tkU2 : Nat := 0
  have tkE1 : Nat := 0
  have tkC1 : Nat := 0
  have tkC2 : Nat := 0
  have tkD1 : Nat := 0
  have tkD2 : Nat := 0
  have tkL1 : Nat := 0
  have tkL2 : Nat := 0
  have tkL3 : Nat := 0
  go_enter Tryd.func3, Tryd.ntmps3
  go_wp2_with (first
    | (go_at_call 8; refine (known_any _ (HM.out.below hm.below)).mono ?_; rintro e w3 ⟨he, hb⟩; subst he; replace hm := hm.call hb; clear hb)
    | (go_at_call 9; clear tkP1; refine (HP1.out _ (HM.out.below hm.below)).mono ?_; rintro e w' ⟨he, hb⟩; subst he; replace hm := hm.call hb; clear hb)
    | (go_at_call 10; clear tkP2; refine (HP2.out _).mono ?_; rintro e w' ⟨he, hb⟩; subst he; replace hm := hm.call hb; clear hb)
    | (go_at_call 15; clear tkI1; refine (HI1.out _ (HM.out.below hm.below)).mono ?_; rintro e w' ⟨he, hb⟩; subst he; replace hm := hm.call hb; clear hb)
    | (go_at_call 16; clear tkI2; refine (HI2.out _).mono ?_; rintro e w' ⟨he, hb⟩; subst he; replace hm := hm.call hb; clear hb)
    | (go_at_call 22; clear tkU1; refine (HU1.out _ (HM.out.below hm.below)).mono ?_; rintro e w' ⟨he, hb⟩; subst he; replace hm := hm.call hb; clear hb)
    | (go_at_call 23; clear tkU2; refine (HU2.out _).mono ?_; rintro e w' ⟨he, hb⟩; subst he; replace hm := hm.call hb; clear hb)
    | (go_at_call 24; clear tkE1; refine (HE1.out _ (HM.out.below hm.below)).mono ?_; rintro e w' ⟨he, hb⟩; subst he; replace hm := hm.call hb; clear hb)
    | (go_at_call 25; clear tkC1; refine (HC1.out _ (HM.out.below hm.below)).mono ?_; rintro e w' ⟨he, hb⟩; subst he; replace hm := hm.call hb; clear hb)
    | (go_at_call 26; clear tkC2; refine (HC2.out _).mono ?_; rintro e w' ⟨he, hb⟩; subst he; replace hm := hm.call hb; clear hb)
    | (go_at_call 11; clear tkD1; refine (HD1.out _ (HM.out.below hm.below)).mono ?_; rintro e w' ⟨he, hb⟩; subst he; replace hm := hm.call hb; clear hb)
    | (go_at_call 12; clear tkD2; refine (HD2.out _).mono ?_; rintro e w' ⟨he, hb⟩; subst he; replace hm := hm.call hb; clear hb)
    | (go_at_call 13; refine (HS1.out _).mono ?_; rintro e w' ⟨he, hw⟩; subst he; subst hw)
    | (go_at_call 14; refine (HS2.out _).mono ?_; rintro e w' ⟨he, hw⟩; subst he; subst hw)
    | (go_at_call 20; refine (HJ1.out _ hm.below).mono ?_; rintro e w' ⟨he, hb⟩; subst he; replace hm := hm.call hb; clear hb)
    | (go_at_call 21; refine (HJ2.out _ hm.below).mono ?_; rintro e w' ⟨he, hb⟩; subst he; replace hm := hm.call hb; clear hb)
    | (go_at_call 18; clear tkL1; refine (HL1.out _ (HM.out.below hm.below)).mono ?_; rintro e wA ⟨v, he, ho, hb⟩; subst he; obtain ⟨p1, c1, hv, hcap⟩ := SlV.len ho; subst hv; have HO1 : Hid (SlS wA (.slice p1 m c1) ks) := by { have h9 := ho; rw [HNm.out ()] at h9; exact h9 }; rw [HNm.out ()]; clear ho hcap; replace hm := hm.call hb; clear hb)
    | (go_at_call 19; clear tkL2; refine (HL2.out _).mono ?_; rintro e wB ⟨v, he, ho, hb⟩; subst he; obtain ⟨p2, c2, hv, hcap⟩ := SlV.len ho; subst hv; have HO2 : Hid (SlS wB (.slice p2 m c2) ks) := by { have h9 := ho; rw [HNm.out ()] at h9; exact h9 }; rw [HNm.out ()]; clear ho hcap; have HO3 : Hid (SlS wB (.slice p1 m c1) ks) := SlV.below HO1.out hb; replace hm := hm.call hb; clear hb)
    | (go_at_call 17; refine (texts_same ks m c1 c2 p1 p2 (HNm.out ()) (by omega) _ HO3.out HO2.out).mono ?_; rintro e w' ⟨he, hb⟩; subst he; replace hm := hm.call hb; clear hb)
    | (go_at_call 19; clear tkL3; refine (HL2.out _).mono ?_; rintro e wD ⟨v, he, ho, hb⟩; subst he; obtain ⟨p4, c4, hv, hcap⟩ := SlV.len ho; subst hv; have HO4 : Hid (SlS wD (.slice p4 m c4) ks) := by { have h9 := ho; rw [HNm.out ()] at h9; exact h9 }; rw [HNm.out ()]; clear ho hcap; replace hm := hm.call hb; clear hb)
    | ((with_reducible refine at_opG (some 74) (.binOp .eql 9 (.tmp 71) (.tmp 73) 9) (some (19, true)) ?_); go_must (refine wpl_execG (.bool true) rfl (exec_eqsB jo jo true rfl rfl (eqs_yes _)) ?_))
    | ((with_reducible refine at_opG (some 79) (.binOp .eql 9 (.tmp 77) (.tmp 78) 9) (some (26, true)) ?_); go_must (refine wpl_execG (.bool true) rfl (exec_eqsB pp pp true rfl rfl (eqs_yes _)) ?_))
    | ((with_reducible refine at_opG (some 108) (.binOp .eql 9 (.tmp 105) (.tmp 107) 9) (some (53, true)) ?_); go_must (refine wpl_execG (.bool true) rfl (exec_eqsB co co true rfl rfl (eqs_yes _)) ?_))
    | ((with_reducible refine at_opG (some 113) (.binOp .eql 9 (.tmp 111) (.tmp 112) 9) (some (60, true)) ?_); go_must (refine wpl_execG (.bool true) rfl (exec_eqsB de de true rfl rfl (eqs_yes _)) ?_)))
  go_ret
  exact ⟨rfl, hm.below⟩
set_option maxRecDepth 100000 in
theorem ptells_walk (a b : ByteArray) (xs : List ByteArray) (v : Value) (w : World) (hz : ∀ x ∈ xs, x.size ≤ maxLen) (hv : SlS w v xs) (hM : MaxL w) :
    Calls Tryd.prog 3 #[.string a, .string b, v] w fun e w' => e = .returned (.bool true) ∧ Below w.heap.size w w' := by
  obtain ⟨q, cap, rfl, _⟩ := SlV.len hv
  by_cases ha : a.size ≤ 100
  · by_cases hb : b.size ≤ 100
    · by_cases hn : xs.length ≤ 10
      · cases hd : decOk (bs a) with
        | true => exact ptells_yes a b xs _ cap q w ha hb hn rfl hz hv hd hM
        | false => exact ptells_no a b xs _ cap q w ha hb hn rfl hz hv hd hM
      · exact ptells_n a b _ cap q w ha hb (by omega) hM
    · exact ptells_b a b _ cap q w ha (by omega) hM
  · exact ptells_a a b _ cap q w (by omega) hM
end Go.Proofs.YtikmmheknfljkaaDoor
