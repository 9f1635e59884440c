/- The document's way to read a code. -/
import Derived.Test.YtikmmheknfljkaaDoorPaRefE
namespace Go.Proofs.YtikmmheknfljkaaDoor
open Go Go.RowKit
set_option maxRecDepth 100000 in
theorem jn_length_any (c d : UInt8) : ∀ ks : List (List UInt8), (jn c ks).length = (jn d ks).length
  | [] => rfl
  | [k] => by rw [jn_one, jn_one]
  | k :: q :: r => by rw [jn_cons, jn_cons, List.length_append, List.length_append, List.length_cons, List.length_cons, jn_length_any c d (q :: r)]
set_option maxRecDepth 100000 in
theorem last_at {l : List UInt8} {n : Nat} (hn : l.length = n + 1) {b : UInt8} (hb : l[n]? = some b) : l = l.take n ++ [b] ∧ l.getLast? = some b ∧ l.dropLast = l.take n := by
  have h1 : l = l.take n ++ [b] := by
    have h2 := List.take_add_one (l := l) (i := n)
    rw [hb] at h2
    conv => lhs; rw [← List.take_of_length_le (l := l) (i := n + 1) (by omega)]
    exact h2
  refine ⟨h1, ?_, ?_⟩
  · rw [h1]; simp
  · rw [List.dropLast_eq_take, hn, Nat.add_sub_cancel]
set_option maxHeartbeats 4000000 in
set_option maxRecDepth 100000 in
theorem decR_any (s : ByteArray) (w : World) (hs : s.size ≤ 150) :
    Calls Tryd.prog 12 #[.string s] w fun e w' => e = .returned (.tuple #[.string (mkS (decOf (bs s))), .bool (decOk (bs s))]) ∧ Below w.heap.size w w' := by
  have hm := Mem.start w
  by_cases h0 : s = ⟨#[]⟩
  · subst h0
    go_enter Tryd.func12, Tryd.ntmps12
    go_wp2_with (first
      | ((with_reducible refine at_op (some 6) (.binOp .eql 9 (.tmp 5) (.const (.string { data := #[] })) 9) ?_); go_must (refine wpl_execG (.bool true) rfl (exec_eqsB ⟨#[]⟩ ⟨#[]⟩ true rfl rfl (eqs_yes _)) ?_)))
    go_ret2
    exact ⟨rfl, hm.below⟩
  · have HE : Hid (∀ _ : Unit, ¬ s = ⟨#[]⟩) := fun _ => h0
    have hne : bs s ≠ [] := fun h => h0 (by rw [← mkS_bs s, h]; rfl)
    have hemp : (bs s).isEmpty = false := by
      cases h : bs s with
      | nil => exact absurd h hne
      | cons _ _ => rfl
    obtain ⟨k, hk⟩ : ∃ k, s.size = k + 1 := ⟨s.size - 1, by have := List.length_pos_iff.2 hne; rw [bs_length] at this; omega⟩
    have hl : (bs s).length = k + 1 := by rw [bs_length]; exact hk
    obtain ⟨b, hb, hb2⟩ := byte_at s k (by omega)
    obtain ⟨h1, h2, h3⟩ := last_at hl hb2
    obtain ⟨x, hx⟩ : ∃ x : Int, x = (b.toNat : Int) := ⟨_, rfl⟩
    have HB : Hid (∀ _ : Unit, ∃ c, s.data[k]? = some c ∧ (c.toNat : Int) = x) := fun _ => ⟨b, hb, hx.symm⟩
    have hki : (k : Int) < (s.size : Int) := by omega
    have hk0 : (0 : Int) ≤ (k : Int) := by omega
    have hwr : IntKind.i64.wrap ((s.size : Int) - 1) = (k : Int) := (wrapi _ (by omega) (by omega)).trans (by omega)
    have HKS : Hid (k ≤ s.size) := by show k ≤ s.size; omega
    by_cases hz : b = 0
    · have hx0 : (x != 0) = false := by rw [hx, hz]; rfl
      obtain ⟨z, hzz⟩ : ∃ z, z = mkS ((bs s).take k) := ⟨_, rfl⟩
      have HZ : Hid (∀ _ : Unit, bs z = (bs s).take k) := fun _ => by rw [hzz, bs_mkS]
      have hz1 : z.size ≤ 150 := by rw [hzz, mkS_size, List.length_take]; omega
      obtain ⟨xs, hxs⟩ : ∃ xs, xs = cutB 0 z := ⟨_, rfl⟩
      have HXL : Hid (xs.length ≤ 200) := by show _ ≤ _; rw [hxs]; have := cutB_len 0 z; omega
      have HXZ : Hid (∀ y ∈ xs, y.size ≤ 200) := fun y hy => by rw [hxs] at hy; have := cutB_size 0 z y hy; omega
      obtain ⟨p, hp⟩ : ∃ p, p = mkS (jn 47 (xs.map bs)) := ⟨_, rfl⟩
      have hxb : xs.map bs = cut 0 (bs z) := by rw [hxs, cutB_bs]
      have hpz : p.size ≤ 1000 := by rw [hp, mkS_size, hxb, jn_length_any 47 0, jn_cut, bs_length]; omega
      have HPP : Hid (∀ _ : Unit, mkS (jn 47 (xs.map bs)) = p) := fun _ => hp.symm
      have hbp : bs p = jn 47 (cut 0 (bs z)) := by rw [hp, bs_mkS, hxb]
      obtain ⟨cp, hcp⟩ : ∃ c, c = mkS (codeOf (segsOf (bs p))) := ⟨_, rfl⟩
      have HPA : Hid (∀ W, Calls Tryd.prog 35 #[.string z, .int .u8 0] W fun e w' => ∃ v, e = .returned v ∧ SlS w' v xs ∧ Below W.heap.size W w') := fun W => by rw [hxs]; exact partsR_any 0 z 0 rfl W (by omega)
      have HCO : Hid (∀ W, Calls Tryd.prog 26 #[.string p] W fun e w' => e = .returned (.string cp) ∧ Below W.heap.size W w') := fun W => by rw [hcp]; exact codeR_any p W hpz
      have hd : decOk (bs s) = okSegs (cut 0 (bs z)) := by rw [decOk, hemp, h2, h3, hz, hzz, bs_mkS]; simp
      have hdr := dec_ref (m := bs z)
      have hms : bs z ++ [0] = bs s := by rw [hzz, bs_mkS, ← hz]; exact h1.symm
      have hdo : decOk (bs s) = true → decOf (bs s) = bs p := fun h => by rw [decOf, hemp, h, hbp, h3, hzz, bs_mkS]; rfl
      have hdn : decOk (bs s) = false → decOf (bs s) = [] := fun h => by rw [decOf, h]; simp
      have HD : Hid (∀ _ : Unit, (decOk (bs s) = true ↔ (p ≠ ⟨#[]⟩ ∧ cp = s)) ∧ (decOk (bs s) = true → mkS (decOf (bs s)) = p) ∧ (decOk (bs s) = false → decOf (bs s) = [])) := fun _ => by
        refine ⟨?_, fun h => by rw [hdo h, mkS_bs], hdn⟩
        rw [hd, hdr, ← hbp, hms]
        constructor
        · rintro ⟨q1, q2⟩
          exact ⟨fun h => q1 (by rw [h]; rfl), by rw [hcp, q2, mkS_bs]⟩
        · rintro ⟨q1, q2⟩
          refine ⟨fun h => q1 (by rw [← mkS_bs p, h]; rfl), ?_⟩
          rw [← q2, hcp, bs_mkS]
      clear h0 hne hemp hl hb hb2 h1 h2 h3 hx hz hzz hz1 hxs hp hxb hpz hbp hcp hd hdr hms hdo hdn hk hs
      by_cases hpe : p = ⟨#[]⟩
      · have HPE : Hid (∀ _ : Unit, (p == ⟨#[]⟩) = true) := fun _ => by rw [hpe]; exact eqs_yes _
        have HNO : Hid (∀ _ : Unit, decOk (bs s) = false) := fun _ => by
          cases hd : decOk (bs s) with
          | false => rfl
          | true => exact absurd hpe ((HD.out ()).1.1 hd).1
        clear hpe
        go_enter Tryd.func12, Tryd.ntmps12
        go_wp2_with (first
          | ((with_reducible refine at_op (some 6) (.binOp .eql 9 (.tmp 5) (.const (.string { data := #[] })) 9) ?_); go_must (refine wpl_execG (.bool false) rfl (exec_eqsB s ⟨#[]⟩ false rfl rfl (eqs_no (HE.out ()))) ?_))
          | ((with_reducible refine at_op (some 11) (.index 9 (.tmp 7) (.tmp 10)) ?_); refine wpl_ixs un_strT s k x rfl rfl rfl (HB.out ()) ?_)
          | ((with_reducible refine at_op (some 17) (.slice 9 (.tmp 13) none (some (.tmp 16)) none) ?_); go_must (refine wpl_execG (.string z) rfl (exec_shiS s z k HKS.out (HZ.out ()) rfl rfl) ?_))
          | (go_at_call 35; refine (HPA.out _).mono ?_; rintro e w9 ⟨v, he, ho, hb⟩; subst he; have HO : Hid (SlS w9 v xs) := ho; clear ho; replace hm := hm.call hb; clear hb)
          | (go_at_call 34; refine (joinedR_any 47 xs _ _ HO.out HXL.out HXZ.out).mono ?_; rintro e w' ⟨he, hb⟩; rw [HPP.out ()] at he; subst he; replace hm := hm.call hb; clear hb)
          | ((with_reducible refine at_op (some 21) (.binOp .eql 9 (.tmp 20) (.const (.string { data := #[] })) 9) ?_); go_must (refine wpl_execG (.bool true) rfl (exec_eqsB p ⟨#[]⟩ true rfl rfl (HPE.out ())) ?_)))
        go_ret2
        exact ⟨by rw [HNO.out (), (HD.out ()).2.2 (HNO.out ())]; rfl, hm.below⟩
      · have HPE : Hid (∀ _ : Unit, (p == ⟨#[]⟩) = false) := fun _ => eqs_no hpe
        by_cases hcs : cp = s
        · have HCS : Hid (∀ _ : Unit, (cp == s) = true) := fun _ => by rw [hcs]; exact eqs_yes _
          have HYE : Hid (∀ _ : Unit, decOk (bs s) = true) := fun _ => (HD.out ()).1.2 ⟨hpe, hcs⟩
          clear hpe hcs
          go_enter Tryd.func12, Tryd.ntmps12
          go_wp2_with (first
            | ((with_reducible refine at_op (some 6) (.binOp .eql 9 (.tmp 5) (.const (.string { data := #[] })) 9) ?_); go_must (refine wpl_execG (.bool false) rfl (exec_eqsB s ⟨#[]⟩ false rfl rfl (eqs_no (HE.out ()))) ?_))
            | ((with_reducible refine at_op (some 11) (.index 9 (.tmp 7) (.tmp 10)) ?_); refine wpl_ixs un_strT s k x rfl rfl rfl (HB.out ()) ?_)
            | ((with_reducible refine at_op (some 17) (.slice 9 (.tmp 13) none (some (.tmp 16)) none) ?_); go_must (refine wpl_execG (.string z) rfl (exec_shiS s z k HKS.out (HZ.out ()) rfl rfl) ?_))
            | (go_at_call 35; refine (HPA.out _).mono ?_; rintro e w9 ⟨v, he, ho, hb⟩; subst he; have HO : Hid (SlS w9 v xs) := ho; clear ho; replace hm := hm.call hb; clear hb)
            | (go_at_call 34; refine (joinedR_any 47 xs _ _ HO.out HXL.out HXZ.out).mono ?_; rintro e w' ⟨he, hb⟩; rw [HPP.out ()] at he; subst he; replace hm := hm.call hb; clear hb)
            | ((with_reducible refine at_op (some 21) (.binOp .eql 9 (.tmp 20) (.const (.string { data := #[] })) 9) ?_); go_must (refine wpl_execG (.bool false) rfl (exec_eqsB p ⟨#[]⟩ false rfl rfl (HPE.out ())) ?_))
            | (go_at_call 26; refine (HCO.out _).mono ?_; rintro e w' ⟨he, hb⟩; subst he; replace hm := hm.call hb; clear hb)
            | ((with_reducible refine at_opG (some 26) (.binOp .neq 9 (.tmp 24) (.tmp 25) 9) (some (2, false)) ?_); go_must (refine wpl_execG (.bool (!true)) rfl (exec_neB cp s true (HCS.out ()) rfl rfl) ?_)))
          go_ret2
          exact ⟨by rw [HYE.out (), (HD.out ()).2.1 (HYE.out ())]; rfl, hm.below⟩
        · have HCS : Hid (∀ _ : Unit, (cp == s) = false) := fun _ => eqs_no hcs
          have HNO : Hid (∀ _ : Unit, decOk (bs s) = false) := fun _ => by
            cases hd : decOk (bs s) with
            | false => rfl
            | true => exact absurd ((HD.out ()).1.1 hd).2 hcs
          clear hpe hcs
          go_enter Tryd.func12, Tryd.ntmps12
          go_wp2_with (first
            | ((with_reducible refine at_op (some 6) (.binOp .eql 9 (.tmp 5) (.const (.string { data := #[] })) 9) ?_); go_must (refine wpl_execG (.bool false) rfl (exec_eqsB s ⟨#[]⟩ false rfl rfl (eqs_no (HE.out ()))) ?_))
            | ((with_reducible refine at_op (some 11) (.index 9 (.tmp 7) (.tmp 10)) ?_); refine wpl_ixs un_strT s k x rfl rfl rfl (HB.out ()) ?_)
            | ((with_reducible refine at_op (some 17) (.slice 9 (.tmp 13) none (some (.tmp 16)) none) ?_); go_must (refine wpl_execG (.string z) rfl (exec_shiS s z k HKS.out (HZ.out ()) rfl rfl) ?_))
            | (go_at_call 35; refine (HPA.out _).mono ?_; rintro e w9 ⟨v, he, ho, hb⟩; subst he; have HO : Hid (SlS w9 v xs) := ho; clear ho; replace hm := hm.call hb; clear hb)
            | (go_at_call 34; refine (joinedR_any 47 xs _ _ HO.out HXL.out HXZ.out).mono ?_; rintro e w' ⟨he, hb⟩; rw [HPP.out ()] at he; subst he; replace hm := hm.call hb; clear hb)
            | ((with_reducible refine at_op (some 21) (.binOp .eql 9 (.tmp 20) (.const (.string { data := #[] })) 9) ?_); go_must (refine wpl_execG (.bool false) rfl (exec_eqsB p ⟨#[]⟩ false rfl rfl (HPE.out ())) ?_))
            | (go_at_call 26; refine (HCO.out _).mono ?_; rintro e w' ⟨he, hb⟩; subst he; replace hm := hm.call hb; clear hb)
            | ((with_reducible refine at_opG (some 26) (.binOp .neq 9 (.tmp 24) (.tmp 25) 9) (some (2, false)) ?_); go_must (refine wpl_execG (.bool (!false)) rfl (exec_neB cp s false (HCS.out ()) rfl rfl) ?_)))
          go_ret2
          exact ⟨by rw [HNO.out (), (HD.out ()).2.2 (HNO.out ())]; rfl, hm.below⟩
    · have hx0 : (x != 0) = true := by
        rw [bne_iff_ne, hx]
        intro he
        exact hz (UInt8.toNat_inj.1 (by have : b.toNat = 0 := by omega
                                        rw [this]; rfl))
      have HD : Hid (∀ _ : Unit, decOk (bs s) = false ∧ decOf (bs s) = []) := fun _ => by
        have hd : decOk (bs s) = false := by rw [decOk, hemp, h2]; simp [hz]
        exact ⟨hd, by rw [decOf, hd]; simp⟩
      clear h0 hne hemp hl hb hb2 h1 h2 h3 hx hz hk hs
      go_enter Tryd.func12, Tryd.ntmps12
      go_wp2_with (first
        | ((with_reducible refine at_op (some 6) (.binOp .eql 9 (.tmp 5) (.const (.string { data := #[] })) 9) ?_); go_must (refine wpl_execG (.bool false) rfl (exec_eqsB s ⟨#[]⟩ false rfl rfl (eqs_no (HE.out ()))) ?_))
        | ((with_reducible refine at_op (some 11) (.index 9 (.tmp 7) (.tmp 10)) ?_); refine wpl_ixs un_strT s k x rfl rfl rfl (HB.out ()) ?_))
      go_ret2
      exact ⟨by rw [(HD.out ()).1, (HD.out ()).2]; rfl, hm.below⟩
end Go.Proofs.YtikmmheknfljkaaDoor
