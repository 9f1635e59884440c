/- The document's reader of terms, in plain words. -/
import Derived.Test.YtbphmcbflnaenaaDoorTmReadR
namespace Go.Proofs.YtbphmcbflnaenaaDoor
open Go Go.RowKit
def rtwo (g : Nat → List UInt8 → Option (Tm × List UInt8 × Nat)) (k : Int) (n : Nat) (s : List UInt8) : Option (Tm × List UInt8 × Nat) :=
  match g n s with
  | none => none
  | some (a, s2, n2) => if Lib.hasPrefix s2 [44] then
      match g n2 (s2.drop 1) with
      | none => none
      | some (b, s3, n3) => if Lib.hasPrefix s3 [41] then some (mkT k 0 [a, b], s3.drop 1, n3) else none
    else none
def rfT : Nat → Nat → List UInt8 → Option (Tm × List UInt8 × Nat)
  | 0, _, _ => none
  | _ + 1, _, [] => none
  | f + 1, n, c :: s => if 60 < n + 1 then none else
    if c = 110 ∨ c = 107 ∨ c = 100 then
      match numV ((ldg s).take 2) with
      | none => none
      | some v => if c = 110 then some (mkT 1 v [], s.drop ((ldg s).take 2).length, n + 1) else if c = 107 then some (mkT 2 v [], s.drop ((ldg s).take 2).length, n + 1) else
        if Lib.hasPrefix (s.drop ((ldg s).take 2).length) [40] then
          match rfT f (n + 1) ((s.drop ((ldg s).take 2).length).drop 1) with
          | none => none
          | some (t, s3, n3) => if Lib.hasPrefix s3 [41] then some (mkT 5 v [t], s3.drop 1, n3) else none
        else none
    else if c = 115 then (if Lib.hasPrefix (c :: s) [115, 101, 97, 108, 40] then rtwo (rfT f) 3 (n + 1) ((c :: s).drop 5) else none)
    else if Lib.hasPrefix (c :: s) [40] then rtwo (rfT f) 4 (n + 1) ((c :: s).drop 1) else none
def SoundR (g : Nat → List UInt8 → Option (Tm × List UInt8 × Nat)) : Prop := ∀ n s t s2 n2, g n s = some (t, s2, n2) → s = txt t ++ s2 ∧ okT t = true ∧ n2 = n + cnt t ∧ n2 ≤ 60
set_option maxRecDepth 100000 in
theorem ldg_take2 (s : List UInt8) : s.take ((ldg s).take 2).length = (ldg s).take 2 := by
  have h := ldg_take s
  rw [List.length_take]
  by_cases h2 : 2 ≤ (ldg s).length
  · rw [Nat.min_eq_left h2]
    have := congrArg (List.take 2) h
    rw [List.take_take, Nat.min_eq_left h2] at this
    exact this
  · rw [Nat.min_eq_right (by omega), List.take_of_length_le (l := ldg s) (by omega)]
    exact h
set_option maxRecDepth 100000 in
theorem rtwo_sound {g : Nat → List UInt8 → Option (Tm × List UInt8 × Nat)} (hg : SoundR g) {k : Int} (hk : k = 3 ∨ k = 4) {n : Nat} {s : List UInt8} {t : Tm} {s2 : List UInt8} {n2 : Nat} (h : rtwo g k n s = some (t, s2, n2)) : hdT k 0 ++ 40 :: s = txt t ++ s2 ∧ okT t = true ∧ n2 + 1 = n + cnt t ∧ n2 ≤ 60 := by
  unfold rtwo at h
  split at h
  · cases h
  · rename_i a sa na ha
    split at h
    · rename_i hp
      split at h
      · cases h
      · rename_i b sb nb2 hb
        split at h
        · rename_i hq
          simp only [Option.some.injEq, Prod.mk.injEq] at h
          obtain ⟨rfl, rfl, rfl⟩ := h
          obtain ⟨a1, a2, a3, a4⟩ := hg _ _ _ _ _ ha
          obtain ⟨b1, b2, b3, b4⟩ := hg _ _ _ _ _ hb
          have hkn : kn k = 2 := by unfold kn; rw [if_pos hk]
          have hof : okF k 0 2 = true := by
            rcases hk with rfl | rfl <;> decide
          refine ⟨?_, by rw [ok_mk]; simp [hof, a2, b2], by rw [cnt_mk]; simp; omega, b4⟩
          rw [txt_k (by rw [hkn]; decide) (by rw [hkn]; rfl), a1, hp_one hp, b1, hp_one hq]
          simp [txtK]
        · cases h
    · cases h
set_option maxRecDepth 100000 in
theorem rfT_sound : ∀ f, SoundR (rfT f) := by
  intro f
  induction f with
  | zero => intro n s t s2 n2 h; cases h
  | succ f ih =>
    intro n s t s2 n2 h
    match s, h with
    | [], h => cases h
    | c :: s, h =>
      rw [rfT] at h
      split at h
      · cases h
      · rename_i hn
        split at h
        · rename_i hc
          split at h
          · cases h
          · rename_i v hv
            have hd : ∀ b ∈ (ldg s).take 2, isDig b = true := fun b hb => ldg_all s b (List.mem_of_mem_take hb)
            obtain ⟨e1, e2, e3⟩ := numV_dig hd hv
            have hs : s = dig v ++ s.drop ((ldg s).take 2).length := by
              have h1 := List.take_append_drop ((ldg s).take 2).length s
              rw [ldg_take2, ← e1] at h1
              rw [← e1]
              exact h1.symm
            split at h
            · rename_i hc1
              simp only [Option.some.injEq, Prod.mk.injEq] at h
              obtain ⟨rfl, rfl, rfl⟩ := h
              refine ⟨?_, by rw [ok_mk]; simp [okF, kn, nb]; omega, by rw [cnt_mk]; simp, by omega⟩
              rw [txt_0 (by decide)]
              show c :: s = 110 :: dig v ++ _
              rw [hc1, List.cons_append, ← hs]
            · split at h
              · rename_i hc1
                simp only [Option.some.injEq, Prod.mk.injEq] at h
                obtain ⟨rfl, rfl, rfl⟩ := h
                refine ⟨?_, by rw [ok_mk]; simp [okF, kn, nb]; omega, by rw [cnt_mk]; simp, by omega⟩
                rw [txt_0 (by decide)]
                show c :: s = 107 :: dig v ++ _
                rw [hc1, List.cons_append, ← hs]
              · rename_i hc1 hc2
                have hc3 : c = 100 := by
                  rcases hc with h | h | h
                  · exact absurd h hc1
                  · exact absurd h hc2
                  · exact h
                split at h
                · rename_i hp
                  split at h
                  · cases h
                  · rename_i u s3 n3 hu
                    split at h
                    · rename_i hq
                      simp only [Option.some.injEq, Prod.mk.injEq] at h
                      obtain ⟨rfl, rfl, rfl⟩ := h
                      obtain ⟨a1, a2, a3, a4⟩ := ih _ _ _ _ _ hu
                      refine ⟨?_, by rw [ok_mk]; simp [okF, kn, nb, a2]; omega, by rw [cnt_mk]; simp; omega, a4⟩
                      rw [txt_k (by decide) rfl, hdT]
                      show c :: s = (100 :: dig v) ++ txtK 40 [u] ++ [41] ++ _
                      rw [hc3, hs, hp_one hp, a1, hp_one hq]
                      simp [txtK]
                    · cases h
                · cases h
        · split at h
          · rename_i hc1
            split at h
            · rename_i hp
              obtain ⟨b1, b2, b3, b4⟩ := rtwo_sound ih (Or.inl rfl) h
              refine ⟨?_, b2, by omega, b4⟩
              rw [← b1, hp_app hp]; rfl
            · cases h
          · split at h
            · rename_i hp
              obtain ⟨b1, b2, b3, b4⟩ := rtwo_sound ih (Or.inr rfl) h
              refine ⟨?_, b2, by omega, b4⟩
              rw [← b1, hp_one hp]; rfl
            · cases h
def FullR (b : Nat) (g : Nat → List UInt8 → Option (Tm × List UInt8 × Nat)) : Prop := ∀ t, okT t = true → ∀ n s, n + cnt t ≤ 60 → cnt t ≤ b → noD s → g n (txt t ++ s) = some (t, s, n + cnt t)
set_option maxRecDepth 100000 in
theorem noD_44 (s : List UInt8) : noD (44 :: s) := noD_cons rfl
set_option maxRecDepth 100000 in
theorem noD_41 (s : List UInt8) : noD (41 :: s) := noD_cons rfl
set_option maxRecDepth 100000 in
theorem rtwo_full {b : Nat} {g : Nat → List UInt8 → Option (Tm × List UInt8 × Nat)} (hg : FullR b g) (k : Int) {x y : Tm} (hx : okT x = true) (hy : okT y = true) {n : Nat} {s : List UInt8} (hn : n + cnt x + cnt y ≤ 60) (hb : cnt x + cnt y ≤ b) : rtwo g k n (txt x ++ 44 :: (txt y ++ 41 :: s)) = some (mkT k 0 [x, y], s, n + cnt x + cnt y) := by
  unfold rtwo
  rw [hg x hx n _ (by omega) (by omega) (noD_44 _)]
  simp only [hp_mark, if_true, List.drop_succ_cons, List.drop_zero]
  rw [hg y hy _ _ (by omega) (by omega) (noD_41 _)]
  simp only [hp_mark, if_true, List.drop_succ_cons, List.drop_zero]
set_option maxRecDepth 100000 in
theorem num_full {n : Int} (h0 : 0 ≤ n) (h1 : n ≤ 99) {s : List UInt8} (hs : noD s) : (ldg (dig n ++ s)).take 2 = dig n ∧ numV ((ldg (dig n ++ s)).take 2) = some n := by
  have h : (ldg (dig n ++ s)).take 2 = dig n := by
    rw [ldg_app (dig_isDig h0 h1) hs, List.take_of_length_le (dig_len n).2]
  exact ⟨h, by rw [h, numV_of h0 h1]⟩
set_option maxRecDepth 100000 in
theorem rfT_full : ∀ f, FullR f (rfT f) := by
  intro f
  induction f with
  | zero => intro t _ n s _ h; have := cnt_pos t; omega
  | succ f ih =>
    intro t ho n s hn hb hs
    obtain ⟨k, v, l, rfl⟩ : ∃ k n l, t = mkT k n l := ⟨t.k, t.n, t.l, t.eta.symm⟩
    rw [ok_mk, Bool.and_eq_true] at ho
    rw [cnt_mk] at hn hb ⊢
    have hl := okF_len ho.1
    have hk := okF_k ho.1
    have hv := okF_n ho.1
    have : k = 1 ∨ k = 2 ∨ k = 3 ∨ k = 4 ∨ k = 5 := by omega
    rcases this with rfl | rfl | rfl | rfl | rfl
    · have hl0 : l = [] := List.eq_nil_of_length_eq_zero hl
      subst hl0
      obtain ⟨e1, e2⟩ := num_full hv.1 hv.2 hs
      rw [txt_0 (by decide)]
      show rfT (f + 1) n (110 :: (dig v ++ s)) = _
      rw [rfT, if_neg (by simp at hn; omega), if_pos (Or.inl rfl), e2]
      simp [e1]
    · have hl0 : l = [] := List.eq_nil_of_length_eq_zero hl
      subst hl0
      obtain ⟨e1, e2⟩ := num_full hv.1 hv.2 hs
      rw [txt_0 (by decide)]
      show rfT (f + 1) n (107 :: (dig v ++ s)) = _
      rw [rfT, if_neg (by simp at hn; omega), if_pos (Or.inr (Or.inl rfl)), e2]
      simp [e1]
    · have hv0 := okF_n0 ho.1 (by decide)
      subst hv0
      match l, hl, ho with
      | [x, y], _, ho =>
        simp only [List.all_cons, List.all_nil, Bool.and_true, Bool.and_eq_true] at ho
        simp only [List.map_cons, List.map_nil, List.sum_cons, List.sum_nil] at hn hb ⊢
        rw [txt_k (by decide) rfl]
        have e : hdT 3 0 ++ txtK 40 [x, y] ++ [41] ++ s = [115, 101, 97, 108, 40] ++ (txt x ++ 44 :: (txt y ++ 41 :: s)) := by simp [hdT, wd, nb, txtK]
        rw [e]
        show rfT (f + 1) n (115 :: ([101, 97, 108, 40] ++ _)) = _
        rw [rfT, if_neg (by omega), if_neg (by decide), if_pos rfl, if_pos (show Lib.hasPrefix (115 :: ([101, 97, 108, 40] ++ _)) [115, 101, 97, 108, 40] = true from hp_of [115, 101, 97, 108, 40] _)]
        show rtwo (rfT f) 3 (n + 1) (txt x ++ 44 :: (txt y ++ 41 :: s)) = _
        rw [rtwo_full ih 3 ho.2.1 ho.2.2 (by omega) (by omega)]
        congr 3
        omega
    · have hv0 := okF_n0 ho.1 (by decide)
      subst hv0
      match l, hl, ho with
      | [x, y], _, ho =>
        simp only [List.all_cons, List.all_nil, Bool.and_true, Bool.and_eq_true] at ho
        simp only [List.map_cons, List.map_nil, List.sum_cons, List.sum_nil] at hn hb ⊢
        rw [txt_k (by decide) rfl]
        have e : hdT 4 0 ++ txtK 40 [x, y] ++ [41] ++ s = 40 :: (txt x ++ 44 :: (txt y ++ 41 :: s)) := by simp [hdT, wd, nb, txtK]
        rw [e, rfT, if_neg (by omega), if_neg (by decide), if_neg (by decide), if_pos (hp_mark 40 _)]
        show rtwo (rfT f) 4 (n + 1) (txt x ++ 44 :: (txt y ++ 41 :: s)) = _
        rw [rtwo_full ih 4 ho.2.1 ho.2.2 (by omega) (by omega)]
        congr 3
        omega
    · match l, hl, ho with
      | [x], _, ho =>
        simp only [List.all_cons, List.all_nil, Bool.and_true] at ho
        simp only [List.map_cons, List.map_nil, List.sum_cons, List.sum_nil] at hn hb ⊢
        rw [txt_k (by decide) rfl]
        have e : hdT 5 v ++ txtK 40 [x] ++ [41] ++ s = 100 :: (dig v ++ 40 :: (txt x ++ 41 :: s)) := by simp [hdT, wd, nb, txtK]
        obtain ⟨e1, e2⟩ := num_full (s := 40 :: (txt x ++ 41 :: s)) hv.1 hv.2 (noD_cons rfl)
        rw [e, rfT, if_neg (by omega), if_pos (Or.inr (Or.inr rfl)), e2, e1]
        simp only [List.drop_append_of_le_length (Nat.le_refl _), List.drop_length, List.nil_append]
        rw [if_neg (by decide), if_neg (by decide), if_pos (hp_mark 40 _), List.drop_succ_cons, List.drop_zero, ih x ho.2 (n + 1) _ (by omega) (by omega) (noD_41 _)]
        simp only [hp_mark, if_true, List.drop_succ_cons, List.drop_zero]
        congr 3
        omega
set_option maxRecDepth 100000 in
/-- Both readers read the same texts. -/
theorem parse_same (s : List UInt8) : (∃ t n, rfT 61 0 s = some (t, [], n)) ↔ (∃ t r, rdT 60 60 s = some (t, [], r)) := by
  constructor
  · rintro ⟨t, n, h⟩
    obtain ⟨h1, h2, h3, h4⟩ := rfT_sound _ _ _ _ _ _ h
    rw [List.append_nil] at h1
    have := rdT_full 60 t h2 60 [] (by omega) (by omega) noD_nil
    rw [List.append_nil, ← h1] at this
    exact ⟨_, _, this⟩
  · rintro ⟨t, r, h⟩
    obtain ⟨h1, h2, h3⟩ := rdT_sound _ _ _ _ _ _ h
    rw [List.append_nil] at h1
    have := rfT_full 61 t h2 0 [] (by omega) (by omega) noD_nil
    rw [List.append_nil, ← h1] at this
    exact ⟨_, _, this⟩
set_option maxRecDepth 100000 in
theorem parse_eq {s : List UInt8} {t u : Tm} {n r : Nat} (h : rfT 61 0 s = some (t, [], n)) (h2 : rdT 60 60 s = some (u, [], r)) : t = u := by
  obtain ⟨h1, h3, _⟩ := rfT_sound _ _ _ _ _ _ h
  obtain ⟨h4, h5, _⟩ := rdT_sound _ _ _ _ _ _ h2
  rw [List.append_nil] at h1 h4
  exact txt_inj h3 h5 (h1.symm.trans h4)
end Go.Proofs.YtbphmcbflnaenaaDoor
