/- Package term: what Parse hands out lies in plain blocks of its own, each list in one. -/
import Derived.Test.YtbiinchmbclmcaaDoorTmCopyX
namespace Go.Proofs.YtbiinchmbclmcaaDoor
open Go Go.RowKit
def UKeeps (lo hi : Nat) (w w' : World) : Prop := ∀ b, FN lo hi b → b < w.heap.size → w'.heap[b]? = w.heap[b]?
set_option maxRecDepth 100000 in
theorem UKeeps.upd {lo hi g : Nat} {w w' : World} (hu : Upd g w w') (hg : ∀ b, FN lo hi b → b ≠ g) : UKeeps lo hi w w' := fun b hb hl => hu.block b hl (hg b hb)
set_option maxRecDepth 100000 in
theorem UX.lt {lo hi : Nat} {w : World} {v : Value} {l : List Tm} {xs : List Nat} (h : SlX w v l xs) {b : Nat} (hb : b ∈ xs) : b < w.heap.size := by
  obtain ⟨ca, h1, _⟩ := h.plain b hb
  have _ : lo = lo := rfl
  have _ : hi = hi := rfl
  exact (Array.getElem?_eq_some_iff.1 h1).1
set_option maxRecDepth 100000 in
theorem UX.keep {lo hi : Nat} {w w' : World} {v : Value} {l : List Tm} (h : UX lo hi w v l) (hk : UKeeps lo hi w w') : UX lo hi w' v l := by
  obtain ⟨xs, h1, h2, h3⟩ := h
  exact ⟨xs, h1.keep (fun b hb => hk b (h3 b hb) (UX.lt (lo := lo) (hi := hi) h1 hb)), h2, h3⟩
set_option maxRecDepth 100000 in
theorem UX.below {lo hi : Nat} {w w' : World} {v : Value} {l : List Tm} (h : UX lo hi w v l) (hb : Below w.heap.size w w') : UX lo hi w' v l := h.keep (fun b _ hl => hb.block b hl)
set_option maxRecDepth 100000 in
theorem UX.weak {lo hi lo' hi' : Nat} {w : World} {v : Value} {l : List Tm} (h : UX lo hi w v l) (hF : ∀ b, FN lo hi b → FN lo' hi' b) : UX lo' hi' w v l := by
  obtain ⟨xs, h1, h2, h3⟩ := h
  exact ⟨xs, h1, h2, fun b hb => hF b (h3 b hb)⟩
set_option maxRecDepth 100000 in
theorem UX.nil {lo hi : Nat} {w : World} : UX lo hi w (.slice none 0 0) [] := ⟨[], SlX.nil, List.nodup_nil, fun b hb => by cases hb⟩
set_option maxRecDepth 100000 in
theorem CX.nil {base : Nat} {w : World} {v : Value} {xs : List Nat} : CX base w v [] [] xs := ⟨[], ⟨rfl, rfl⟩, List.nodup_nil, fun b hb => by cases hb⟩
set_option maxRecDepth 100000 in
theorem CX.updL {base g : Nat} {w w' : World} {v : Value} {l : List Tm} {cs : List Value} {xs : List Nat} (h : CX base w v l cs xs) (hu : Upd g w w') (hg : g < base) : CX base w' v l cs xs := by
  obtain ⟨ys, hx, hn, hy⟩ := h
  refine ⟨ys, hx.keep (fun t _ => KX.keep t) (fun b hb => hu.block b (hy b hb).2.1 (fun he => by have := (hy b hb).1; omega)), hn, fun b hb => ⟨(hy b hb).1, Nat.lt_of_lt_of_le (hy b hb).2.1 hu.size, (hy b hb).2.2⟩⟩
set_option maxRecDepth 100000 in
theorem endX {base m : Nat} {xs : List Nat} {w : World} {v : Value} {cs : List Value} {l : List Tm} (ho : w.ownsRow base 24 3 v m cs) (hm : l.length = m) (htc : CX base w v l cs xs) : UX base w.heap.size w v l := by
  obtain ⟨ys, hx, hn, hy⟩ := htc
  obtain ⟨hl, h2⟩ := ho
  rcases h2 with ⟨rfl, hn0⟩ | ⟨b, cap, cur, rfl, hb, hh, hnc, _, hcs, htk⟩
  · have : l = [] := List.eq_nil_of_length_eq_zero (by omega)
    subst this
    exact UX.nil
  · have hlt : b < w.heap.size := (Array.getElem?_eq_some_iff.1 hh).1
    by_cases h0 : 0 < l.length
    · subst hm
      refine ⟨b :: ys, SlX.of_block h0 hnc hh (fun j u hu => ?_) hx, List.nodup_cons.2 ⟨fun hm => (hy b hm).2.2.1 rfl, hn⟩, fun q hq => ?_⟩
      · rw [← htk] at hu
        have hj : j < l.length * 3 := by
          have := (List.getElem?_eq_some_iff.1 hu).1
          simp at this
          omega
        rw [List.getElem?_take_of_lt hj] at hu
        simpa using hu
      · rcases List.mem_cons.1 hq with rfl | hq
        · exact ⟨hb, hlt⟩
        · exact ⟨(hy q hq).1, (hy q hq).2.1⟩
    · have h00 : l = [] := List.eq_nil_of_length_eq_zero (by omega)
      subst h00
      subst hm
      exact ⟨[], ⟨cap, Nat.zero_le _, Or.inl ⟨rfl, rfl, _, rfl⟩⟩, List.nodup_nil, fun b hb => by cases hb⟩
set_option maxRecDepth 100000 in
theorem pushedX {g : Nat} {w wr w5 w6 w9 w10 : World} {vb v9 s6 : Value} {i : Nat} {cs : List Value} {l' : List Tm} {t : Tm} {R2 : List UInt8} {r2 : Int} (hgl : g < w.heap.size) (hu : Upd g w wr) (ho : wr.ownsRow w.heap.size 24 3 vb i cs) (htc : CX w.heap.size wr vb l' cs []) (hu5 : Upd g wr w5)
    (hs6 : UX w5.heap.size w6.heap.size w6 s6 t.l) (h69 : Below w6.heap.size w6 w9 ∧ Upd g wr w9) (hg9 : w9.grownBy w10 vb.ownBlock) (hl9 : v9.ownBlock = vb.ownBlock ∨ v9.ownBlock = some w9.heap.size) (hr : Row w9 g (rdv R2 r2) 53) :
    CX w.heap.size w10 v9 (l' ++ [t]) (cs ++ tcs t s6) [] ∧ Row w10 g (rdv R2 r2) 53 ∧ Upd g w w10 := by
  have ho9 := own_upd ho h69.2 hgl
  refine ⟨?_, row_grown hr hgl ho9 hg9, upd_grown (hu.trans h69.2) (Nat.le_refl _) ho9 hg9⟩
  obtain ⟨ys, hx0, hn, hy0⟩ := htc
  have hx := hx0.keep (w' := w9) (fun t _ => KX.keep t) (fun b hb => h69.2.block b (hy0 b hb).2.1 (fun he => by have := (hy0 b hb).1; omega))
  have hys : ∀ b ∈ ys, b < wr.heap.size := fun b hb => (hy0 b hb).2.1
  have s9 := h69.2.size
  have hy : ∀ b ∈ ys, w.heap.size ≤ b ∧ b < w9.heap.size ∧ some b ≠ vb.ownBlock ∧ b ∉ ([] : List Nat) := fun b hb => ⟨(hy0 b hb).1, Nat.lt_of_lt_of_le (hy0 b hb).2.1 s9, (hy0 b hb).2.2⟩
  obtain ⟨zs, hz, hzn, hzb⟩ := hs6.below h69.1
  have own_lt : ∀ b, some b = vb.ownBlock → b < wr.heap.size := fun b he => (own_block ho he.symm).2
  have s1 := hu5.size
  have s2 := h69.1.size
  have s3 := hg9.size
  have s4 := hu.size
  have hnz : ∀ b ∈ zs, some b ≠ vb.ownBlock := fun b hb he => by
    have h1 := own_lt b he
    have h2 := (hzb b hb).1
    omega
  have ky : ∀ b ∈ ys, w10.heap[b]? = w9.heap[b]? := fun b hb => hg9.block b (hy b hb).2.1 (hy b hb).2.2.1
  have kz : ∀ b ∈ zs, w10.heap[b]? = w9.heap[b]? := fun b hb => hg9.block b (by have h1 := (hzb b hb).2; omega) (hnz b hb)
  have hne9 : ∀ b, b < w9.heap.size → some b ≠ vb.ownBlock → some b ≠ v9.ownBlock := fun b h1 h2 => by
    rcases hl9 with h | h
    · rw [h]; exact h2
    · rw [h]; intro he; have := Option.some.inj he; omega
  refine ⟨ys ++ zs, (hx.keep (fun t _ => KX.keep t) ky).snoc ((KX_iff t s6 zs).2 (hz.keep kz)), List.nodup_append.2 ⟨hn, hzn, fun a ha b hb he => ?_⟩, fun b hb => ?_⟩
  · have h1 := hys a ha
    have h2 := (hzb b hb).1
    omega
  · rcases List.mem_append.1 hb with hb' | hb'
    · have h1 := (hy b hb').2.1
      exact ⟨(hy b hb').1, by omega, hne9 b h1 (hy b hb').2.2.1, by simp⟩
    · have h1 := hzb b hb'
      exact ⟨by omega, by omega, hne9 b (by omega) (hnz b hb'), by simp⟩
def TermYesX (f : Nat) : Prop := ∀ (g room : Nat) (R : List UInt8) (w : World), R.length ≤ 100000 → room ≤ 100 → room ≤ f → Esx w → 10 ≤ g → Row w g (rdv R room) 53 → ∀ t R1 r1, rdT f room R = some (t, R1, r1) →
  Calls Tryd.prog 22 #[.pointer (some ⟨g, 0, none⟩)] w fun e w' => ∃ s, e = .returned (.tuple #[.agg (tcs t s).toArray, .bool true]) ∧ UX w.heap.size w'.heap.size w' s t.l ∧ Row w' g (rdv R1 r1) 53 ∧ Upd g w w'
set_option maxHeartbeats 8000000 in
set_option maxRecDepth 100000 in
theorem kids_someX {f : Nat} (HT : TermYesX f) (n : Nat) (hn : n ≤ 100) (g room : Nat) (R : List UInt8) (w : World) (hRl : R.length ≤ 100000) (hrm : room ≤ 100) (hrf : room ≤ f) (hE : Esx w) (hg : 10 ≤ g) (hr : Row w g (rdv R room) 53) (l : List Tm) (R1 : List UInt8) (r1 : Nat) (hk : rdK (rdT f) n 40 R room = some (l, R1, r1)) :
    Calls Tryd.prog 30 #[.pointer (some ⟨g, 0, none⟩), .int .i64 (n : Int)] w fun e w' => ∃ v, e = .returned (.tuple #[v, .bool (Lib.hasPrefix R1 [41])]) ∧ UX w.heap.size w'.heap.size w' v l ∧ Row w' g (rdv (Lib.trimPrefix R1 [41]) r1) 53 ∧ Upd g w w' := by
  have HTY : Hid (TermYesX f) := HT
  have HES : Hid (Esx w) := hE
  have HGL : Hid (g < w.heap.size) := hr.lt
  have HR0 : Hid (Row w g (rdv R room) 53) := hr
  have HRD : Hid (∀ _ : Unit, rdK (rdT f) n 40 R room = some (l, R1, r1)) := fun _ => hk
  clear hE hr hk HT
  go_enter Tryd.func30, Tryd.ntmps30
  go_wp2_with (first
    | ((with_reducible refine at_op (some 11) (.makeSlice 22 (.const (.int .i64 0)) (.tmp 10)) ?_); go_must (refine wpl_makeT rfl n rfl rfl hn (Nat.le_refl w.heap.size) ?_); intro w1 g1 ho1 hb1))
  have HU1 : Hid (Upd g w w1) := Upd.of_below hb1
  have HO1 : Hid (w1.ownsRow w.heap.size 24 3 (.slice (some ⟨g1, 0, none⟩) 0 n) 0 []) := ho1
  have HR1 : Hid (Row w1 g (rdv R room) 53) := HR0.out.below' hb1
  clear ho1 hb1
  go_loopw [13, 6, 7] (fun vi vm vk wr => ∃ (i r' : Nat) (R' : List UInt8) (l' l2 : List Tm) (cs : List Value) (vb : Value), i ≤ n ∧ vi = .int .i64 (i : Int) ∧ vm = .string (mkS [mkn i]) ∧ vb = vk ∧ Hid (wr.ownsRow w.heap.size 24 3 vb i cs) ∧ Hid (CX w.heap.size wr vb l' cs []) ∧ l'.length = i ∧ Hid (Row wr g (rdv R' r') 53) ∧ Hid (Upd g w wr) ∧ R'.length ≤ R.length ∧ r' ≤ room ∧ Hid (∀ _ : Unit, l = l' ++ l2 ∧ rdK (rdT f) (n - i) (mkn i) R' r' = some (l2, R1, r1))) (fun vi _ _ _ => n - (intOf vi).toNat)
  case atStart => exact ⟨0, room, R, [], l, [], _, by omega, rfl, rfl, rfl, HO1.out, CX.nil, rfl, HR1.out, HU1.out, Nat.le_refl _, Nat.le_refl _, fun _ => ⟨rfl, HRD.out ()⟩⟩
  case round =>
    clear HO1 HR1 HU1
    obtain ⟨i, r', R', l', l2, cs, vb, hi, rfl, rfl, hvb, HO, HTC, HLI, HRW, HU, hRle, hrle, HQ0⟩ := hrel
    subst hvb
    by_cases hlt : i < n
    · have hki : (i : Int) < (n : Int) := by omega
      have hi3 : i ≤ 100000 := by omega
      obtain ⟨j, hj⟩ : ∃ j, n - i = j + 1 := ⟨n - i - 1, by omega⟩
      have hq := (HQ0.out ()).2
      rw [hj, rdK] at hq
      have hm := Mem.enter HRW.out
      have HR1l : Hid (R'.length ≤ 100000) := by show _ ≤ _; omega
      have HMK : Hid (∀ _ : Unit, mkn (i + 1) = 44 ∧ n - (i + 1) = j) := fun _ => ⟨if_neg (by omega), by omega⟩
      have HLI1 : Hid (∀ _ : Unit, (l'.length = i)) := fun _ => HLI
      split at hq
      · rename_i hp
        split at hq
        · cases hq
        · rename_i t R2 r2 h3
          split at hq
          · cases hq
          · rename_i l3 R4 r4 h4
            simp only [Option.some.injEq, Prod.mk.injEq] at hq
            obtain ⟨hq1, hq2, hq3⟩ := hq
            have HNX : Hid (∀ _ : Unit, l = (l' ++ [t]) ++ l3 ∧ rdK (rdT f) j 44 R2 r2 = some (l3, R1, r1)) := fun _ => ⟨by rw [(HQ0.out ()).1, ← hq1]; simp, by rw [h4, hq2, hq3]⟩
            clear hq1 hq2 hq3 h4 HLI hj
            have HSK : Hid (∀ W, Row W g (rdv R' (r' : Int)) 53 → Calls Tryd.prog 33 #[.pointer (some ⟨g, 0, none⟩), .string (mkS [mkn i])] W fun e w' => e = .returned (.bool true) ∧ Row w' g (rdv (R'.drop 1) (r' : Int)) 53 ∧ Upd g W w') := fun W hW => skip_yes hp r' g W hW
            have hdl : (R'.drop 1).length ≤ R'.length := by rw [List.length_drop]; omega
            have hle := rdT_le h3
            have HTM : Hid (∀ W, Upd g wr W → Row W g (rdv (R'.drop 1) r') 53 → Calls Tryd.prog 22 #[.pointer (some ⟨g, 0, none⟩)] W fun e w' => ∃ s, e = .returned (.tuple #[.agg (tcs t s).toArray, .bool true]) ∧ UX W.heap.size w'.heap.size w' s t.l ∧ Row w' g (rdv R2 r2) 53 ∧ Upd g W w') := fun W hW hr => HTY.out g r' (R'.drop 1) W (by have := HR1l.out; omega) (by omega) (by omega) ((HES.out.upd HU.out hg).upd hW hg) hg hr t R2 r2 h3
            have HLE : Hid (∀ _ : Unit, R2.length ≤ R.length ∧ r2 ≤ room) := fun _ => by omega
            clear hp h3 hdl hle
            go_wp2_with (first
              | (go_at_call 33; go_must (refine (HSK.out _ (hm.get 0 rfl)).mono ?_); rintro e w5 ⟨he, hr, hu⟩; subst he; replace hm := hm.upd 0 rfl hu hr; have HU5 : Hid (Upd g wr w5) := hm.toUpd; clear hr hu)
              | (go_at_call 22; go_must (refine (HTM.out _ hm.toUpd (hm.get 0 rfl)).mono ?_); rintro e w6 ⟨s6, he, hs6, hr, hu⟩; subst he; have HS6 : Hid (UX w5.heap.size w6.heap.size w6 s6 t.l) := hs6; obtain ⟨p6, c6, hv6, _⟩ := hs6.len; subst hv6; replace hm := hm.upd 0 rfl hu hr; have HU6 : Hid (Upd g wr w6) := hm.toUpd; have HR6 : Hid (Row w6 g (rdv R2 r2) 53) := hm.get 0 rfl; clear hm; have hm := Mem.start w6; have HZ6 : Hid (w5.heap.size ≤ w6.heap.size) := hu.size; clear hr hu hs6)
              | ((with_reducible refine at_op (some 8) (.alloc 24) ?_); go_must (refine wpl_alloc _ zero_term hm ?_); clear hm; intro w7 g7 hm)
              | ((with_reducible refine at_op none (.store 24 (.tmp 8) (.tmp 22)) ?_); go_must (refine wpl_stw 0 (tcs t (.slice p6 t.l.length c6)) hm rfl rfl rfl 3 sz_term rfl rfl (oneTcs _ _ _ _) ?_); clear hm; intro w8 hm)
              | ((with_reducible refine at_op (some 27) (.load 24 (.tmp 8)) ?_); go_must (refine wpl_ldw 0 hm rfl rfl _ Tryd.underlying24 rfl 3 sz_term rfl ?_))
              | ((with_reducible refine at_op (some 28) (.buildSlice 22 1 #[(0, .tmp 27)]) ?_); go_must (refine wpl_bslT t (.slice p6 t.l.length c6) rfl rfl hm ?_); clear hm; intro w9 g9 hb9 hm; clear hb9)
              | ((with_reducible refine at_op (some 29) (.call { callee := .builtin .append, args := #[.tmp 26, .tmp 28], argTypes := #[22, 22] }) ?_); go_must (refine wpl_appV (.agg [.int .i64 0, .int .i64 0, .slice none 0 0].toArray) 3 40 rfl un_terms made_term rfl (by omega) (by omega) (own_upd HO.out (HU6.out.trans (Upd.of_below hm.below)) HGL.out) (Nat.le_trans HU.out.size (Nat.le_trans HU6.out.size hm.size)) rfl rfl (hm.get 0 rfl) rfl (oneTcs _ _ _ _) hi3 ?_); intro v9 w10 ho9 hg9 hl9; have HX9 : Hid (w10.ownsRow w.heap.size 24 3 v9 (i + 1) (cs ++ tcs t (.slice p6 t.l.length c6))) := ho9; have HQ : Hid (CX w.heap.size w10 v9 (l' ++ [t]) (cs ++ tcs t (.slice p6 t.l.length c6)) [] ∧ Row w10 g (rdv R2 r2) 53 ∧ Upd g w w10) := pushedX HGL.out HU.out HO.out HTC.out HU5.out HS6.out ⟨hm.below, HU6.out.trans (Upd.of_below hm.below)⟩ hg9 hl9 (HR6.out.below' hm.below); clear ho9 hg9 hl9 hm))
            go_roundw
            case rel => exact ⟨i + 1, r2, R2, l' ++ [t], l3, cs ++ tcs t (.slice p6 t.l.length c6), _, by omega, by go_num, by rw [(HMK.out ()).1]; rfl, rfl, HX9.out, HQ.out.1, by rw [List.length_append, HLI1.out ()]; rfl, HQ.out.2.1, HQ.out.2.2, (HLE.out ()).1, (HLE.out ()).2, fun _ => by rw [(HMK.out ()).1, (HMK.out ()).2]; exact HNX.out ()⟩
            case measure => simp [intOf]; omega
      · cases hq
    · have hin : n = i := by omega
      subst hin
      have hki : ¬ (n : Int) < (n : Int) := by omega
      have hq := HQ0.out ()
      rw [Nat.sub_self, rdK] at hq
      obtain ⟨hl, hq⟩ := hq
      simp only [Option.some.injEq, Prod.mk.injEq] at hq
      obtain ⟨rfl, rfl, rfl⟩ := hq
      rw [List.append_nil] at hl
      subst hl
      have HLN : Hid (∀ _ : Unit, l.length = n) := fun _ => HLI
      obtain ⟨b, hb⟩ : ∃ b, b = Lib.hasPrefix R' [41] := ⟨_, rfl⟩
      have HSK : Hid (∀ W, Row W g (rdv R' (r' : Int)) 53 → Calls Tryd.prog 33 #[.pointer (some ⟨g, 0, none⟩), .string (mkS [41])] W fun e w' => e = .returned (.bool b) ∧ Row w' g (rdv (Lib.trimPrefix R' [41]) (r' : Int)) 53 ∧ Upd g W w') := fun W hW => by rw [hb]; exact skip_any R' [41] r' g W hW
      have HBB : Hid (∀ _ : Unit, Lib.hasPrefix R' [41] = b) := fun _ => hb.symm
      have hm := Mem.enter HRW.out
      clear hb HLI HQ0
      go_wp2_with (first
        | (go_at_call 33; go_must (refine (HSK.out _ (hm.get 0 rfl)).mono ?_); rintro e w5 ⟨he, hr, hu⟩; subst he; replace hm := hm.upd 0 rfl hu hr; clear hr hu))
      go_ret2
      refine ⟨_, by rw [HBB.out ()]; rfl, ?_, hm.get 0 rfl, HU.out.trans hm.toUpd⟩
      exact endX (own_upd HO.out hm.toUpd HGL.out) (HLN.out ()) (HTC.out.updL hm.toUpd HGL.out)
set_option maxHeartbeats 2000000 in
set_option maxRecDepth 100000 in
theorem term_leafX (g room q : Nat) (hq : room = q + 1) (R : List UInt8) (w : World) (hRl : R.length ≤ 100000) (hrm : room ≤ 100) (hE : Esx w) (hg : 10 ≤ g) (hr : Row w g (rdv R room) 53) (k : Int) (hk : kdOf R = k) (hb : nb k = true) (n : Int) (hn : numV (ldg (R.drop (wd k).length)) = some n) (hk0 : kn k = 0) :
    Calls Tryd.prog 22 #[.pointer (some ⟨g, 0, none⟩)] w fun e w' => ∃ s, e = .returned (.tuple #[.agg (tcs (mkT k n []) s).toArray, .bool true]) ∧ UX w.heap.size w'.heap.size w' s [] ∧ Row w' g (rdv ((R.drop (wd k).length).drop (ldg (R.drop (wd k).length)).length) q) 53 ∧ Upd g w w' := by
  have hm := Mem.enter hr
  have hr0 : ((room : Int) == 0) = false := beq_int_no _ _ (by omega)
  have hw : IntKind.i64.wrap ((room : Int) - 1) = (q : Int) := (wrapi _ (by omega) (by omega)).trans (by omega)
  have hkr : 1 ≤ k ∧ k ≤ 5 := by rw [← hk]; exact kdOf_range R
  have HKD : Hid (∀ W, Row W g (rdv R q) 53 → Calls Tryd.prog 28 #[.pointer (some ⟨g, 0, none⟩)] W fun e w' => e = .returned (.int .i64 k) ∧ Row w' g (rdv (R.drop (wd k).length) q) 53 ∧ Upd g W w') := fun W hW => by
    have := kind_any R q g W hW
    rw [hk] at this
    exact this
  have HF1 : Hid (∀ _ : Unit, ∀ v ∈ [Value.string (mkS (wd k)), .bool true, .int .i64 (kn k : Int)], v.oneCell' = true) := fun _ => by have h9 := fmv_one k; rw [fmv_get hkr, hb] at h9; exact h9
  have h91 := hE
  have h92 := hg
  clear h91 h92
  have HFO : Hid (∀ W, Calls Tryd.prog 24 #[.int .i64 k] W fun e w' => e = .returned (.tuple #[.agg [Value.string (mkS (wd k)), .bool true, .int .i64 (kn k : Int)].toArray, .bool true]) ∧ Below W.heap.size W w') := fun W => by
    have := formOf_any k W
    rw [fmv_get hkr, decide_eq_true hkr, hb] at this
    exact this
  have hdl : (R.drop (wd k).length).length ≤ 100000 := by rw [List.length_drop]; omega
  have HNU : Hid (∀ W, Upd g w W → Row W g (rdv (R.drop (wd k).length) q) 53 → Calls Tryd.prog 29 #[.pointer (some ⟨g, 0, none⟩)] W fun e w' => e = .returned (.tuple #[.int .i64 n, .bool true]) ∧ Row w' g (rdv ((R.drop (wd k).length).drop (ldg (R.drop (wd k).length)).length) q) 53 ∧ Upd g W w') := fun W _ hr => number_yes hn q g W hdl hr
  have hz : ¬ (kn k : Int) > 0 := by omega
  clear hE hr hk hb hn hkr hdl hRl hrm hq hk0
  go_enter Tryd.func22, Tryd.ntmps22
  go_wp2_with (first
    | ((with_reducible refine at_op (some 2) (.alloc 24) ?_); go_must (refine wpl_alloc _ zero_term hm ?_); clear hm; intro w1 g2 hm)
    | ((with_reducible refine at_op (some 11) (.load 3 (.tmp 10)) ?_); go_must (refine wpl_execG (.int .i64 (room : Int)) rfl (exec_ldx (.int .i64 (room : Int)) (Mem.cell hm 1 rfl 1) rfl ag_int) ?_))
    | ((with_reducible refine at_op (some 17) (.load 3 (.tmp 16)) ?_); go_must (refine wpl_execG (.int .i64 (room : Int)) rfl (exec_ldx (.int .i64 (room : Int)) (Mem.cell hm 1 rfl 1) rfl ag_int) ?_))
    | ((with_reducible refine at_op none (.store 3 (.tmp 20) (.tmp 18)) ?_); go_must (refine wpl_stc 1 1 (.int .i64 (q : Int)) hm rfl rfl rfl sz_int (by show 1 < 2; omega) rfl rfl ?_); clear hm; intro w3 hm)
    | (go_at_call 28; go_must (refine (HKD.out _ (hm.get 1 rfl)).mono ?_); rintro e w4 ⟨he, hr, hu⟩; subst he; replace hm := hm.upd 1 rfl hu hr; clear hr hu)
    | ((with_reducible refine at_op (some 4) (.alloc 24) ?_); go_must (refine wpl_alloc _ zero_term hm ?_); clear hm; intro w5 g4 hm)
    | ((with_reducible refine at_op none (.store 24 (.tmp 4) (.tmp 23)) ?_); go_must (refine wpl_stw 0 ([.int .i64 k, .int .i64 0, .slice none 0 0]) hm rfl rfl rfl 3 sz_term rfl rfl ((by intro v hv; simp only [List.mem_cons, List.not_mem_nil, or_false] at hv; rcases hv with rfl | rfl | rfl <;> rfl)) ?_); clear hm; intro w6 hm)
    | ((with_reducible refine at_op (some 26) (.load 3 (.tmp 25)) ?_); go_must (refine wpl_execG (.int .i64 k) rfl (exec_ldx (.int .i64 k) (Mem.cell hm 0 rfl 0) rfl ag_int) ?_))
    | (go_at_call 24; go_must (refine (HFO.out _).mono ?_); rintro e w7 ⟨he, hb⟩; subst he; replace hm := hm.call hb; clear hb)
    | ((with_reducible refine at_op (some 5) (.alloc 57) ?_); go_must (refine wpl_alloc _ zero_form hm ?_); clear hm; intro w8 g5 hm)
    | ((with_reducible refine at_op none (.store 57 (.tmp 5) (.tmp 28)) ?_); go_must (refine wpl_stw 0 ([Value.string (mkS (wd k)), .bool true, .int .i64 (kn k : Int)]) hm rfl rfl rfl 3 sz_form rfl rfl ((HF1.out ())) ?_); clear hm; intro w9 hm)
    | ((with_reducible refine at_op (some 31) (.load 4 (.tmp 30)) ?_); go_must (refine wpl_execG (.bool true) rfl (exec_ldx (.bool true) (Mem.cell hm 0 rfl 1) rfl ag_bool) ?_))
    | ((with_reducible refine at_op (some 42) (.load 3 (.tmp 41)) ?_); go_must (refine wpl_execG (.int .i64 (kn k : Int)) rfl (exec_ldx (.int .i64 (kn k : Int)) (Mem.cell hm 0 rfl 2) rfl ag_int) ?_))
    | (go_at_call 29; go_must (refine (HNU.out _ hm.toUpd (hm.get 3 rfl)).mono ?_); rintro e w10 ⟨he, hr, hu⟩; subst he; replace hm := hm.upd 3 rfl hu hr; clear hr hu)
    | ((with_reducible refine at_op none (.store 3 (.tmp 37) (.tmp 35)) ?_); go_must (refine wpl_stc 1 1 (.int .i64 n) hm rfl rfl rfl sz_int (by show 1 < 3; omega) rfl rfl ?_); clear hm; intro wk hm)
    | ((with_reducible refine at_op (some 55) (.load 24 (.tmp 4)) ?_); go_must (refine wpl_ldw 1 hm rfl rfl _ Tryd.underlying24 rfl 3 sz_term rfl ?_))
    | ((with_reducible refine at_op none (.store 24 (.tmp 2) (.tmp 55)) ?_); go_must (refine wpl_stw 2 ([.int .i64 k, .int .i64 n, .slice none 0 0]) hm rfl rfl rfl 3 sz_term rfl rfl ((by intro v hv; simp only [List.mem_cons, List.not_mem_nil, or_false] at hv; rcases hv with rfl | rfl | rfl <;> rfl)) ?_); clear hm; intro w12 hm))
  refine ret_ct 2 (.bool true) hm rfl Tryd.results22 rfl rfl _ Tryd.underlying24 rfl 3 sz_term rfl rfl ?_
  exact ⟨_, rfl, UX.nil, hm.get 3 rfl, hm.toUpd⟩
set_option maxHeartbeats 2000000 in
set_option maxRecDepth 100000 in
theorem term_kidsX_true (g room q : Nat) (hq : room = q + 1) (R : List UInt8) (w : World) (hRl : R.length ≤ 100000) (hrm : room ≤ 100) (hE : Esx w) (hg : 10 ≤ g) (hr : Row w g (rdv R room) 53) (k : Int) (hk : kdOf R = k) (hb : nb k = true) (n : Int) (hn : numV (ldg (R.drop (wd k).length)) = some n) (l : List Tm) (S1 : List UInt8) (r1 : Nat) (hk0 : kn k ≠ 0) (HKI : ∀ W, Upd g w W → Row W g (rdv ((R.drop (wd k).length).drop (ldg (R.drop (wd k).length)).length) q) 53 → Calls Tryd.prog 30 #[.pointer (some ⟨g, 0, none⟩), .int .i64 (kn k : Int)] W fun e w' => ∃ v, e = .returned (.tuple #[v, .bool true]) ∧ UX W.heap.size w'.heap.size w' v l ∧ Row w' g (rdv S1 r1) 53 ∧ Upd g W w') :
    Calls Tryd.prog 22 #[.pointer (some ⟨g, 0, none⟩)] w fun e w' => ∃ s, e = .returned (.tuple #[.agg (tcs (mkT k n l) s).toArray, .bool true]) ∧ UX w.heap.size w'.heap.size w' s l ∧ Row w' g (rdv S1 r1) 53 ∧ Upd g w w' := by
  have hm := Mem.enter hr
  have hr0 : ((room : Int) == 0) = false := beq_int_no _ _ (by omega)
  have hw : IntKind.i64.wrap ((room : Int) - 1) = (q : Int) := (wrapi _ (by omega) (by omega)).trans (by omega)
  have hkr : 1 ≤ k ∧ k ≤ 5 := by rw [← hk]; exact kdOf_range R
  have HKD : Hid (∀ W, Row W g (rdv R q) 53 → Calls Tryd.prog 28 #[.pointer (some ⟨g, 0, none⟩)] W fun e w' => e = .returned (.int .i64 k) ∧ Row w' g (rdv (R.drop (wd k).length) q) 53 ∧ Upd g W w') := fun W hW => by
    have := kind_any R q g W hW
    rw [hk] at this
    exact this
  have HF1 : Hid (∀ _ : Unit, ∀ v ∈ [Value.string (mkS (wd k)), .bool true, .int .i64 (kn k : Int)], v.oneCell' = true) := fun _ => by have h9 := fmv_one k; rw [fmv_get hkr, hb] at h9; exact h9
  have h91 := hE
  have h92 := hg
  clear h91 h92
  have HFO : Hid (∀ W, Calls Tryd.prog 24 #[.int .i64 k] W fun e w' => e = .returned (.tuple #[.agg [Value.string (mkS (wd k)), .bool true, .int .i64 (kn k : Int)].toArray, .bool true]) ∧ Below W.heap.size W w') := fun W => by
    have := formOf_any k W
    rw [fmv_get hkr, decide_eq_true hkr, hb] at this
    exact this
  have hdl : (R.drop (wd k).length).length ≤ 100000 := by rw [List.length_drop]; omega
  have HNU : Hid (∀ W, Upd g w W → Row W g (rdv (R.drop (wd k).length) q) 53 → Calls Tryd.prog 29 #[.pointer (some ⟨g, 0, none⟩)] W fun e w' => e = .returned (.tuple #[.int .i64 n, .bool true]) ∧ Row w' g (rdv ((R.drop (wd k).length).drop (ldg (R.drop (wd k).length)).length) q) 53 ∧ Upd g W w') := fun W _ hr => number_yes hn q g W hdl hr
  have hz : (kn k : Int) > 0 := by omega
  have HKI2 : Hid _ := HKI
  clear HKI
  clear hE hr hk hb hkr hdl hRl hrm hq hk0 hn
  go_enter Tryd.func22, Tryd.ntmps22
  go_wp2_with (first
    | ((with_reducible refine at_op (some 2) (.alloc 24) ?_); go_must (refine wpl_alloc _ zero_term hm ?_); clear hm; intro w1 g2 hm)
    | ((with_reducible refine at_op (some 11) (.load 3 (.tmp 10)) ?_); go_must (refine wpl_execG (.int .i64 (room : Int)) rfl (exec_ldx (.int .i64 (room : Int)) (Mem.cell hm 1 rfl 1) rfl ag_int) ?_))
    | ((with_reducible refine at_op (some 17) (.load 3 (.tmp 16)) ?_); go_must (refine wpl_execG (.int .i64 (room : Int)) rfl (exec_ldx (.int .i64 (room : Int)) (Mem.cell hm 1 rfl 1) rfl ag_int) ?_))
    | ((with_reducible refine at_op none (.store 3 (.tmp 20) (.tmp 18)) ?_); go_must (refine wpl_stc 1 1 (.int .i64 (q : Int)) hm rfl rfl rfl sz_int (by show 1 < 2; omega) rfl rfl ?_); clear hm; intro w3 hm)
    | (go_at_call 28; go_must (refine (HKD.out _ (hm.get 1 rfl)).mono ?_); rintro e w4 ⟨he, hr, hu⟩; subst he; replace hm := hm.upd 1 rfl hu hr; clear hr hu)
    | ((with_reducible refine at_op (some 4) (.alloc 24) ?_); go_must (refine wpl_alloc _ zero_term hm ?_); clear hm; intro w5 g4 hm)
    | ((with_reducible refine at_op none (.store 24 (.tmp 4) (.tmp 23)) ?_); go_must (refine wpl_stw 0 ([.int .i64 k, .int .i64 0, .slice none 0 0]) hm rfl rfl rfl 3 sz_term rfl rfl ((by intro v hv; simp only [List.mem_cons, List.not_mem_nil, or_false] at hv; rcases hv with rfl | rfl | rfl <;> rfl)) ?_); clear hm; intro w6 hm)
    | ((with_reducible refine at_op (some 26) (.load 3 (.tmp 25)) ?_); go_must (refine wpl_execG (.int .i64 k) rfl (exec_ldx (.int .i64 k) (Mem.cell hm 0 rfl 0) rfl ag_int) ?_))
    | (go_at_call 24; go_must (refine (HFO.out _).mono ?_); rintro e w7 ⟨he, hb⟩; subst he; replace hm := hm.call hb; clear hb)
    | ((with_reducible refine at_op (some 5) (.alloc 57) ?_); go_must (refine wpl_alloc _ zero_form hm ?_); clear hm; intro w8 g5 hm)
    | ((with_reducible refine at_op none (.store 57 (.tmp 5) (.tmp 28)) ?_); go_must (refine wpl_stw 0 ([Value.string (mkS (wd k)), .bool true, .int .i64 (kn k : Int)]) hm rfl rfl rfl 3 sz_form rfl rfl ((HF1.out ())) ?_); clear hm; intro w9 hm)
    | ((with_reducible refine at_op (some 31) (.load 4 (.tmp 30)) ?_); go_must (refine wpl_execG (.bool true) rfl (exec_ldx (.bool true) (Mem.cell hm 0 rfl 1) rfl ag_bool) ?_))
    | ((with_reducible refine at_op (some 42) (.load 3 (.tmp 41)) ?_); go_must (refine wpl_execG (.int .i64 (kn k : Int)) rfl (exec_ldx (.int .i64 (kn k : Int)) (Mem.cell hm 0 rfl 2) rfl ag_int) ?_))
    | (go_at_call 29; go_must (refine (HNU.out _ hm.toUpd (hm.get 3 rfl)).mono ?_); rintro e w10 ⟨he, hr, hu⟩; subst he; replace hm := hm.upd 3 rfl hu hr; clear hr hu)
    | ((with_reducible refine at_op none (.store 3 (.tmp 37) (.tmp 35)) ?_); go_must (refine wpl_stc 1 1 (.int .i64 n) hm rfl rfl rfl sz_int (by show 1 < 3; omega) rfl rfl ?_); clear hm; intro wk hm)
    | ((with_reducible refine at_op (some 47) (.load 3 (.tmp 46)) ?_); go_must (refine wpl_execG (.int .i64 (kn k : Int)) rfl (exec_ldx (.int .i64 (kn k : Int)) (Mem.cell hm 0 rfl 2) rfl ag_int) ?_))
    | (go_at_call 30; go_must (refine (HKI2.out _ hm.toUpd (hm.get 3 rfl)).mono ?_); rintro e w11 ⟨v11, he, hsv, hr, hu⟩; subst he; have HSV : Hid (UX wk.heap.size w11.heap.size w11 v11 l) := hsv; obtain ⟨p9, c9, hv9, _⟩ := hsv.len; subst hv9; have HLT : Hid (g4 < wk.heap.size ∧ g2 < wk.heap.size ∧ w.heap.size ≤ wk.heap.size) := ⟨(hm.get 1 rfl).lt, (hm.get 2 rfl).lt, hm.size⟩; replace hm := hm.upd 3 rfl hu hr; clear hr hu hsv)
    | ((with_reducible refine at_op none (.store 22 (.tmp 51) (.tmp 49)) ?_); go_must (refine wpl_stcU 1 2 (.slice p9 l.length c9) hm rfl rfl rfl sz_terms (by show 2 < 3; omega) rfl rfl ?_); clear hm; intro w12 hu12 hm; have HSV2 : Hid (UX wk.heap.size w12.heap.size w12 (.slice p9 l.length c9) l) := (HSV.out.keep (UKeeps.upd hu12 (fun b hb he => by have h8 := HLT.out; have h9 := hb.1; omega))).weak (fun b hb => ⟨hb.1, Nat.lt_of_lt_of_le hb.2 hu12.size⟩); clear HSV hu12)
    | ((with_reducible refine at_op (some 55) (.load 24 (.tmp 4)) ?_); go_must (refine wpl_ldw 1 hm rfl rfl _ Tryd.underlying24 rfl 3 sz_term rfl ?_))
    | ((with_reducible refine at_op none (.store 24 (.tmp 2) (.tmp 55)) ?_); go_must (refine wpl_stwU 2 [.int .i64 k, .int .i64 n, .slice p9 l.length c9] hm rfl rfl rfl 3 sz_term rfl rfl (by intro v hv; simp only [List.mem_cons, List.not_mem_nil, or_false] at hv; rcases hv with rfl | rfl | rfl <;> rfl) ?_); clear hm; intro w13 hu13 hm; have HSV3 : Hid (UX wk.heap.size w13.heap.size w13 (.slice p9 l.length c9) l) := (HSV2.out.keep (UKeeps.upd hu13 (fun b hb he => by have h8 := HLT.out; have h9 := hb.1; omega))).weak (fun b hb => ⟨hb.1, Nat.lt_of_lt_of_le hb.2 hu13.size⟩); clear HSV2 hu13))
  refine ret_ct 2 (.bool true) hm rfl Tryd.results22 rfl rfl _ Tryd.underlying24 rfl 3 sz_term rfl rfl ?_
  exact ⟨_, rfl, HSV3.out.weak (fun b hb => ⟨Nat.le_trans HLT.out.2.2 hb.1, hb.2⟩), hm.get 3 rfl, hm.toUpd⟩
set_option maxHeartbeats 2000000 in
set_option maxRecDepth 100000 in
theorem term_kidsX_false (g room q : Nat) (hq : room = q + 1) (R : List UInt8) (w : World) (hRl : R.length ≤ 100000) (hrm : room ≤ 100) (hE : Esx w) (hg : 10 ≤ g) (hr : Row w g (rdv R room) 53) (k : Int) (hk : kdOf R = k) (hb : nb k = false) (l : List Tm) (S1 : List UInt8) (r1 : Nat) (hk0 : kn k ≠ 0) (HKI : ∀ W, Upd g w W → Row W g (rdv (R.drop (wd k).length) q) 53 → Calls Tryd.prog 30 #[.pointer (some ⟨g, 0, none⟩), .int .i64 (kn k : Int)] W fun e w' => ∃ v, e = .returned (.tuple #[v, .bool true]) ∧ UX W.heap.size w'.heap.size w' v l ∧ Row w' g (rdv S1 r1) 53 ∧ Upd g W w') :
    Calls Tryd.prog 22 #[.pointer (some ⟨g, 0, none⟩)] w fun e w' => ∃ s, e = .returned (.tuple #[.agg (tcs (mkT k 0 l) s).toArray, .bool true]) ∧ UX w.heap.size w'.heap.size w' s l ∧ Row w' g (rdv S1 r1) 53 ∧ Upd g w w' := by
  have hm := Mem.enter hr
  have hr0 : ((room : Int) == 0) = false := beq_int_no _ _ (by omega)
  have hw : IntKind.i64.wrap ((room : Int) - 1) = (q : Int) := (wrapi _ (by omega) (by omega)).trans (by omega)
  have hkr : 1 ≤ k ∧ k ≤ 5 := by rw [← hk]; exact kdOf_range R
  have HKD : Hid (∀ W, Row W g (rdv R q) 53 → Calls Tryd.prog 28 #[.pointer (some ⟨g, 0, none⟩)] W fun e w' => e = .returned (.int .i64 k) ∧ Row w' g (rdv (R.drop (wd k).length) q) 53 ∧ Upd g W w') := fun W hW => by
    have := kind_any R q g W hW
    rw [hk] at this
    exact this
  have HF1 : Hid (∀ _ : Unit, ∀ v ∈ [Value.string (mkS (wd k)), .bool false, .int .i64 (kn k : Int)], v.oneCell' = true) := fun _ => by have h9 := fmv_one k; rw [fmv_get hkr, hb] at h9; exact h9
  have h91 := hE
  have h92 := hg
  clear h91 h92
  have HFO : Hid (∀ W, Calls Tryd.prog 24 #[.int .i64 k] W fun e w' => e = .returned (.tuple #[.agg [Value.string (mkS (wd k)), .bool false, .int .i64 (kn k : Int)].toArray, .bool true]) ∧ Below W.heap.size W w') := fun W => by
    have := formOf_any k W
    rw [fmv_get hkr, decide_eq_true hkr, hb] at this
    exact this
  have hdl : (R.drop (wd k).length).length ≤ 100000 := by rw [List.length_drop]; omega
  have hz : (kn k : Int) > 0 := by omega
  have HKI2 : Hid _ := HKI
  clear HKI
  clear hE hr hk hb hkr hdl hRl hrm hq hk0
  go_enter Tryd.func22, Tryd.ntmps22
  go_wp2_with (first
    | ((with_reducible refine at_op (some 2) (.alloc 24) ?_); go_must (refine wpl_alloc _ zero_term hm ?_); clear hm; intro w1 g2 hm)
    | ((with_reducible refine at_op (some 11) (.load 3 (.tmp 10)) ?_); go_must (refine wpl_execG (.int .i64 (room : Int)) rfl (exec_ldx (.int .i64 (room : Int)) (Mem.cell hm 1 rfl 1) rfl ag_int) ?_))
    | ((with_reducible refine at_op (some 17) (.load 3 (.tmp 16)) ?_); go_must (refine wpl_execG (.int .i64 (room : Int)) rfl (exec_ldx (.int .i64 (room : Int)) (Mem.cell hm 1 rfl 1) rfl ag_int) ?_))
    | ((with_reducible refine at_op none (.store 3 (.tmp 20) (.tmp 18)) ?_); go_must (refine wpl_stc 1 1 (.int .i64 (q : Int)) hm rfl rfl rfl sz_int (by show 1 < 2; omega) rfl rfl ?_); clear hm; intro w3 hm)
    | (go_at_call 28; go_must (refine (HKD.out _ (hm.get 1 rfl)).mono ?_); rintro e w4 ⟨he, hr, hu⟩; subst he; replace hm := hm.upd 1 rfl hu hr; clear hr hu)
    | ((with_reducible refine at_op (some 4) (.alloc 24) ?_); go_must (refine wpl_alloc _ zero_term hm ?_); clear hm; intro w5 g4 hm)
    | ((with_reducible refine at_op none (.store 24 (.tmp 4) (.tmp 23)) ?_); go_must (refine wpl_stw 0 ([.int .i64 k, .int .i64 0, .slice none 0 0]) hm rfl rfl rfl 3 sz_term rfl rfl ((by intro v hv; simp only [List.mem_cons, List.not_mem_nil, or_false] at hv; rcases hv with rfl | rfl | rfl <;> rfl)) ?_); clear hm; intro w6 hm)
    | ((with_reducible refine at_op (some 26) (.load 3 (.tmp 25)) ?_); go_must (refine wpl_execG (.int .i64 k) rfl (exec_ldx (.int .i64 k) (Mem.cell hm 0 rfl 0) rfl ag_int) ?_))
    | (go_at_call 24; go_must (refine (HFO.out _).mono ?_); rintro e w7 ⟨he, hb⟩; subst he; replace hm := hm.call hb; clear hb)
    | ((with_reducible refine at_op (some 5) (.alloc 57) ?_); go_must (refine wpl_alloc _ zero_form hm ?_); clear hm; intro w8 g5 hm)
    | ((with_reducible refine at_op none (.store 57 (.tmp 5) (.tmp 28)) ?_); go_must (refine wpl_stw 0 ([Value.string (mkS (wd k)), .bool false, .int .i64 (kn k : Int)]) hm rfl rfl rfl 3 sz_form rfl rfl ((HF1.out ())) ?_); clear hm; intro wk hm)
    | ((with_reducible refine at_op (some 31) (.load 4 (.tmp 30)) ?_); go_must (refine wpl_execG (.bool false) rfl (exec_ldx (.bool false) (Mem.cell hm 0 rfl 1) rfl ag_bool) ?_))
    | ((with_reducible refine at_op (some 42) (.load 3 (.tmp 41)) ?_); go_must (refine wpl_execG (.int .i64 (kn k : Int)) rfl (exec_ldx (.int .i64 (kn k : Int)) (Mem.cell hm 0 rfl 2) rfl ag_int) ?_))
    | ((with_reducible refine at_op (some 47) (.load 3 (.tmp 46)) ?_); go_must (refine wpl_execG (.int .i64 (kn k : Int)) rfl (exec_ldx (.int .i64 (kn k : Int)) (Mem.cell hm 0 rfl 2) rfl ag_int) ?_))
    | (go_at_call 30; go_must (refine (HKI2.out _ hm.toUpd (hm.get 3 rfl)).mono ?_); rintro e w11 ⟨v11, he, hsv, hr, hu⟩; subst he; have HSV : Hid (UX wk.heap.size w11.heap.size w11 v11 l) := hsv; obtain ⟨p9, c9, hv9, _⟩ := hsv.len; subst hv9; have HLT : Hid (g4 < wk.heap.size ∧ g2 < wk.heap.size ∧ w.heap.size ≤ wk.heap.size) := ⟨(hm.get 1 rfl).lt, (hm.get 2 rfl).lt, hm.size⟩; replace hm := hm.upd 3 rfl hu hr; clear hr hu hsv)
    | ((with_reducible refine at_op none (.store 22 (.tmp 51) (.tmp 49)) ?_); go_must (refine wpl_stcU 1 2 (.slice p9 l.length c9) hm rfl rfl rfl sz_terms (by show 2 < 3; omega) rfl rfl ?_); clear hm; intro w12 hu12 hm; have HSV2 : Hid (UX wk.heap.size w12.heap.size w12 (.slice p9 l.length c9) l) := (HSV.out.keep (UKeeps.upd hu12 (fun b hb he => by have h8 := HLT.out; have h9 := hb.1; omega))).weak (fun b hb => ⟨hb.1, Nat.lt_of_lt_of_le hb.2 hu12.size⟩); clear HSV hu12)
    | ((with_reducible refine at_op (some 55) (.load 24 (.tmp 4)) ?_); go_must (refine wpl_ldw 1 hm rfl rfl _ Tryd.underlying24 rfl 3 sz_term rfl ?_))
    | ((with_reducible refine at_op none (.store 24 (.tmp 2) (.tmp 55)) ?_); go_must (refine wpl_stwU 2 [.int .i64 k, .int .i64 0, .slice p9 l.length c9] hm rfl rfl rfl 3 sz_term rfl rfl (by intro v hv; simp only [List.mem_cons, List.not_mem_nil, or_false] at hv; rcases hv with rfl | rfl | rfl <;> rfl) ?_); clear hm; intro w13 hu13 hm; have HSV3 : Hid (UX wk.heap.size w13.heap.size w13 (.slice p9 l.length c9) l) := (HSV2.out.keep (UKeeps.upd hu13 (fun b hb he => by have h8 := HLT.out; have h9 := hb.1; omega))).weak (fun b hb => ⟨hb.1, Nat.lt_of_lt_of_le hb.2 hu13.size⟩); clear HSV2 hu13))
  refine ret_ct 2 (.bool true) hm rfl Tryd.results22 rfl rfl _ Tryd.underlying24 rfl 3 sz_term rfl rfl ?_
  exact ⟨_, rfl, HSV3.out.weak (fun b hb => ⟨Nat.le_trans HLT.out.2.2 hb.1, hb.2⟩), hm.get 3 rfl, hm.toUpd⟩
set_option maxRecDepth 100000 in
theorem term_yesX : ∀ f, TermYesX f := by
  intro f
  induction f with
  | zero => exact fun g room R w _ _ _ _ _ _ t R1 r1 h => (by cases h)
  | succ f ihY =>
    · intro g room R w h1 h2 h3 hE hg hr t R1 r1 h
      have hn6 : ∀ k, kn k ≤ 100 := fun k => by unfold kn; split <;> (try split) <;> omega
      rw [rdT] at h
      split at h
      · cases h
      · rename_i hr0
        obtain ⟨q, hq⟩ : ∃ q, room = q + 1 := ⟨room - 1, by omega⟩
        obtain ⟨k, hk⟩ : ∃ k, kdOf R = k := ⟨_, rfl⟩
        rw [hk, show room - 1 = q by omega] at h
        have hdl : (R.drop (wd k).length).length ≤ 100000 := by rw [List.length_drop]; omega
        split at h
        · cases h
        · rename_i n s2 hnum
          cases hb : nb k with
          | true =>
            rw [rdNum_true hb, Option.map_eq_some_iff] at hnum
            obtain ⟨n', hn', he⟩ := hnum
            simp only [Prod.mk.injEq] at he
            obtain ⟨rfl, rfl⟩ := he
            have hdl2 : ((R.drop (wd k).length).drop (ldg (R.drop (wd k).length)).length).length ≤ 100000 := by rw [List.length_drop]; omega
            split at h
            · rename_i hk0
              simp only [Option.some.injEq, Prod.mk.injEq] at h
              obtain ⟨rfl, rfl, rfl⟩ := h
              rw [mkT_l]
              exact term_leafX g room q hq R w h1 h2 hE hg hr k hk hb n' hn' hk0
            · rename_i hk0
              split at h
              · cases h
              · rename_i l s3 r3 hK
                split at h
                · rename_i hp
                  simp only [Option.some.injEq, Prod.mk.injEq] at h
                  obtain ⟨rfl, rfl, rfl⟩ := h
                  rw [mkT_l]
                  refine term_kidsX_true g room q hq R w h1 h2 hE hg hr k hk hb n' hn' l _ _ hk0 fun W hW hrW => ?_
                  have h9 := kids_someX ihY (kn k) (hn6 k) g q _ W hdl2 (by omega) (by omega) (hE.upd hW hg) hg hrW l s3 r3 hK
                  rw [hp, trim_yes hp] at h9
                  exact h9
                · cases h
          | false =>
            rw [rdNum_false hb] at hnum
            simp only [Option.some.injEq, Prod.mk.injEq] at hnum
            obtain ⟨rfl, rfl⟩ := hnum
            split at h
            · rename_i hk0
              have hkr := kdOf_range R
              rw [hk] at hkr
              unfold kn at hk0
              unfold nb at hb
              simp only [decide_eq_false_iff_not] at hb
              split at hk0
              · omega
              · split at hk0 <;> omega
            · rename_i hk0
              split at h
              · cases h
              · rename_i l s3 r3 hK
                split at h
                · rename_i hp
                  simp only [Option.some.injEq, Prod.mk.injEq] at h
                  obtain ⟨rfl, rfl, rfl⟩ := h
                  rw [mkT_l]
                  refine term_kidsX_false g room q hq R w h1 h2 hE hg hr k hk hb l _ _ hk0 fun W hW hrW => ?_
                  have h9 := kids_someX ihY (kn k) (hn6 k) g q _ W hdl (by omega) (by omega) (hE.upd hW hg) hg hrW l s3 r3 hK
                  rw [hp, trim_yes hp] at h9
                  exact h9
                · cases h
set_option maxHeartbeats 2000000 in
set_option maxRecDepth 100000 in
theorem parse_yesX (R : List UInt8) (w : World) (hRl : R.length ≤ 100000) (hE : Esx w) (h10 : 10 ≤ w.heap.size) (t : Tm) (r1 : Nat) (hp : rdT 60 60 R = some (t, [], r1)) :
    Calls Tryd.prog 12 #[.string (mkS R)] w fun e w' => ∃ s, e = .returned (.tuple #[.agg (tcs t s).toArray, .int .i64 0]) ∧ UX w.heap.size w'.heap.size w' s t.l ∧ Below w.heap.size w w' := by
  have hm := Mem.start w
  have HES : Hid (Esx w) := hE
  have HTM : Hid (∀ g W, Esx W → 10 ≤ g → Row W g (rdv R (60 : Nat)) 53 → Calls Tryd.prog 22 #[.pointer (some ⟨g, 0, none⟩)] W fun e w' => ∃ s, e = .returned (.tuple #[.agg (tcs t s).toArray, .bool true]) ∧ UX W.heap.size w'.heap.size w' s t.l ∧ Row w' g (rdv [] r1) 53 ∧ Upd g W w') := fun g W hEW hg hr => term_yesX 60 g 60 R W hRl (by omega) (by omega) hEW hg hr t [] r1 hp
  have HNE : Hid (∀ _ : Unit, (mkS [] == ⟨#[]⟩) = true) := fun _ => eqs_yes _
  clear hE hp
  go_enter Tryd.func12, Tryd.ntmps12
  go_wp2_with (first
    | ((with_reducible refine at_op (some 2) (.alloc 24) ?_); go_must (refine wpl_alloc _ zero_term hm ?_); clear hm; intro w1 g2 hm)
    | ((with_reducible refine at_op (some 4) (.alloc 53) ?_); go_must (refine wpl_alloc _ zero_rd hm ?_); clear hm; intro w2 g4 hm)
    | ((with_reducible refine at_op none (.store 53 (.tmp 4) (.tmp 8)) ?_); go_must (refine wpl_stw 0 ([.string (mkS R), .int .i64 60]) hm rfl rfl rfl 2 sz_rd rfl rfl ((by intro v hv; simp only [List.mem_cons, List.not_mem_nil, or_false] at hv; rcases hv with rfl | rfl <;> rfl)) ?_); clear hm; intro w3 hm)
    | (go_at_call 22; go_must (refine (HTM.out g4 _ (HES.out.below hm.below) (Nat.le_trans h10 (by have h9 := hm.fresh (g4, _, _) (List.mem_cons_self ..); simpa using h9)) (hm.get 0 rfl)).mono ?_); rintro e w4 ⟨s4, he, hs4, hr, hu⟩; subst he; have HS4 : Hid (UX w3.heap.size w4.heap.size w4 s4 t.l) := hs4; obtain ⟨p4, c4, hv4, _⟩ := hs4.len; subst hv4; have HLT : Hid (g4 < w3.heap.size ∧ g2 < w3.heap.size ∧ w.heap.size ≤ w3.heap.size) := ⟨(hm.get 0 rfl).lt, (hm.get 1 rfl).lt, hm.size⟩; replace hm := hm.upd 0 rfl hu hr; clear hr hu hs4)
    | ((with_reducible refine at_op (some 5) (.alloc 24) ?_); go_must (refine wpl_allocB _ zero_term hm ?_); clear hm; intro w5 g5 hb5 hg5 hm; have HS5 : Hid (UX w3.heap.size w4.heap.size w5 (.slice p4 t.l.length c4) t.l) := HS4.out.below hb5; have HG5 : Hid (w4.heap.size ≤ g5 ∧ w4.heap.size ≤ w5.heap.size) := ⟨hg5, hb5.size⟩; clear hb5 hg5)
    | ((with_reducible refine at_op none (.store 24 (.tmp 5) (.tmp 11)) ?_); go_must (refine wpl_stwU 0 (tcs t (.slice p4 t.l.length c4)) hm rfl rfl rfl 3 sz_term rfl rfl (oneTcs _ _ _ _) ?_); clear hm; intro w6 hu hm; have HS6 : Hid (UX w3.heap.size w6.heap.size w6 (.slice p4 t.l.length c4) t.l) := (HS5.out.keep (UKeeps.upd hu (fun b hb he => by have h8 := HLT.out; have h7 := HG5.out; have h9 := hb.1; have h6 := hb.2; omega))).weak (fun b hb => ⟨hb.1, by have h6 := hb.2; have h5 := hu.size; have h7 := HG5.out; omega⟩); clear hu)
    | ((with_reducible refine at_opG (some 17) (.load 9 (.tmp 16)) (some (2, false)) ?_); go_must (refine wpl_execG (.string (mkS [])) rfl (exec_ldx (.string (mkS [])) (Mem.cell hm 1 rfl 0) rfl ag_str) ?_))
    | ((with_reducible refine at_opG (some 18) (.binOp .neq 9 (.tmp 17) (.const (.string { data := #[] })) 9) (some (2, false)) ?_); go_must (refine wpl_execG (.bool false) rfl (exec_neB (mkS []) ⟨#[]⟩ true rfl rfl (HNE.out ())) ?_))
    | ((with_reducible refine at_op (some 21) (.load 24 (.tmp 5)) ?_); go_must (refine wpl_ldw 0 hm rfl rfl _ Tryd.underlying24 rfl 3 sz_term rfl ?_))
    | ((with_reducible refine at_op none (.store 24 (.tmp 2) (.tmp 21)) ?_); go_must (refine wpl_stwU 2 (tcs t (.slice p4 t.l.length c4)) hm rfl rfl rfl 3 sz_term rfl rfl (oneTcs _ _ _ _) ?_); clear hm; intro w7 hu hm; have HS7 : Hid (UX w3.heap.size w7.heap.size w7 (.slice p4 t.l.length c4) t.l) := (HS6.out.keep (UKeeps.upd hu (fun b hb he => by have h8 := HLT.out; have h7 := HG5.out; have h9 := hb.1; have h6 := hb.2; omega))).weak (fun b hb => ⟨hb.1, by have h6 := hb.2; have h5 := hu.size; have h7 := HG5.out; omega⟩); clear hu))
  refine ret_ct 2 (.int .i64 0) hm rfl Tryd.results12 rfl rfl _ Tryd.underlying24 rfl 3 sz_term rfl rfl ?_
  exact ⟨_, rfl, HS7.out.weak (fun b hb => ⟨Nat.le_trans HLT.out.2.2 hb.1, hb.2⟩), hm.below⟩
end Go.Proofs.YtbiinchmbclmcaaDoor
