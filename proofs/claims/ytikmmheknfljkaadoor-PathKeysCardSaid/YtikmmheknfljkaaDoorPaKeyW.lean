/- The walk of the law PathKeys. -/
import Derived.StringKeys
import Derived.Test.YtikmmheknfljkaaDoorPaCodW
import Derived.Test.YtikmmheknfljkaaDoorPaBsl
namespace Go.Proofs.YtikmmheknfljkaaDoor
open Go Go.RowKit Go.Maps
set_option maxRecDepth 100000 in
theorem str_key : Keyed Tryd.prog 9 := string_keyed un_strT
set_option maxRecDepth 100000 in
theorem un_smap : Tryd.prog.underlying 39 = some (.map 9 9) := Tryd.underlying39
set_option maxRecDepth 100000 in
theorem zero_str : ∀ w, (zeroValue 9).run Tryd.prog w = .ok (.string ByteArray.empty) w := (zero_of_info info_str).1
set_option maxRecDepth 100000 in
theorem str_of (s : ByteArray) (h : s.size ≤ 1000) : ∃ kl, keyOf Tryd.prog 9 (.string s) = some kl := ⟨_, Go.WideMaps.keyOf_string_mk un_strT (by unfold maxLen; omega)⟩
def cdS (x : ByteArray) : ByteArray := mkS (codeOf (segsOf (bs x)))
set_option maxRecDepth 100000 in
theorem cdS_size (x : ByteArray) : (cdS x).size ≤ 1000 := by rw [cdS, mkS_size]; have := code_small (bs x); omega
def pK (xs : List ByteArray) (k : Nat) : Value → Value → Prop := fun key v => ∃ i, i < k ∧ isP (bs (xs.getD i noStr)) = true ∧ key = .string (cdS (xs.getD i noStr)) ∧ v = .string (xs.getD i noStr)
set_option maxRecDepth 100000 in
theorem cdS_inj {x y : ByteArray} (hx : isP (bs x) = true) (hy : isP (bs y) = true) (h : cdS x = cdS y) : x = y :=
  bs_inj (code_inj hx hy (mkS_inj h))
set_option maxRecDepth 100000 in
theorem pK_no {xs : List ByteArray} {k : Nat} (h : isP (bs (xs.getD k noStr)) = false) (key v : Value) : pK xs k key v ↔ pK xs (k + 1) key v := by
  constructor
  · rintro ⟨i, hi, r⟩; exact ⟨i, by omega, r⟩
  · rintro ⟨i, hi, hp, r⟩
    refine ⟨i, ?_, hp, r⟩
    rcases Nat.lt_or_ge i k with h1 | h1
    · exact h1
    · have : i = k := by omega
      subst this
      rw [h] at hp; cases hp
set_option maxRecDepth 100000 in
theorem pK_put {xs : List ByteArray} {k : Nat} (h : isP (bs (xs.getD k noStr)) = true) (key v : Value) : putK (pK xs k) (.string (cdS (xs.getD k noStr))) (.string (xs.getD k noStr)) key v ↔ pK xs (k + 1) key v := by
  constructor
  · rintro (⟨rfl, rfl⟩ | ⟨_, i, hi, r⟩)
    · exact ⟨k, by omega, h, rfl, rfl⟩
    · exact ⟨i, by omega, r⟩
  · rintro ⟨i, hi, hp, rfl, rfl⟩
    by_cases he : Value.string (cdS (xs.getD i noStr)) = .string (cdS (xs.getD k noStr))
    · refine Or.inl ⟨he, ?_⟩
      rw [cdS_inj hp h (by simpa using he)]
    · refine Or.inr ⟨he, i, ?_, hp, rfl, rfl⟩
      rcases Nat.lt_or_ge i k with h1 | h1
      · exact h1
      · exact absurd (by rw [show i = k by omega]) he
structure Pk (w0 w : World) (xs : List ByteArray) (m k : Nat) : Prop where
  mem : Mem w0 [] w []
  map : ∃ q, q ≤ k ∧ KM Tryd.prog 9 w m q (pK xs k)
  new : w0.heap.size ≤ m
set_option maxRecDepth 100000 in
theorem Pk.call {w0 w w' : World} {xs : List ByteArray} {m k : Nat} (h : Pk w0 w xs m k) (hb : Below w.heap.size w w') : Pk w0 w' xs m k := by
  obtain ⟨q, hq, hk⟩ := h.map
  exact ⟨h.mem.call hb, ⟨q, hq, hk.below hb⟩, h.new⟩
set_option maxRecDepth 100000 in
theorem Pk.look {w0 w : World} {xs : List ByteArray} {m k i : Nat} {x c : ByteArray} (h : Pk w0 w xs m k) (hi : i < k) (hx : x = xs.getD i noStr) (hp : isP (bs x) = true) (hc : c = cdS x) :
    (Instr.lookup 39 (.map (some m)) (.string c) false).run Tryd.prog w = .ok (.string x) w := by
  obtain ⟨q, _, hk⟩ := h.map
  subst hc
  obtain ⟨kl, hkl⟩ := str_of (cdS x) (cdS_size x)
  exact hk.look1 str_key un_smap (zero_str w) hkl ⟨i, hi, by rw [← hx]; exact hp, by rw [← hx], by rw [← hx]⟩
set_option maxHeartbeats 1000000 in
set_option maxRecDepth 100000 in
theorem pkeys_many (n cap : Nat) (p : Option Addr) (w : World) (h : 12 < n) (hM : MaxL w) :
    Calls Tryd.prog 7 #[.slice p n cap] w fun e w' => e = .returned (.bool true) ∧ Below w.heap.size w w' := by
  have hm := Mem.start w
  have HM : Hid (MaxL w) := hM
  have h1 : (12 : Int) < (n : Int) := by omega
  clear hM
  go_enter Tryd.func7, Tryd.ntmps7
  go_wp2_with (first
    | (go_at_call 8; refine (known_any _ (HM.out.below hm.below)).mono ?_; rintro e w3 ⟨he, hb⟩; subst he; replace hm := hm.call hb; clear hb))
  go_ret
  exact ⟨rfl, hm.below⟩
set_option maxHeartbeats 6000000 in
set_option maxRecDepth 100000 in
theorem pkeys_few (xs : List ByteArray) (n cap : Nat) (p : Option Addr) (w : World) (hn : xs.length = n) (h : n ≤ 12) (hv : SlS w (.slice p n cap) xs) (hM : MaxL w) :
    Calls Tryd.prog 7 #[.slice p n cap] w fun e w' => e = .returned (.bool true) ∧ Below w.heap.size w w' := by
  have hm := Mem.start w
  have HM : Hid (MaxL w) := hM
  have h1 : ¬ (12 : Int) < (n : Int) := by omega
  have HV : Hid (SlS w (.slice p n cap) xs) := hv
  have HN : Hid (∀ _ : Unit, xs.length = n) := fun _ => hn
  clear hM hv hn
  go_enter Tryd.func7, Tryd.ntmps7
  go_wp2_with (first
    | (go_at_call 8; refine (known_any _ (HM.out.below hm.below)).mono ?_; rintro e w3 ⟨he, hb⟩; subst he; replace hm := hm.call hb; clear hb)
    | ((with_reducible refine at_op (some 11) (.makeMap 39 none) ?_); go_must (refine wpl_mkmap hm ?_); clear hm; intro w5 m hmap hnew hm; have HS0 : Hid (Pk w w5 xs m 0) := ⟨hm, ⟨0, Nat.le_refl _, (KM.new hmap).same (fun k v => ⟨fun h => h.elim, fun ⟨i, hi, _⟩ => absurd hi (Nat.not_lt_zero _)⟩)⟩, hnew⟩; clear hm hmap hnew))
  go_loopw [4] (fun vi wr => ∃ k : Nat, k ≤ n ∧ vi = .int .i64 (k : Int) ∧ Hid (∀ i, i < k → (xs.getD i noStr).size ≤ 60) ∧ Hid (Pk w wr xs m k)) (fun vi _ => n - (intOf vi).toNat)
  case atStart => exact ⟨0, by omega, rfl, fun i hi => absurd hi (Nat.not_lt_zero _), HS0.out⟩
  case round =>
    clear HS0
    obtain ⟨k, hk, rfl, HZ, HS⟩ := hrel
    by_cases hlt : k < n
    · have hki : (k : Int) < (n : Int) := by omega
      obtain ⟨b, off, hp⟩ := SlS.at HV.out (HN.out ()) (by omega)
      subst hp
      obtain ⟨x, hx⟩ : ∃ x, x = xs.getD k noStr := ⟨_, rfl⟩
      have HX : Hid (∀ _ : Unit, x = xs.getD k noStr) := fun _ => hx
      have HC : Hid (∀ W, Below w.heap.size w W → W.cell? ⟨b, off + k, none⟩ = some (.string x)) := by
        intro W hW
        rw [hx]
        exact SlS.cells (HN.out ()) (SlV.below HV.out hW) k hlt
      have HC1 : Hid (wr.cell? ⟨b, off + k, none⟩ = some (.string x)) := HC.out wr HS.out.mem.below
      clear hx
      by_cases h60 : 60 < x.size
      · have h60i : (60 : Int) < (x.size : Int) := by omega
        go_wp2_with (first
          | ((with_reducible refine at_op (some 21) (.load 9 (.tmp 20)) ?_); go_must (refine wpl_execG (.string x) rfl (exec_ldx (.string x) (HC1.out) rfl ag_str) ?_)))
        go_ret
        exact ⟨rfl, HS.out.mem.below⟩
      · have h60i : ¬ (60 : Int) < (x.size : Int) := by omega
        have HZ2 : Hid (∀ i, i < k + 1 → (xs.getD i noStr).size ≤ 60) := fun i hi => by
          rcases Nat.lt_or_ge i k with h9 | h9
          · exact HZ.out i h9
          · rw [show i = k by omega, ← HX.out ()]; omega
        obtain ⟨r, hr⟩ : ∃ r, isP (bs x) = r := ⟨_, rfl⟩
        have HIS : Hid (∀ W, MaxL W → Calls Tryd.prog 15 #[.string x] W fun e w' => e = .returned (.bool r) ∧ Below W.heap.size W w') := fun W hW => by
          have h9 := is_any x W (by omega) hW
          rw [hr] at h9
          exact h9
        have HR : Hid (∀ _ : Unit, isP (bs x) = r) := fun _ => hr
        clear hr
        have hm := HS.out
        clear HS
        cases r with
        | false =>
          go_wp2_with (first
            | ((with_reducible refine at_op (some 21) (.load 9 (.tmp 20)) ?_); go_must (refine wpl_execG (.string x) rfl (exec_ldx (.string x) (HC1.out) rfl ag_str) ?_))
            | ((with_reducible refine at_op (some 27) (.load 9 (.tmp 26)) ?_); go_must (refine wpl_execG (.string x) rfl (exec_ldx (.string x) (HC1.out) rfl ag_str) ?_))
            | (go_at_call 15; refine (HIS.out _ (HM.out.below hm.mem.below)).mono ?_; rintro e w' ⟨he, hb⟩; subst he; replace hm := hm.call hb; clear hb))
          have HSE : Hid (Pk w _ xs m (k + 1)) := ⟨hm.mem, by obtain ⟨q, hq, hkm⟩ := hm.map; exact ⟨q, by omega, hkm.same (pK_no (by rw [← HX.out ()]; exact HR.out ()))⟩, hm.new⟩
          go_roundw
          case rel => exact ⟨k + 1, by omega, by go_num, HZ2.out, HSE.out⟩
          case measure => simp [intOf]; omega
        | true =>
          obtain ⟨cx, hcx⟩ : ∃ c, c = cdS x := ⟨_, rfl⟩
          have HCX : Hid (∀ _ : Unit, cx = cdS x) := fun _ => hcx
          have HCO : Hid (∀ W, MaxL W → Calls Tryd.prog 25 #[.string x] W fun e w' => e = .returned (.string cx) ∧ Below W.heap.size W w') := fun W hW => by rw [hcx]; exact code_any x W (by omega) hW
          clear hcx
          have hst := hm
          go_wp2_with (first
            | ((with_reducible refine at_op (some 21) (.load 9 (.tmp 20)) ?_); go_must (refine wpl_execG (.string x) rfl (exec_ldx (.string x) (HC1.out) rfl ag_str) ?_))
            | ((with_reducible refine at_op (some 27) (.load 9 (.tmp 26)) ?_); go_must (refine wpl_execG (.string x) rfl (exec_ldx (.string x) (HC1.out) rfl ag_str) ?_))
            | (go_at_call 15; refine (HIS.out _ (HM.out.below hst.mem.below)).mono ?_; rintro e w' ⟨he, hb⟩; subst he; replace hst := hst.call hb; clear hb hm; have hm := hst.mem))
          refine wp_ends0 ?_
          refine anyH_startB (T := fun W => Mem w [] W []) (by kernel_rfl) hm ?_
          intro wc hbw hmw
          replace hm : Mem w [] wc [] := hmw
          replace hst := hst.call hbw
          clear hbw hmw
          refine anyH_take 0 (v := .map (some m)) rfl (by kernel_rfl) (by kernel_rfl) (by kernel_rfl) rfl (fun W _ => by go_simp) hm ?_
          go_simp
          refine anyH_take 1 (v := .slice (some ⟨b, off, none⟩) n cap) rfl (by kernel_rfl) (by kernel_rfl) (by kernel_rfl) rfl (fun W _ => by go_simp) hm ?_
          go_simp
          refine anyH_take 2 (v := .int .i64 (k : Int)) rfl (by kernel_rfl) (by kernel_rfl) (by kernel_rfl) rfl (fun W _ => by go_simp) hm ?_
          go_simp
          refine anyH_take 3 (v := .pointer (some ⟨b, off + k, none⟩)) rfl (by kernel_rfl) (by kernel_rfl) (by kernel_rfl) rfl (fun W _ => by go_simp) hm ?_
          go_simp
          refine anyH_take 4 (v := .string x) rfl (by kernel_rfl) (by kernel_rfl) (by kernel_rfl) rfl (fun W hW => exec_ldx (.string x) (HC.out W hW.below) rfl ag_str) hm ?_
          go_simp
          refine anyH_take 6 (v := .slice (some ⟨b, off, none⟩) n cap) rfl (by kernel_rfl) (by kernel_rfl) (by kernel_rfl) rfl (fun W _ => by go_simp) hm ?_
          go_simp
          refine anyH_take 7 (v := .int .i64 (k : Int)) rfl (by kernel_rfl) (by kernel_rfl) (by kernel_rfl) rfl (fun W _ => by go_simp) hm ?_
          go_simp
          refine anyH_take 8 (v := .pointer (some ⟨b, off + k, none⟩)) rfl (by kernel_rfl) (by kernel_rfl) (by kernel_rfl) rfl (fun W _ => by go_simp) hm ?_
          go_simp
          refine anyH_take 9 (v := .string x) rfl (by kernel_rfl) (by kernel_rfl) (by kernel_rfl) rfl (fun W hW => exec_ldx (.string x) (HC.out W hW.below) rfl ag_str) hm ?_
          go_simp
          refine wpAnyH_all (rs := [5]) (by kernel_rfl) (by simp) ?_
          intro i hi
          simp only [List.mem_cons, List.not_mem_nil, or_false] at hi
          subst hi
          refine anyH_opW 5 rfl rfl ?_
          intro K hK
          go_wp2_with (go_at_call 25; refine (HCO.out _ (HM.out.below hm.below)).mono ?_; rintro e w' ⟨he, hb⟩; subst he; replace hm := hm.call hb; replace hst := hst.call hb; clear hb)
          refine hK _ _ hm ?_
          clear hK K
          go_simp
          refine wpAnyH_all (rs := [10]) (by kernel_rfl) (by simp) ?_
          intro i hi
          simp only [List.mem_cons, List.not_mem_nil, or_false] at hi
          subst hi
          refine anyH_opW 10 rfl rfl ?_
          intro K hK
          obtain ⟨kl, hkl⟩ := str_of cx (by rw [HCX.out ()]; exact cdS_size x)
          obtain ⟨q, hq, hkm⟩ := hst.map
          refine wpl_kmPut hkm str_key un_smap (by omega) hkl rfl rfl rfl ?_
          intro w7 st hu
          obtain ⟨es, cc, hmp⟩ := hkm.isMap
          have HSE : Hid (Pk w w7 xs m (k + 1)) := ⟨hst.mem.updO hmp (Or.inr hst.new) hu, ⟨q + 1, by omega, st.same (by rw [HCX.out (), HX.out ()]; exact pK_put (by rw [← HX.out ()]; exact HR.out ()))⟩, hst.new⟩
          clear st hu hmp hkm hq hkl hm hst
          refine wpList_nil ?_
          refine hK _ _ HSE.out.mem ?_
          clear hK K
          go_simp
          refine wpAnyH_done (by kernel_rfl) ?_ _
          simp only [endsIn]
          go_wp2_with fail
          go_roundw
          case rel => exact ⟨k + 1, by omega, by go_num, HZ2.out, HSE.out⟩
          case measure => simp [intOf]; omega
    · have hkn : n = k := by omega
      subst hkn
      have hki : ¬ (n : Int) < (n : Int) := by omega
      clear hk hlt
      go_wp2_with fail
      go_loopw [5] (fun vi wr => ∃ k : Nat, k ≤ n ∧ vi = .int .i64 (k : Int) ∧ Hid (Pk w wr xs m n)) (fun vi _ => n - (intOf vi).toNat)
      case atStart => exact ⟨0, by omega, rfl, HS.out⟩
      case round =>
        clear HS
        obtain ⟨k, hk, rfl, HS⟩ := hrel
        by_cases hlt : k < n
        · have hki2 : (k : Int) < (n : Int) := by omega
          obtain ⟨b, off, hp⟩ := SlS.at HV.out (HN.out ()) (by omega)
          subst hp
          obtain ⟨x, hx⟩ : ∃ x, x = xs.getD k noStr := ⟨_, rfl⟩
          have HX : Hid (∀ _ : Unit, x = xs.getD k noStr) := fun _ => hx
          have HC : Hid (∀ W, Below w.heap.size w W → W.cell? ⟨b, off + k, none⟩ = some (.string x)) := by
            intro W hW
            rw [hx]
            exact SlS.cells (HN.out ()) (SlV.below HV.out hW) k hlt
          have hxz : x.size ≤ 60 := by rw [hx]; exact HZ.out k hlt
          clear hx
          obtain ⟨r, hr⟩ : ∃ r, isP (bs x) = r := ⟨_, rfl⟩
          have HIS : Hid (∀ W, MaxL W → Calls Tryd.prog 15 #[.string x] W fun e w' => e = .returned (.bool r) ∧ Below W.heap.size W w') := fun W hW => by
            have h9 := is_any x W (by omega) hW
            rw [hr] at h9
            exact h9
          have HR : Hid (∀ _ : Unit, isP (bs x) = r) := fun _ => hr
          obtain ⟨cx, hcx⟩ : ∃ c, c = cdS x := ⟨_, rfl⟩
          have HCX : Hid (∀ _ : Unit, cx = cdS x) := fun _ => hcx
          have HCO : Hid (∀ W, MaxL W → Calls Tryd.prog 25 #[.string x] W fun e w' => e = .returned (.string cx) ∧ Below W.heap.size W w') := fun W hW => by rw [hcx]; exact code_any x W (by omega) hW
          clear hr hcx hxz
          have hst := HS.out
          clear HS
          have hm := hst.mem
          cases r with
          | false =>
            go_wp2_with fail
            refine wp_ends0 ?_
            refine anyH_startB (T := fun W => Pk w W xs m n) (by kernel_rfl) hm ?_
            intro wc hbw hmw
            replace hm : Pk w wc xs m n := hst.call hbw
            clear hbw hmw hst
            refine anyH_take 0 (v := .slice (some ⟨b, off, none⟩) n cap) rfl (by kernel_rfl) (by kernel_rfl) (by kernel_rfl) rfl (fun W _ => by go_simp) hm ?_
            go_simp
            refine anyH_take 1 (v := .int .i64 (k : Int)) rfl (by kernel_rfl) (by kernel_rfl) (by kernel_rfl) rfl (fun W _ => by go_simp) hm ?_
            go_simp
            refine anyH_take 2 (v := .pointer (some ⟨b, off + k, none⟩)) rfl (by kernel_rfl) (by kernel_rfl) (by kernel_rfl) rfl (fun W _ => by go_simp) hm ?_
            go_simp
            refine anyH_take 3 (v := .string x) rfl (by kernel_rfl) (by kernel_rfl) (by kernel_rfl) rfl (fun W hW => exec_ldx (.string x) (HC.out W hW.mem.below) rfl ag_str) hm ?_
            go_simp
            refine wpAnyH_all (rs := [4]) (by kernel_rfl) (by simp) ?_
            intro i hi
            simp only [List.mem_cons, List.not_mem_nil, or_false] at hi
            subst hi
            refine anyH_opW 4 rfl rfl ?_
            intro K hK
            go_wp2_with (go_at_call 15; refine (HIS.out _ (HM.out.below hm.mem.below)).mono ?_; rintro e w' ⟨he, hb⟩; subst he; replace hm := hm.call hb; clear hb)
            refine hK _ _ hm ?_
            clear hK K
            go_simp
            refine anyH_take 5 (v := .bool false) rfl (by kernel_rfl) (by kernel_rfl) (by kernel_rfl) rfl (fun W _ => by go_simp) hm ?_
            go_simp
            refine anyH_skip 6 rfl (by kernel_rfl) (by kernel_rfl) (by kernel_rfl) rfl hm ?_
            go_simp
            refine anyH_skip 7 rfl (by kernel_rfl) (by kernel_rfl) (by kernel_rfl) rfl hm ?_
            go_simp
            refine anyH_skip 8 rfl (by kernel_rfl) (by kernel_rfl) (by kernel_rfl) rfl hm ?_
            go_simp
            refine anyH_skip 9 rfl (by kernel_rfl) (by kernel_rfl) (by kernel_rfl) rfl hm ?_
            go_simp
            refine anyH_skip 10 rfl (by kernel_rfl) (by kernel_rfl) (by kernel_rfl) rfl hm ?_
            go_simp
            refine anyH_skip 11 rfl (by kernel_rfl) (by kernel_rfl) (by kernel_rfl) rfl hm ?_
            go_simp
            refine anyH_skip 12 rfl (by kernel_rfl) (by kernel_rfl) (by kernel_rfl) rfl hm ?_
            go_simp
            refine anyH_skip 13 rfl (by kernel_rfl) (by kernel_rfl) (by kernel_rfl) rfl hm ?_
            go_simp
            refine anyH_skip 14 rfl (by kernel_rfl) (by kernel_rfl) (by kernel_rfl) rfl hm ?_
            go_simp
            refine anyH_skip 15 rfl (by kernel_rfl) (by kernel_rfl) (by kernel_rfl) rfl hm ?_
            go_simp
            refine anyH_skip 16 rfl (by kernel_rfl) (by kernel_rfl) (by kernel_rfl) rfl hm ?_
            go_simp
            refine anyH_skip 17 rfl (by kernel_rfl) (by kernel_rfl) (by kernel_rfl) rfl hm ?_
            go_simp
            refine anyH_take 18 (v := .bool false) rfl (by kernel_rfl) (by kernel_rfl) (by kernel_rfl) rfl (fun W _ => by go_simp) hm ?_
            go_simp
            refine wpAnyH_done (by kernel_rfl) ?_ _
            simp only [endsIn]
            have HS2 : Hid (Pk w _ xs m n) := hm
            go_wp2_with fail
            go_roundw
            case rel => exact ⟨k + 1, by omega, by go_num, HS2.out⟩
            case measure => simp [intOf]; omega
          | true =>
            go_wp2_with fail
            refine wp_ends0 ?_
            refine anyH_startB (T := fun W => Pk w W xs m n) (by kernel_rfl) hm ?_
            intro wc hbw hmw
            replace hm : Pk w wc xs m n := hst.call hbw
            clear hbw hmw hst
            refine anyH_take 0 (v := .slice (some ⟨b, off, none⟩) n cap) rfl (by kernel_rfl) (by kernel_rfl) (by kernel_rfl) rfl (fun W _ => by go_simp) hm ?_
            go_simp
            refine anyH_take 1 (v := .int .i64 (k : Int)) rfl (by kernel_rfl) (by kernel_rfl) (by kernel_rfl) rfl (fun W _ => by go_simp) hm ?_
            go_simp
            refine anyH_take 2 (v := .pointer (some ⟨b, off + k, none⟩)) rfl (by kernel_rfl) (by kernel_rfl) (by kernel_rfl) rfl (fun W _ => by go_simp) hm ?_
            go_simp
            refine anyH_take 3 (v := .string x) rfl (by kernel_rfl) (by kernel_rfl) (by kernel_rfl) rfl (fun W hW => exec_ldx (.string x) (HC.out W hW.mem.below) rfl ag_str) hm ?_
            go_simp
            refine wpAnyH_all (rs := [4]) (by kernel_rfl) (by simp) ?_
            intro i hi
            simp only [List.mem_cons, List.not_mem_nil, or_false] at hi
            subst hi
            refine anyH_opW 4 rfl rfl ?_
            intro K hK
            go_wp2_with (go_at_call 15; refine (HIS.out _ (HM.out.below hm.mem.below)).mono ?_; rintro e w' ⟨he, hb⟩; subst he; replace hm := hm.call hb; clear hb)
            refine hK _ _ hm ?_
            clear hK K
            go_simp
            refine anyH_take 5 (v := .bool true) rfl (by kernel_rfl) (by kernel_rfl) (by kernel_rfl) rfl (fun W _ => by go_simp) hm ?_
            go_simp
            refine anyH_takeG 6 (v := .map (some m)) rfl (by kernel_rfl) (by kernel_rfl) (by kernel_rfl) rfl (fun W _ => by go_simp) hm ?_
            go_simp
            refine anyH_takeG 7 (v := .slice (some ⟨b, off, none⟩) n cap) rfl (by kernel_rfl) (by kernel_rfl) (by kernel_rfl) rfl (fun W _ => by go_simp) hm ?_
            go_simp
            refine anyH_takeG 8 (v := .int .i64 (k : Int)) rfl (by kernel_rfl) (by kernel_rfl) (by kernel_rfl) rfl (fun W _ => by go_simp) hm ?_
            go_simp
            refine anyH_takeG 9 (v := .pointer (some ⟨b, off + k, none⟩)) rfl (by kernel_rfl) (by kernel_rfl) (by kernel_rfl) rfl (fun W _ => by go_simp) hm ?_
            go_simp
            refine anyH_takeG 10 (v := .string x) rfl (by kernel_rfl) (by kernel_rfl) (by kernel_rfl) rfl (fun W hW => exec_ldx (.string x) (HC.out W hW.mem.below) rfl ag_str) hm ?_
            go_simp
            refine anyH_takeG 13 (v := .slice (some ⟨b, off, none⟩) n cap) rfl (by kernel_rfl) (by kernel_rfl) (by kernel_rfl) rfl (fun W _ => by go_simp) hm ?_
            go_simp
            refine anyH_takeG 14 (v := .int .i64 (k : Int)) rfl (by kernel_rfl) (by kernel_rfl) (by kernel_rfl) rfl (fun W _ => by go_simp) hm ?_
            go_simp
            refine anyH_takeG 15 (v := .pointer (some ⟨b, off + k, none⟩)) rfl (by kernel_rfl) (by kernel_rfl) (by kernel_rfl) rfl (fun W _ => by go_simp) hm ?_
            go_simp
            refine anyH_takeG 16 (v := .string x) rfl (by kernel_rfl) (by kernel_rfl) (by kernel_rfl) rfl (fun W hW => exec_ldx (.string x) (HC.out W hW.mem.below) rfl ag_str) hm ?_
            go_simp
            refine wpAnyH_all (rs := [11]) (by kernel_rfl) (by simp) ?_
            intro i hi
            simp only [List.mem_cons, List.not_mem_nil, or_false] at hi
            subst hi
            refine anyH_opW 11 rfl rfl ?_
            intro K hK
            go_wp2_with (go_at_call 25; refine (HCO.out _ (HM.out.below hm.mem.below)).mono ?_; rintro e w' ⟨he, hb⟩; subst he; replace hm := hm.call hb; clear hb)
            refine hK _ _ hm ?_
            clear hK K
            go_simp
            refine anyH_takeG 12 (v := .string x) rfl (by kernel_rfl) (by kernel_rfl) (by kernel_rfl) rfl (fun W hW => exec_look (hW.look hlt (HX.out ()) (HR.out ()) (HCX.out ())) rfl rfl) hm ?_
            go_simp
            refine anyH_takeG 17 (v := .bool false) rfl (by kernel_rfl) (by kernel_rfl) (by kernel_rfl) rfl (fun W _ => exec_neB x x true (eqs_yes _) rfl rfl) hm ?_
            go_simp
            refine anyH_take 18 (v := .bool false) rfl (by kernel_rfl) (by kernel_rfl) (by kernel_rfl) rfl (fun W _ => by go_simp) hm ?_
            go_simp
            refine wpAnyH_done (by kernel_rfl) ?_ _
            simp only [endsIn]
            have HS2 : Hid (Pk w _ xs m n) := hm
            go_wp2_with fail
            go_roundw
            case rel => exact ⟨k + 1, by omega, by go_num, HS2.out⟩
            case measure => simp [intOf]; omega
        · have hkn : n = k := by omega
          subst hkn
          have hki2 : ¬ (n : Int) < (n : Int) := by omega
          go_wp2_with fail
          go_ret
          exact ⟨rfl, HS.out.mem.below⟩
set_option maxRecDepth 100000 in
theorem pkeys_walk (xs : List ByteArray) (v : Value) (w : World) (hv : SlS w v xs) (hM : MaxL w) :
    Calls Tryd.prog 7 #[v] w fun e w' => e = .returned (.bool true) ∧ Below w.heap.size w w' := by
  obtain ⟨p, cap, rfl, hc⟩ := SlV.len hv
  by_cases h : 12 < xs.length
  · exact pkeys_many xs.length cap p w h hM
  · exact pkeys_few xs xs.length cap p w rfl (by omega) hv hM
end Go.Proofs.YtikmmheknfljkaaDoor
