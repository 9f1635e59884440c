/- The document's joined segments, parents, codes. -/
import Derived.Test.YtikmmheknfljkaaDoorPaRefC
namespace Go.Proofs.YtikmmheknfljkaaDoor
open Go Go.RowKit
set_option maxRecDepth 100000 in
theorem cutHi_some (g o cap : Nat) : cutHi (some ⟨g, o, none⟩) cap = some ⟨g, o, none⟩ := by
  unfold cutHi
  split
  · rfl
  · simp [add_at]
set_option maxRecDepth 100000 in
theorem exec_hiB {a : Act} {w : World} {dst : Option Tmp} {typ : TypeId} {pos : String} {aft : Array Edge} {gd : Option (Nat × Bool)} {x hi : Operand} {g o len cap : Nat} (m : Nat) {ih : Int} (hm : m ≤ cap) (hx : a.eval x = .slice (some ⟨g, o, none⟩) len cap) (hhi : a.eval hi = .int .i64 ih) (hih : ih = (m : Int)) :
    (execOp a.eval { dst := dst, op := .slice 22 x none (some hi) none, type := typ, pos := pos, after := aft, guard := gd }).run Tryd.prog w = .ok (.value (.slice (some ⟨g, o, none⟩) m cap)) w := by
  have h := exec_sHi (P := Tryd.prog) (w := w) (dst := dst) (typ := typ) (pos := pos) (aft := aft) (gd := gd) un_strs sz_str m hm hx hhi hih
  rw [cutHi_some] at h
  exact h
def jnk (c : UInt8) (xs : List ByteArray) (k : Nat) : List UInt8 := jn c ((xs.take k).map bs)
set_option maxRecDepth 100000 in
theorem jn_snoc (c : UInt8) : ∀ {ks : List (List UInt8)} (x : List UInt8), ks ≠ [] → jn c (ks ++ [x]) = jn c ks ++ c :: x
  | [], _, h => absurd rfl h
  | [k], x, _ => by rw [List.singleton_append, jn_cons, jn_one, jn_one]
  | k :: q :: r, x, _ => by
    have := jn_snoc c (ks := q :: r) x (by simp)
    rw [List.cons_append, List.cons_append, jn_cons, jn_cons, ← List.cons_append, this]
    simp
set_option maxRecDepth 100000 in
theorem take_map_next {xs : List ByteArray} {k : Nat} (hk : k < xs.length) : (xs.take (k + 1)).map bs = (xs.take k).map bs ++ [bs (xs.getD k noStr)] := by
  have e : xs[k]? = some (xs.getD k noStr) := by simp [hk]
  rw [List.take_add_one, e, List.map_append]; rfl
set_option maxRecDepth 100000 in
theorem jnk_one {c : UInt8} {xs : List ByteArray} (hk : 0 < xs.length) : jnk c xs 1 = bs (xs.getD 0 noStr) := by
  rw [jnk, take_map_next hk]; simp [jn_one]
set_option maxRecDepth 100000 in
theorem jnk_next {c : UInt8} {xs : List ByteArray} {k : Nat} (hk : k + 1 < xs.length) : jnk c xs (k + 2) = (jnk c xs (k + 1) ++ [c]) ++ bs (xs.getD (k + 1) noStr) := by
  rw [jnk, take_map_next hk, jn_snoc c _ (by
    intro h
    have := congrArg List.length h
    rw [List.length_map, List.length_take, List.length_nil] at this
    omega), jnk]
  simp
set_option maxRecDepth 100000 in
theorem jn_len2 (c : UInt8) (B : Nat) : ∀ {ks : List (List UInt8)}, (∀ k ∈ ks, k.length ≤ B) → (jn c ks).length ≤ (B + 1) * ks.length
  | [], _ => by simp [jn_nil]
  | [k], h => by rw [jn_one]; have := h k (by simp); simp; omega
  | k :: q :: r, h => by
    have := h k (by simp)
    have h2 := jn_len2 c B (ks := q :: r) (fun x hx => h x (List.mem_cons_of_mem _ hx))
    rw [jn_cons]
    simp only [List.length_append, List.length_cons] at h2 ⊢
    have e : (B + 1) * (r.length + 1 + 1) = (B + 1) * (r.length + 1) + (B + 1) := by rw [Nat.mul_succ]
    omega
set_option maxRecDepth 100000 in
theorem jnk_len {c : UInt8} {xs : List ByteArray} (hl : xs.length ≤ 200) (hz : ∀ x ∈ xs, x.size ≤ 200) (k : Nat) : (jnk c xs k).length ≤ 50000 := by
  have := jn_len2 c 200 (ks := (xs.take k).map bs) (fun y hy => by obtain ⟨x, hx, rfl⟩ := List.mem_map.1 hy; rw [bs_length]; exact hz x (List.mem_of_mem_take hx))
  have h2 : ((xs.take k).map bs).length ≤ 200 := by simp; omega
  have h3 : (200 + 1) * ((xs.take k).map bs).length ≤ (200 + 1) * 200 := Nat.mul_le_mul_left _ h2
  unfold jnk
  omega
set_option maxHeartbeats 4000000 in
set_option maxRecDepth 100000 in
theorem joinedR_go (c : UInt8) (xs : List ByteArray) (n cap : Nat) (p : Option Addr) (w : World) (hn : xs.length = n) (hv : SlS w (.slice p n cap) xs) (hl : n ≤ 200) (hz : ∀ x ∈ xs, x.size ≤ 200) :
    Calls Tryd.prog 34 #[.slice p n cap, .string ⟨#[c]⟩] w fun e w' => e = .returned (.string (mkS (jn c (xs.map bs)))) ∧ Below w.heap.size w w' := by
  have HV : Hid (SlS w (.slice p n cap) xs) := hv
  have HN : Hid (∀ _ : Unit, xs.length = n) := fun _ => hn
  have HZ : Hid (∀ x ∈ xs, x.size ≤ 200) := hz
  have HJ : Hid (∀ k, (jnk c xs k).length ≤ 50000) := fun k => jnk_len (by omega) hz k
  obtain ⟨sp, hsp⟩ : ∃ sp, sp = mkS [c] := ⟨_, rfl⟩
  have HSP : Hid (∀ _ : Unit, sp = mkS [c]) := fun _ => hsp
  rw [show (⟨#[c]⟩ : ByteArray) = sp from hsp.symm]
  clear hv hn hz hsp
  go_enter Tryd.func34, Tryd.ntmps34
  go_wp2_with fail
  go_loopw [5, 6] (fun vs vi wr => ∃ k : Nat, k ≤ n ∧ vi = .int .i64 (k : Int) ∧ vs = .string (mkS (jnk c xs k)) ∧ Hid (Below w.heap.size w wr)) (fun _ vi _ => n - (intOf vi).toNat)
  case atStart => exact ⟨0, by omega, rfl, rfl, Below.refl _ _⟩
  case round =>
    obtain ⟨k, hk, rfl, rfl, HB⟩ := hrel
    by_cases hlt : k < n
    · have hki : (k : Int) < (n : Int) := by omega
      obtain ⟨b, off, hp⟩ := SlS.at HV.out (HN.out ()) (by omega)
      subst hp
      obtain ⟨x, hx⟩ : ∃ x, x = xs.getD k noStr := ⟨_, rfl⟩
      have HC : Hid (wr.cell? ⟨b, off + k, none⟩ = some (.string x)) := by
        rw [hx]
        exact SlS.cells (HN.out ()) (SlV.below HV.out HB.out) k hlt
      have hmem : x ∈ xs := by
        rw [hx, List.getD_eq_getElem?_getD, List.getElem?_eq_getElem (by rw [HN.out ()]; exact hlt)]
        exact List.getElem_mem _
      have hxz := HZ.out x hmem
      obtain ⟨c1, hc1⟩ : ∃ s, s = mkS (jnk c xs k) := ⟨_, rfl⟩
      obtain ⟨c3, hc3⟩ : ∃ s, s = mkS (jnk c xs (k + 1)) := ⟨_, rfl⟩
      have hz1 : c1.size ≤ 50000 := by rw [hc1, mkS_size]; exact HJ.out k
      have HC3 : Hid (∀ _ : Unit, c3 = mkS (jnk c xs (k + 1))) := fun _ => hc3
      cases k with
      | zero =>
        have HA : Hid (∀ _ : Unit, c3 = c1 ++ x) := fun _ => by
          rw [hc3, hc1, jnk_one (by rw [HN.out ()]; exact hlt), ← hx, show mkS (jnk c xs 0) = mkS [] from rfl]
          conv => rhs; rw [← mkS_bs x]
          rw [mkS_append]; rfl
        have HZ1 : Hid (∀ _ : Unit, c1.size + x.size ≤ 1000000000) := fun _ => by omega
        rw [← hc1]
        clear hx hmem hc1 hc3 hz1 hxz
        go_wp2_with (first
          | ((with_reducible refine at_op (some 22) (.load 9 (.tmp 21)) ?_); go_must (refine wpl_execG (.string x) rfl (exec_ldx (.string x) (HC.out) rfl ag_str) ?_))
          | ((with_reducible refine at_op (some 23) (.binOp .add 9 (.tmp 18) (.tmp 22) 9) ?_); go_must (refine wpl_execG (.string c3) rfl (exec_addB c1 x c3 (HA.out ()) rfl rfl (HZ1.out ())) ?_)))
        go_roundw
        case rel => exact ⟨1, by omega, by go_num, by rw [HC3.out ()], HB.out⟩
        case measure => simp [intOf]; omega
      | succ k =>
        have hgt : (0 : Int) < ((k + 1 : Nat) : Int) := by omega
        obtain ⟨c2, hc2⟩ : ∃ s, s = c1 ++ sp := ⟨_, rfl⟩
        have HA2 : Hid (∀ _ : Unit, c2 = c1 ++ sp) := fun _ => hc2
        have hspz : sp.size = 1 := by rw [HSP.out (), mkS_size]; rfl
        have HA : Hid (∀ _ : Unit, c3 = c2 ++ x) := fun _ => by
          rw [hc3, hc2, hc1, jnk_next (by rw [HN.out ()]; exact hlt), ← hx, HSP.out (), mkS_append]
          conv => rhs; rw [← mkS_bs x]
          rw [mkS_append]
        have HZ1 : Hid (∀ _ : Unit, c1.size + sp.size ≤ 1000000000) := fun _ => by omega
        have HZ2 : Hid (∀ _ : Unit, c2.size + x.size ≤ 1000000000) := fun _ => by rw [hc2, ByteArray.size_append]; omega
        rw [← hc1]
        clear hx hmem hc1 hc2 hc3 hz1 hxz hspz
        go_wp2_with (first
          | ((with_reducible refine at_op (some 22) (.load 9 (.tmp 21)) ?_); go_must (refine wpl_execG (.string x) rfl (exec_ldx (.string x) (HC.out) rfl ag_str) ?_))
          | ((with_reducible refine at_op (some 17) (.binOp .add 9 (.tmp 15) (.tmp 16) 9) ?_); go_must (refine wpl_execG (.string c2) rfl (exec_addB c1 sp c2 (HA2.out ()) rfl rfl (HZ1.out ())) ?_))
          | ((with_reducible refine at_op (some 23) (.binOp .add 9 (.tmp 18) (.tmp 22) 9) ?_); go_must (refine wpl_execG (.string c3) rfl (exec_addB c2 x c3 (HA.out ()) rfl rfl (HZ2.out ())) ?_)))
        go_roundw
        case rel => exact ⟨k + 1 + 1, by omega, by go_num, by rw [HC3.out ()], HB.out⟩
        case measure => simp [intOf]; omega
    · have hkn : n = k := by omega
      subst hkn
      have hki : ¬ (n : Int) < (n : Int) := by omega
      have HE : Hid (∀ _ : Unit, jnk c xs n = jn c (xs.map bs)) := fun _ => by rw [jnk, List.take_of_length_le (by rw [HN.out ()]; exact Nat.le_refl _)]
      go_wp2_with fail
      go_ret
      refine ⟨?_, HB.out⟩
      rw [← HE.out ()]
      rfl
set_option maxRecDepth 100000 in
theorem joinedR_any (c : UInt8) (xs : List ByteArray) (v : Value) (w : World) (hv : SlS w v xs) (hl : xs.length ≤ 200) (hz : ∀ x ∈ xs, x.size ≤ 200) :
    Calls Tryd.prog 34 #[v, .string ⟨#[c]⟩] w fun e w' => e = .returned (.string (mkS (jn c (xs.map bs)))) ∧ Below w.heap.size w w' := by
  obtain ⟨p, cap, rfl, _⟩ := SlV.len hv
  exact joinedR_go c xs xs.length cap p w rfl hv hl hz
set_option maxHeartbeats 4000000 in
set_option maxRecDepth 100000 in
theorem joinR_go (xs : List ByteArray) (n cap : Nat) (p : Option Addr) (w : World) (hn : xs.length = n) (hv : SlS w (.slice p n cap) xs) (hl : n ≤ 1000) (hz : ∀ x ∈ xs, x.size ≤ maxLen) :
    Calls Tryd.prog 21 #[.slice p n cap] w fun e w' => e = .returned (.string (mkS (jn 47 ((plOf xs).map bs)))) ∧ Below w.heap.size w w' := by
  have HV : Hid (SlS w (.slice p n cap) xs) := hv
  have HN : Hid (∀ _ : Unit, xs.length = n) := fun _ => hn
  have HZ : Hid (∀ x ∈ xs, x.size ≤ maxLen) := hz
  clear hv hn hz
  go_enter Tryd.func21, Tryd.ntmps21
  go_wp2_with fail
  go_loopw [3] (fun vi wr => ∃ k : Nat, k ≤ n ∧ vi = .int .i64 (k : Int) ∧ Hid ((xs.take k).all (fun x => seg (bs x)) = true) ∧ Hid (Below w.heap.size w wr)) (fun vi _ => n - (intOf vi).toNat)
  case atStart => exact ⟨0, by omega, rfl, rfl, Below.refl _ _⟩
  case round =>
    obtain ⟨k, hk, rfl, HA, HB⟩ := hrel
    by_cases hlt : k < n
    · have hki : (k : Int) < (n : Int) := by omega
      obtain ⟨b, off, hp⟩ := SlS.at HV.out (HN.out ()) (by omega)
      subst hp
      obtain ⟨x, hx⟩ : ∃ x, x = xs.getD k noStr := ⟨_, rfl⟩
      have HC : Hid (wr.cell? ⟨b, off + k, none⟩ = some (.string x)) := by
        rw [hx]
        exact SlS.cells (HN.out ()) (SlV.below HV.out HB.out) k hlt
      have hmem : x ∈ xs := by
        rw [hx, List.getD_eq_getElem?_getD, List.getElem?_eq_getElem (by rw [HN.out ()]; exact hlt)]
        exact List.getElem_mem _
      have HXZ : Hid (x.size ≤ maxLen) := HZ.out x hmem
      have HX : Hid (∀ _ : Unit, x = xs.getD k noStr ∧ x ∈ xs) := fun _ => ⟨hx, hmem⟩
      obtain ⟨r, hr⟩ : ∃ r, seg (bs x) = r := ⟨_, rfl⟩
      have HR : Hid (∀ _ : Unit, seg (bs x) = r) := fun _ => hr
      clear hx hmem hr
      cases r with
      | true =>
        go_wp2_with (first
          | ((with_reducible refine at_op (some 13) (.load 9 (.tmp 12)) ?_); go_must (refine wpl_execG (.string x) rfl (exec_ldx (.string x) (HC.out) rfl ag_str) ?_))
          | (go_at_call 14; refine (segR_any x _ HXZ.out).mono ?_; rintro e w' ⟨he, hw⟩; rw [HR.out ()] at he; subst he; subst hw))
        go_roundw
        case rel => exact ⟨k + 1, by omega, by go_num, all_next (by rw [HN.out ()]; exact hlt) HA.out (by rw [← (HX.out ()).1]; exact HR.out ()), HB.out⟩
        case measure => simp [intOf]; omega
      | false =>
        go_wp2_with (first
          | ((with_reducible refine at_op (some 13) (.load 9 (.tmp 12)) ?_); go_must (refine wpl_execG (.string x) rfl (exec_ldx (.string x) (HC.out) rfl ag_str) ?_))
          | (go_at_call 14; refine (segR_any x _ HXZ.out).mono ?_; rintro e w' ⟨he, hw⟩; rw [HR.out ()] at he; subst he; subst hw))
        go_ret
        refine ⟨?_, HB.out⟩
        rw [plOf, okSegs_no (HX.out ()).2 (HR.out ())]
        rfl
    · have hkn : n = k := by omega
      subst hkn
      have hki : ¬ (n : Int) < (n : Int) := by omega
      by_cases h3 : n ≤ 3
      · have h3i : ¬ (3 : Int) < (n : Int) := by omega
        have hok : okSegs (xs.map bs) = true := okSegs_yes (by rw [HN.out ()]; exact h3) (by rw [HN.out ()]; exact HA.out)
        have HPL : Hid (∀ _ : Unit, plOf xs = xs) := fun _ => by rw [plOf, hok]; rfl
        have HSZ : Hid (∀ x ∈ xs, x.size ≤ 200) := fun x hx => by have := ((PlOk.of hok).size hx).2; omega
        clear hok
        have hm := Mem.start wr
        go_wp2_with (first
          | (go_at_call 34; refine (joinedR_go 47 xs n cap p _ (HN.out ()) (SlV.below HV.out HB.out) (by omega) HSZ.out).mono ?_; rintro e w' ⟨he, hb⟩; subst he; replace hm := hm.call hb; clear hb))
        go_ret
        refine ⟨?_, below_next HB.out HB.out.size hm.below⟩
        rw [HPL.out ()]
        rfl
      · have h3i : (3 : Int) < (n : Int) := by omega
        go_wp2_with fail
        go_ret
        refine ⟨?_, HB.out⟩
        rw [plOf, okSegs_many (by rw [HN.out ()]; omega)]
        rfl
set_option maxRecDepth 100000 in
theorem joinR_any (xs : List ByteArray) (v : Value) (w : World) (hv : SlS w v xs) (hl : xs.length ≤ 1000) (hz : ∀ x ∈ xs, x.size ≤ maxLen) :
    Calls Tryd.prog 21 #[v] w fun e w' => e = .returned (.string (mkS (jn 47 ((plOf xs).map bs)))) ∧ Below w.heap.size w w' := by
  obtain ⟨p, cap, rfl, _⟩ := SlV.len hv
  exact joinR_go xs xs.length cap p w rfl hv hl hz
set_option maxRecDepth 100000 in
theorem sls_take {w : World} {b off n cap : Nat} {xs : List ByteArray} (hn : xs.length = n) (h : SlS w (.slice (some ⟨b, off, none⟩) n cap) xs) (m : Nat) (hm : m ≤ n) : SlS w (.slice (some ⟨b, off, none⟩) m cap) (xs.take m) := by
  subst hn
  obtain ⟨q, c, hv, hc, _, hs⟩ := h
  simp only [Value.slice.injEq] at hv
  obtain ⟨rfl, _, rfl⟩ := hv
  have hl : (xs.take m).length = m := by rw [List.length_take, Nat.min_eq_left hm]
  refine ⟨some ⟨b, off, none⟩, cap, by rw [hl], by rw [hl]; omega, by simp [strs], fun h0 => ?_⟩
  rw [hl] at h0
  obtain ⟨b', off', hp, hseg⟩ := hs (by omega)
  simp only [Option.some.injEq, Addr.mk.injEq] at hp
  obtain ⟨rfl, rfl, _⟩ := hp
  refine ⟨b, off, rfl, fun j u hu => hseg j u ?_⟩
  unfold strs at hu ⊢
  rw [List.map_take, List.getElem?_take] at hu
  split at hu
  · exact hu
  · cases hu
set_option maxHeartbeats 4000000 in
set_option maxRecDepth 100000 in
theorem parentR_any (s : ByteArray) (w : World) (hs : s.size ≤ 1000) :
    Calls Tryd.prog 10 #[.string s] w fun e w' => e = .returned (.tuple #[.string (mkS (parOf (bs s))), .bool (parOk (bs s))]) ∧ Below w.heap.size w w' := by
  have hm := Mem.start w
  obtain ⟨ks, hks⟩ : ∃ ks, ks = segsB s := ⟨_, rfl⟩
  obtain ⟨n, hn⟩ : ∃ n, n = ks.length := ⟨_, rfl⟩
  have HN : Hid (∀ _ : Unit, ks.length = n) := fun _ => hn.symm
  have HK : Hid (∀ _ : Unit, PlOk ks) := fun _ => by rw [hks]; exact segsB_ok s
  have HKS : Hid (∀ _ : Unit, segsOf (bs s) = ks.map bs) := fun _ => by rw [hks, segsB_bs]
  have hn3 : n ≤ 3 := by rw [hn]; exact (HK.out ()).len
  have HSP : Hid (∀ W, Calls Tryd.prog 19 #[.string s] W fun e w' => ∃ v, e = .returned v ∧ SlS w' v ks ∧ Below W.heap.size W w') := fun W => by rw [hks]; exact splitR_any s W hs
  clear hks hn hs
  by_cases h0 : n = 0
  · have HP1 : Hid (∀ _ : Unit, parOk (bs s) = false ∧ parOf (bs s) = []) := fun _ => parOk_nil (by rw [HKS.out (), List.length_eq_zero_iff.1 ((HN.out ()).trans h0)]; rfl)
    have h0i : ((n : Int) == 0) = true := by rw [beq_iff_eq]; omega
    go_enter Tryd.func10, Tryd.ntmps10
    go_wp2_with (first
      | (go_at_call 19; refine (HSP.out _).mono ?_; rintro e w9 ⟨v, he, ho, hb⟩; subst he; obtain ⟨p, cap, hv, hcap⟩ := SlV.len ho; subst hv; have HO : Hid (SlS w9 (.slice p n cap) ks) := by { have h9 := ho; rw [HN.out ()] at h9; exact h9 }; rw [HN.out ()]; rw [HN.out ()] at hcap; clear ho; replace hm := hm.call hb; clear hb))
    go_ret2
    exact ⟨by rw [(HP1.out ()).1, (HP1.out ()).2]; rfl, hm.below⟩
  · have hne : ks ≠ [] := fun h => h0 (by rw [← HN.out (), h]; rfl)
    have hip : isP (bs s) = true := by
      cases hi : isP (bs s) with
      | true => rfl
      | false =>
        have := HKS.out ()
        rw [segsOf_no hi] at this
        exact absurd (List.map_eq_nil_iff.1 this.symm) hne
    obtain ⟨m, hm1⟩ : ∃ m, n = m + 1 := ⟨n - 1, by omega⟩
    have HP1 : Hid (∀ _ : Unit, parOk (bs s) = true ∧ parOf (bs s) = jn 47 ((ks.take m).map bs)) := fun _ => by
      have := parOk_yes hip (by rw [HKS.out ()]; simpa using hne)
      rw [HKS.out (), ← List.map_dropLast, List.dropLast_eq_take, HN.out (), hm1, Nat.add_sub_cancel] at this
      exact this
    have HPL : Hid (∀ _ : Unit, plOf (ks.take m) = ks.take m) := fun _ => by rw [plOf, (take_ok (HK.out ()) m).to]; rfl
    have HTK : Hid (∀ x ∈ ks.take m, x.size ≤ maxLen) := fun x hx => by have := ((HK.out ()).size (List.mem_of_mem_take hx)).2; unfold maxLen; omega
    have HTL : Hid (∀ _ : Unit, (ks.take m).length = m) := fun _ => by rw [List.length_take, HN.out ()]; omega
    have h0i : ((n : Int) == 0) = false := by rw [beq_eq_false_iff_ne]; omega
    have hwr : IntKind.i64.wrap ((n : Int) - 1) = (m : Int) := (wrapi _ (by omega) (by omega)).trans (by omega)
    have hmn : m ≤ n := by omega
    clear hne hip hm1
    go_enter Tryd.func10, Tryd.ntmps10
    go_wp2_with (first
      | (go_at_call 19; refine (HSP.out _).mono ?_; rintro e w9 ⟨v, he, ho, hb⟩; subst he; obtain ⟨p, cap, hv, hcap⟩ := SlV.len ho; subst hv; have HO : Hid (SlS w9 (.slice p n cap) ks) := by { have h9 := ho; rw [HN.out ()] at h9; exact h9 }; rw [HN.out ()]; rw [HN.out ()] at hcap; clear ho; replace hm := hm.call hb; clear hb)
      | ((with_reducible refine at_op (some 14) (.slice 22 (.tmp 10) none (some (.tmp 13)) none) ?_); obtain ⟨b, off, hp9⟩ := SlS.at HO.out (HN.out ()) (by omega); subst hp9; go_must (refine wpl_execG (.slice (some ⟨b, off, none⟩) m cap) rfl (exec_hiB m (by omega) rfl rfl rfl) ?_))
      | (go_at_call 21; refine (joinR_go (ks.take m) m cap _ _ (HTL.out ()) (sls_take (HN.out ()) HO.out m hmn) (by omega) HTK.out).mono ?_; rintro e w' ⟨he, hb⟩; rw [HPL.out ()] at he; subst he; replace hm := hm.call hb; clear hb))
    go_ret2
    exact ⟨by rw [(HP1.out ()).1, (HP1.out ()).2, List.map_take]; rfl, hm.below⟩
end Go.Proofs.YtikmmheknfljkaaDoor
