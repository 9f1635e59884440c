/- The reference's Size and keys. -/
import Derived.Test.YtnahflppggoplaaNdRefT
import Derived.Test.YtnahflppggoplaaNdFit
namespace Go.Proofs.Ytnahflppggoplaa
open Go Go.RowKit
set_option maxRecDepth 100000 in
theorem exec_minI {a : Act} {w : World} {dst : Option Tmp} {typ : TypeId} {pos : String} {aft : Array Edge} {gd : Option (Nat × Bool)} {x y : Operand} {i j : Int} (c : Int) (hx : a.eval x = .int .i64 i) (hy : a.eval y = .int .i64 j) (hc : (if j < i then j else i) = c) :
    (execOp a.eval { dst := dst, op := .call { callee := .builtin .min, args := #[x, y], argTypes := #[3, 3] }, type := typ, pos := pos, after := aft, guard := gd }).run Try.prog w = .ok (.value (.int .i64 c)) w := by
  subst hc
  unfold execOp
  simp only [resolve, invoke, builtin, Sem.run_bind, Sem.run_pure, Result.andThen_ok, List.map_toArray, List.map_cons, List.map_nil, hx, hy]
  simp [Builtin.min_, Builtin.min2]
set_option maxRecDepth 100000 in
theorem exec_ixS {a : Act} {w : World} {dst : Option Tmp} {typ : TypeId} {pos : String} {aft : Array Edge} {gd : Option (Nat × Bool)} {x ix : Operand} {b o n cap : Nat} (i : Nat) {ii : Int} (hx : a.eval x = .slice (some ⟨b, o, none⟩) n cap) (hix : a.eval ix = .int .i64 ii) (hii : ii = (i : Int)) (hi : i < n) :
    (execOp a.eval { dst := dst, op := .indexAddr 30 x ix, type := typ, pos := pos, after := aft, guard := gd }).run Try.prog w = .ok (.value (.pointer (some ⟨b, o + i, none⟩))) w := by
  subst hii
  have h0 : (0 : Int) ≤ (i : Int) ∧ (i : Int) < (n : Int) := by omega
  unfold execOp
  simp [hx, hix, Instr.indexAt, asIntOf, run_underlying un_strs, h0, add_at]
  omega
set_option maxHeartbeats 3000000 in
set_option maxRecDepth 100000 in
theorem sizeR_any (l : List (ByteArray × ByteArray)) (n : Nat) (v : Value) (hn : l.length = n) (hnl : n ≤ 1000) (w : World) (hv : SlP w v l) :
    Calls Try.prog 35 #[v] w fun e w' => e = .returned (.int .i64 ((min (szP l) 100000 : Nat) : Int)) ∧ Below w.heap.size w w' := by
  obtain ⟨p, cap, rfl, hcap⟩ := SlV.len hv
  have HV : Hid (SlP w (.slice p l.length cap) l) := hv
  have HN : Hid (l.length = n) := hn
  rw [hn] at hcap HV ⊢
  clear hv hn
  go_enter Try.func35, Try.ntmps35
  go_wp2_with fail
  go_loopw [3, 4] (fun vs vi wr => ∃ k s : Nat, k ≤ n ∧ vi = .int .i64 (k : Int) ∧ s ≤ 100000 ∧ vs = .int .i64 (s : Int) ∧ Hid (min (szP (l.take k)) 100000 = s) ∧ Hid (Below w.heap.size w wr)) (fun _ vi _ => n - (intOf vi).toNat)
  case atStart => exact ⟨0, 3, by omega, rfl, by omega, rfl, rfl, Below.refl _ _⟩
  case round =>
    obtain ⟨k, s, hk, rfl, hs, rfl, HS, HB⟩ := hrel
    by_cases hlt : k < n
    · have hki : (k : Int) < (n : Int) := by omega
      obtain ⟨b, off, hp⟩ := SlP.at HV.out HN.out (by omega)
      subst hp
      obtain ⟨kk, hkk⟩ : ∃ x, x = (l.getD k (noStr, noStr)).1 := ⟨_, rfl⟩
      obtain ⟨vv, hvv⟩ : ∃ x, x = (l.getD k (noStr, noStr)).2 := ⟨_, rfl⟩
      have HC : Hid (∀ W, Below wr.heap.size wr W → W.cell? ⟨b, off + k * 2, none⟩ = some (.string kk) ∧ W.cell? ⟨b, off + k * 2 + 1, none⟩ = some (.string vv)) := by
        intro W hW
        rw [hkk, hvv]
        exact SlP.cells HN.out (SlV.below HV.out (below_next HB.out HB.out.size hW)) k hlt
      obtain ⟨A, hA⟩ : ∃ A, A = min kk.size 100000 := ⟨_, rfl⟩
      obtain ⟨D, hD⟩ : ∃ D, D = min vv.size 100000 := ⟨_, rfl⟩
      obtain ⟨S, hS⟩ : ∃ S, S = min (s + 4 + A + D) 100000 := ⟨_, rfl⟩
      have HA : Hid ((if (kk.size : Int) < 100000 then (kk.size : Int) else 100000) = (A : Int)) := by show _ = _; rw [hA]; split <;> omega
      have HD : Hid ((if (vv.size : Int) < 100000 then (vv.size : Int) else 100000) = (D : Int)) := by show _ = _; rw [hD]; split <;> omega
      have HSS : Hid ((if (s : Int) + 4 + (A : Int) + (D : Int) < 100000 then (s : Int) + 4 + (A : Int) + (D : Int) else 100000) = (S : Int)) := by show _ = _; rw [hS]; split <;> omega
      have HST : Hid (min (szP (l.take (k + 1))) 100000 = S) := by
        show _ = _
        rw [szP_take l k (by rw [HN.out]; exact hlt), psz, ← hkk, ← hvv]
        have h9 := HS.out
        omega
      have hAb : A ≤ 100000 := by omega
      have hDb : D ≤ 100000 := by omega
      have hSb : S ≤ 100000 := by omega
      have hm := Mem.start wr
      have HW1 : IntKind.i64.wrap ((s : Int) + 4) = (s : Int) + 4 := wrapi _ (by omega) (by omega)
      have HW2 : IntKind.i64.wrap ((s : Int) + 4 + (A : Int)) = (s : Int) + 4 + (A : Int) := wrapi _ (by omega) (by omega)
      have HW3 : IntKind.i64.wrap ((s : Int) + 4 + (A : Int) + (D : Int)) = (s : Int) + 4 + (A : Int) + (D : Int) := wrapi _ (by omega) (by omega)
      clear hkk hvv hA hD hS
      go_wp2_with fail
      refine wp_ends0 ?_
      refine anyH_start (T := fun W => Mem wr [] W []) (by kernel_rfl) hm ?_
      clear hm
      intro wc hm
      refine anyH_take 0 (v := .int .i64 (s : Int)) rfl (by kernel_rfl) (by kernel_rfl) (by kernel_rfl) rfl (fun W _ => by go_simp) hm ?_
      go_simp
      refine anyH_take 1 (v := .int .i64 ((s : Int) + 4)) rfl (by kernel_rfl) (by kernel_rfl) (by kernel_rfl) rfl (fun W _ => by go_simp) hm ?_
      go_simp
      refine anyH_take 2 (v := .slice (some ⟨b, off, none⟩) n cap) rfl (by kernel_rfl) (by kernel_rfl) (by kernel_rfl) rfl (fun W _ => by go_simp) hm ?_
      go_simp
      refine anyH_take 3 (v := .int .i64 (k : Int)) rfl (by kernel_rfl) (by kernel_rfl) (by kernel_rfl) rfl (fun W _ => by go_simp) hm ?_
      go_simp
      refine anyH_take 4 (v := .pointer (some ⟨b, off + k * 2, none⟩)) rfl (by kernel_rfl) (by kernel_rfl) (by kernel_rfl) rfl (fun W _ => exec_ixP k rfl rfl rfl hlt) hm ?_
      go_simp
      refine anyH_take 5 (v := .pointer (some ⟨b, off + k * 2, none⟩)) rfl (by kernel_rfl) (by kernel_rfl) (by kernel_rfl) rfl (fun W _ => by go_simp) hm ?_
      go_simp
      refine anyH_take 6 (v := .string kk) rfl (by kernel_rfl) (by kernel_rfl) (by kernel_rfl) rfl (fun W hW => exec_ldx _ (HC.out W (Mem.below hW)).1 rfl ag_str) hm ?_
      go_simp
      refine anyH_take 7 (v := .int .i64 (kk.size : Int)) rfl (by kernel_rfl) (by kernel_rfl) (by kernel_rfl) rfl (fun W _ => by go_simp) hm ?_
      go_simp
      refine anyH_take 8 (v := .int .i64 (A : Int)) rfl (by kernel_rfl) (by kernel_rfl) (by kernel_rfl) rfl (fun W _ => exec_minI _ rfl rfl HA.out) hm ?_
      go_simp
      refine anyH_take 9 (v := .int .i64 ((s : Int) + 4 + (A : Int))) rfl (by kernel_rfl) (by kernel_rfl) (by kernel_rfl) rfl (fun W _ => by go_simp) hm ?_
      go_simp
      refine anyH_take 10 (v := .slice (some ⟨b, off, none⟩) n cap) rfl (by kernel_rfl) (by kernel_rfl) (by kernel_rfl) rfl (fun W _ => by go_simp) hm ?_
      go_simp
      refine anyH_take 11 (v := .int .i64 (k : Int)) rfl (by kernel_rfl) (by kernel_rfl) (by kernel_rfl) rfl (fun W _ => by go_simp) hm ?_
      go_simp
      refine anyH_take 12 (v := .pointer (some ⟨b, off + k * 2, none⟩)) rfl (by kernel_rfl) (by kernel_rfl) (by kernel_rfl) rfl (fun W _ => exec_ixP k rfl rfl rfl hlt) hm ?_
      go_simp
      refine anyH_take 13 (v := .pointer (some ⟨b, off + k * 2 + 1, none⟩)) rfl (by kernel_rfl) (by kernel_rfl) (by kernel_rfl) rfl (fun W _ => by go_simp) hm ?_
      go_simp
      refine anyH_take 14 (v := .string vv) rfl (by kernel_rfl) (by kernel_rfl) (by kernel_rfl) rfl (fun W hW => exec_ldx _ (HC.out W (Mem.below hW)).2 rfl ag_str) hm ?_
      go_simp
      refine anyH_take 15 (v := .int .i64 (vv.size : Int)) rfl (by kernel_rfl) (by kernel_rfl) (by kernel_rfl) rfl (fun W _ => by go_simp) hm ?_
      go_simp
      refine anyH_take 16 (v := .int .i64 (D : Int)) rfl (by kernel_rfl) (by kernel_rfl) (by kernel_rfl) rfl (fun W _ => exec_minI _ rfl rfl HD.out) hm ?_
      go_simp
      refine anyH_take 17 (v := .int .i64 ((s : Int) + 4 + (A : Int) + (D : Int))) rfl (by kernel_rfl) (by kernel_rfl) (by kernel_rfl) rfl (fun W _ => by go_simp) hm ?_
      go_simp
      refine anyH_take 18 (v := .int .i64 (S : Int)) rfl (by kernel_rfl) (by kernel_rfl) (by kernel_rfl) rfl (fun W _ => exec_minI _ rfl rfl HSS.out) hm ?_
      go_simp
      refine anyH_take 19 (v := .int .i64 (S : Int)) rfl (by kernel_rfl) (by kernel_rfl) (by kernel_rfl) rfl (fun W _ => by go_simp) hm ?_
      go_simp
      refine wpAnyH_done (by kernel_rfl) ?_ _
      simp only [endsIn]
      have HB2 : Hid (Below w.heap.size w wc) := below_next HB.out HB.out.size hm.below
      clear hm
      go_wp2_with fail
      go_roundw
      case rel => exact ⟨k + 1, S, by omega, by go_num, hSb, rfl, HST.out, HB2.out⟩
      case measure => simp [intOf]; omega
    · have hkn : n = k := by omega
      subst hkn
      have hni : ¬ (n : Int) < (n : Int) := by omega
      have HT : Hid (min (szP l) 100000 = s) := by show _ = _; have h9 := HS.out; rw [List.take_of_length_le (by rw [HN.out]; exact Nat.le_refl _)] at h9; exact h9
      go_wp2_with fail
      go_ret
      exact ⟨by rw [HT.out]; rfl, HB.out⟩
set_option maxHeartbeats 6000000 in
set_option maxRecDepth 100000 in
theorem keysR_any (ks : List ByteArray) (n : Nat) (v : Value) (hn : ks.length = n) (hnl : n ≤ 1000) (w : World) (hv : SlS w v ks) :
    Calls Try.prog 34 #[v] w fun e w' => e = .returned (.bool (okKeys ks n)) ∧ Below w.heap.size w w' := by
  obtain ⟨p, cap, rfl, hcap⟩ := SlV.len hv
  have HV : Hid (SlS w (.slice p ks.length cap) ks) := hv
  have HN : Hid (ks.length = n) := hn
  rw [hn] at hcap HV ⊢
  clear hv hn
  go_enter Try.func34, Try.ntmps34
  go_wp2_with fail
  go_loopw [3] (fun vi wr => ∃ k : Nat, k ≤ n ∧ vi = .int .i64 (k : Int) ∧ Hid (okKeys ks k = true) ∧ Hid (Below w.heap.size w wr)) (fun vi _ => n - (intOf vi).toNat)
  case atStart => exact ⟨0, by omega, rfl, rfl, Below.refl _ _⟩
  case round =>
    obtain ⟨k, hk, rfl, HO, HB⟩ := hrel
    by_cases hlt : k < n
    · have hki : (k : Int) < (n : Int) := by omega
      obtain ⟨b, off, hp⟩ := SlS.at HV.out HN.out (by omega)
      subst hp
      obtain ⟨kk, hkk⟩ : ∃ x, x = ks.getD k noStr := ⟨_, rfl⟩
      have HC : Hid (∀ W, Below wr.heap.size wr W → W.cell? ⟨b, off + k, none⟩ = some (.string kk)) := by
        intro W hW
        rw [hkk]
        exact SlS.cells HN.out (SlV.below HV.out (below_next HB.out HB.out.size hW)) k hlt
      have HOP : Hid (okKeys ks (k + 1) = (fitK kk && (decide (k = 0) || less (ks.getD (k - 1) noStr) kk))) := by
        show _ = _
        rw [okKeys, HO.out, okKey, Bool.true_and, ← hkk]
      have hm := Mem.start wr
      clear hkk
      by_cases h1 : kk.size < 1
      · have HF2 : Hid (okKeys ks n = false) := okKeys_le (show k + 1 ≤ n by omega) (by rw [HOP.out, fitK, decide_eq_false (show ¬ 1 ≤ kk.size by omega)]; rfl)
        have h1i : (kk.size : Int) < 1 := by omega
        clear h1
        go_wp2_with fail
        refine wp_ends0 ?_
        refine anyH_start (T := fun W => Mem wr [] W []) (by kernel_rfl) hm ?_
        clear hm
        intro wc hm
        refine anyH_take 0 (v := .slice (some ⟨b, off, none⟩) n cap) rfl (by kernel_rfl) (by kernel_rfl) (by kernel_rfl) rfl (fun W _ => by go_simp) hm ?_
        go_simp
        refine anyH_take 1 (v := .int .i64 (k : Int)) rfl (by kernel_rfl) (by kernel_rfl) (by kernel_rfl) rfl (fun W _ => by go_simp) hm ?_
        go_simp
        refine anyH_take 2 (v := .pointer (some ⟨b, off + k, none⟩)) rfl (by kernel_rfl) (by kernel_rfl) (by kernel_rfl) rfl (fun W _ => by go_simp) hm ?_
        go_simp
        refine anyH_take 3 (v := .string kk) rfl (by kernel_rfl) (by kernel_rfl) (by kernel_rfl) rfl (fun W hW => exec_ldx (.string kk) (HC.out W (Mem.below hW)) rfl ag_str) hm ?_
        go_simp
        refine anyH_take 4 (v := .int .i64 (kk.size : Int)) rfl (by kernel_rfl) (by kernel_rfl) (by kernel_rfl) rfl (fun W _ => by go_simp) hm ?_
        go_simp
        refine anyH_take 5 (v := .bool true) rfl (by kernel_rfl) (by kernel_rfl) (by kernel_rfl) rfl (fun W _ => by go_simp) hm ?_
        go_simp
        refine anyH_take 6 (v := .bool true) rfl (by kernel_rfl) (by kernel_rfl) (by kernel_rfl) rfl (fun W _ => by go_simp) hm ?_
        go_simp
        refine anyH_skip 7 rfl (by kernel_rfl) (by kernel_rfl) (by kernel_rfl) rfl hm ?_
        go_simp
        refine anyH_skip 8 rfl (by kernel_rfl) (by kernel_rfl) (by kernel_rfl) rfl hm ?_
        go_simp
        refine anyH_skip 9 rfl (by kernel_rfl) (by kernel_rfl) (by kernel_rfl) rfl hm ?_
        go_simp
        refine anyH_skip 10 rfl (by kernel_rfl) (by kernel_rfl) (by kernel_rfl) rfl hm ?_
        go_simp
        refine anyH_skip 11 rfl (by kernel_rfl) (by kernel_rfl) (by kernel_rfl) rfl hm ?_
        go_simp
        refine anyH_skip 12 rfl (by kernel_rfl) (by kernel_rfl) (by kernel_rfl) rfl hm ?_
        go_simp
        refine anyH_take 13 (v := .bool true) rfl (by kernel_rfl) (by kernel_rfl) (by kernel_rfl) rfl (fun W _ => by go_simp) hm ?_
        go_simp
        refine anyH_take 14 (v := .bool true) rfl (by kernel_rfl) (by kernel_rfl) (by kernel_rfl) rfl (fun W _ => by go_simp) hm ?_
        go_simp
        refine anyH_skip 15 rfl (by kernel_rfl) (by kernel_rfl) (by kernel_rfl) rfl hm ?_
        go_simp
        refine anyH_skip 16 rfl (by kernel_rfl) (by kernel_rfl) (by kernel_rfl) rfl hm ?_
        go_simp
        refine anyH_skip 17 rfl (by kernel_rfl) (by kernel_rfl) (by kernel_rfl) rfl hm ?_
        go_simp
        refine anyH_skip 18 rfl (by kernel_rfl) (by kernel_rfl) (by kernel_rfl) rfl hm ?_
        go_simp
        refine anyH_skip 19 rfl (by kernel_rfl) (by kernel_rfl) (by kernel_rfl) rfl hm ?_
        go_simp
        refine anyH_skip 20 rfl (by kernel_rfl) (by kernel_rfl) (by kernel_rfl) rfl hm ?_
        go_simp
        refine anyH_skip 21 rfl (by kernel_rfl) (by kernel_rfl) (by kernel_rfl) rfl hm ?_
        go_simp
        refine anyH_skip 22 rfl (by kernel_rfl) (by kernel_rfl) (by kernel_rfl) rfl hm ?_
        go_simp
        refine anyH_skip 23 rfl (by kernel_rfl) (by kernel_rfl) (by kernel_rfl) rfl hm ?_
        go_simp
        refine anyH_skip 24 rfl (by kernel_rfl) (by kernel_rfl) (by kernel_rfl) rfl hm ?_
        go_simp
        refine anyH_skip 25 rfl (by kernel_rfl) (by kernel_rfl) (by kernel_rfl) rfl hm ?_
        go_simp
        refine anyH_skip 26 rfl (by kernel_rfl) (by kernel_rfl) (by kernel_rfl) rfl hm ?_
        go_simp
        refine anyH_skip 27 rfl (by kernel_rfl) (by kernel_rfl) (by kernel_rfl) rfl hm ?_
        go_simp
        refine anyH_skip 28 rfl (by kernel_rfl) (by kernel_rfl) (by kernel_rfl) rfl hm ?_
        go_simp
        refine anyH_take 29 (v := .bool true) rfl (by kernel_rfl) (by kernel_rfl) (by kernel_rfl) rfl (fun W _ => by go_simp) hm ?_
        go_simp
        refine wpAnyH_done (by kernel_rfl) ?_ _
        simp only [endsIn]
        have HB2 : Hid (Below w.heap.size w wc) := below_next HB.out HB.out.size hm.below
        go_wp2_with fail
        go_ret
        exact ⟨by rw [HF2.out]; rfl, HB2.out⟩
      · by_cases h2 : 60 < kk.size
        · have HF2 : Hid (okKeys ks n = false) := okKeys_le (show k + 1 ≤ n by omega) (by rw [HOP.out, fitK, decide_eq_false (show ¬ kk.size ≤ 60 by omega)]; simp)
          have h1i : ¬ (kk.size : Int) < 1 := by omega
          have h2i : (kk.size : Int) > 60 := by omega
          clear h1 h2
          go_wp2_with fail
          refine wp_ends0 ?_
          refine anyH_start (T := fun W => Mem wr [] W []) (by kernel_rfl) hm ?_
          clear hm
          intro wc hm
          refine anyH_take 0 (v := .slice (some ⟨b, off, none⟩) n cap) rfl (by kernel_rfl) (by kernel_rfl) (by kernel_rfl) rfl (fun W _ => by go_simp) hm ?_
          go_simp
          refine anyH_take 1 (v := .int .i64 (k : Int)) rfl (by kernel_rfl) (by kernel_rfl) (by kernel_rfl) rfl (fun W _ => by go_simp) hm ?_
          go_simp
          refine anyH_take 2 (v := .pointer (some ⟨b, off + k, none⟩)) rfl (by kernel_rfl) (by kernel_rfl) (by kernel_rfl) rfl (fun W _ => by go_simp) hm ?_
          go_simp
          refine anyH_take 3 (v := .string kk) rfl (by kernel_rfl) (by kernel_rfl) (by kernel_rfl) rfl (fun W hW => exec_ldx (.string kk) (HC.out W (Mem.below hW)) rfl ag_str) hm ?_
          go_simp
          refine anyH_take 4 (v := .int .i64 (kk.size : Int)) rfl (by kernel_rfl) (by kernel_rfl) (by kernel_rfl) rfl (fun W _ => by go_simp) hm ?_
          go_simp
          refine anyH_take 5 (v := .bool false) rfl (by kernel_rfl) (by kernel_rfl) (by kernel_rfl) rfl (fun W _ => by go_simp) hm ?_
          go_simp
          refine anyH_take 6 (v := .bool false) rfl (by kernel_rfl) (by kernel_rfl) (by kernel_rfl) rfl (fun W _ => by go_simp) hm ?_
          go_simp
          refine anyH_takeG 7 (v := .slice (some ⟨b, off, none⟩) n cap) rfl (by kernel_rfl) (by kernel_rfl) (by kernel_rfl) rfl (fun W _ => by go_simp) hm ?_
          go_simp
          refine anyH_takeG 8 (v := .int .i64 (k : Int)) rfl (by kernel_rfl) (by kernel_rfl) (by kernel_rfl) rfl (fun W _ => by go_simp) hm ?_
          go_simp
          refine anyH_takeG 9 (v := .pointer (some ⟨b, off + k, none⟩)) rfl (by kernel_rfl) (by kernel_rfl) (by kernel_rfl) rfl (fun W _ => by go_simp) hm ?_
          go_simp
          refine anyH_takeG 10 (v := .string kk) rfl (by kernel_rfl) (by kernel_rfl) (by kernel_rfl) rfl (fun W hW => exec_ldx (.string kk) (HC.out W (Mem.below hW)) rfl ag_str) hm ?_
          go_simp
          refine anyH_takeG 11 (v := .int .i64 (kk.size : Int)) rfl (by kernel_rfl) (by kernel_rfl) (by kernel_rfl) rfl (fun W _ => by go_simp) hm ?_
          go_simp
          refine anyH_takeG 12 (v := .bool true) rfl (by kernel_rfl) (by kernel_rfl) (by kernel_rfl) rfl (fun W _ => by go_simp) hm ?_
          go_simp
          refine anyH_take 13 (v := .bool true) rfl (by kernel_rfl) (by kernel_rfl) (by kernel_rfl) rfl (fun W _ => by go_simp) hm ?_
          go_simp
          refine anyH_take 14 (v := .bool true) rfl (by kernel_rfl) (by kernel_rfl) (by kernel_rfl) rfl (fun W _ => by go_simp) hm ?_
          go_simp
          refine anyH_skip 15 rfl (by kernel_rfl) (by kernel_rfl) (by kernel_rfl) rfl hm ?_
          go_simp
          refine anyH_skip 16 rfl (by kernel_rfl) (by kernel_rfl) (by kernel_rfl) rfl hm ?_
          go_simp
          refine anyH_skip 17 rfl (by kernel_rfl) (by kernel_rfl) (by kernel_rfl) rfl hm ?_
          go_simp
          refine anyH_skip 18 rfl (by kernel_rfl) (by kernel_rfl) (by kernel_rfl) rfl hm ?_
          go_simp
          refine anyH_skip 19 rfl (by kernel_rfl) (by kernel_rfl) (by kernel_rfl) rfl hm ?_
          go_simp
          refine anyH_skip 20 rfl (by kernel_rfl) (by kernel_rfl) (by kernel_rfl) rfl hm ?_
          go_simp
          refine anyH_skip 21 rfl (by kernel_rfl) (by kernel_rfl) (by kernel_rfl) rfl hm ?_
          go_simp
          refine anyH_skip 22 rfl (by kernel_rfl) (by kernel_rfl) (by kernel_rfl) rfl hm ?_
          go_simp
          refine anyH_skip 23 rfl (by kernel_rfl) (by kernel_rfl) (by kernel_rfl) rfl hm ?_
          go_simp
          refine anyH_skip 24 rfl (by kernel_rfl) (by kernel_rfl) (by kernel_rfl) rfl hm ?_
          go_simp
          refine anyH_skip 25 rfl (by kernel_rfl) (by kernel_rfl) (by kernel_rfl) rfl hm ?_
          go_simp
          refine anyH_skip 26 rfl (by kernel_rfl) (by kernel_rfl) (by kernel_rfl) rfl hm ?_
          go_simp
          refine anyH_skip 27 rfl (by kernel_rfl) (by kernel_rfl) (by kernel_rfl) rfl hm ?_
          go_simp
          refine anyH_skip 28 rfl (by kernel_rfl) (by kernel_rfl) (by kernel_rfl) rfl hm ?_
          go_simp
          refine anyH_take 29 (v := .bool true) rfl (by kernel_rfl) (by kernel_rfl) (by kernel_rfl) rfl (fun W _ => by go_simp) hm ?_
          go_simp
          refine wpAnyH_done (by kernel_rfl) ?_ _
          simp only [endsIn]
          have HB2 : Hid (Below w.heap.size w wc) := below_next HB.out HB.out.size hm.below
          go_wp2_with fail
          go_ret
          exact ⟨by rw [HF2.out]; rfl, HB2.out⟩
        · have hf : fitK kk = true := by rw [fitK, decide_eq_true (show 1 ≤ kk.size by omega), decide_eq_true (show kk.size ≤ 60 by omega)]; rfl
          have h1i : ¬ (kk.size : Int) < 1 := by omega
          have h2i : ¬ (kk.size : Int) > 60 := by omega
          clear h1 h2
          by_cases hk0 : k = 0
          · have HO2 : Hid (okKeys ks (k + 1) = true) := by show _ = _; rw [HOP.out, hf, decide_eq_true hk0]; rfl
            have HK0 : Hid ((k : Int) ≤ 0) := by show _ ≤ _; omega
            clear hf hk0
            go_wp2_with fail
            refine wp_ends0 ?_
            refine anyH_start (T := fun W => Mem wr [] W []) (by kernel_rfl) hm ?_
            clear hm
            intro wc hm
            refine anyH_take 0 (v := .slice (some ⟨b, off, none⟩) n cap) rfl (by kernel_rfl) (by kernel_rfl) (by kernel_rfl) rfl (fun W _ => by go_simp) hm ?_
            go_simp
            refine anyH_take 1 (v := .int .i64 (k : Int)) rfl (by kernel_rfl) (by kernel_rfl) (by kernel_rfl) rfl (fun W _ => by go_simp) hm ?_
            go_simp
            refine anyH_take 2 (v := .pointer (some ⟨b, off + k, none⟩)) rfl (by kernel_rfl) (by kernel_rfl) (by kernel_rfl) rfl (fun W _ => by go_simp) hm ?_
            go_simp
            refine anyH_take 3 (v := .string kk) rfl (by kernel_rfl) (by kernel_rfl) (by kernel_rfl) rfl (fun W hW => exec_ldx (.string kk) (HC.out W (Mem.below hW)) rfl ag_str) hm ?_
            go_simp
            refine anyH_take 4 (v := .int .i64 (kk.size : Int)) rfl (by kernel_rfl) (by kernel_rfl) (by kernel_rfl) rfl (fun W _ => by go_simp) hm ?_
            go_simp
            refine anyH_take 5 (v := .bool false) rfl (by kernel_rfl) (by kernel_rfl) (by kernel_rfl) rfl (fun W _ => by go_simp) hm ?_
            go_simp
            refine anyH_take 6 (v := .bool false) rfl (by kernel_rfl) (by kernel_rfl) (by kernel_rfl) rfl (fun W _ => by go_simp) hm ?_
            go_simp
            refine anyH_takeG 7 (v := .slice (some ⟨b, off, none⟩) n cap) rfl (by kernel_rfl) (by kernel_rfl) (by kernel_rfl) rfl (fun W _ => by go_simp) hm ?_
            go_simp
            refine anyH_takeG 8 (v := .int .i64 (k : Int)) rfl (by kernel_rfl) (by kernel_rfl) (by kernel_rfl) rfl (fun W _ => by go_simp) hm ?_
            go_simp
            refine anyH_takeG 9 (v := .pointer (some ⟨b, off + k, none⟩)) rfl (by kernel_rfl) (by kernel_rfl) (by kernel_rfl) rfl (fun W _ => by go_simp) hm ?_
            go_simp
            refine anyH_takeG 10 (v := .string kk) rfl (by kernel_rfl) (by kernel_rfl) (by kernel_rfl) rfl (fun W hW => exec_ldx (.string kk) (HC.out W (Mem.below hW)) rfl ag_str) hm ?_
            go_simp
            refine anyH_takeG 11 (v := .int .i64 (kk.size : Int)) rfl (by kernel_rfl) (by kernel_rfl) (by kernel_rfl) rfl (fun W _ => by go_simp) hm ?_
            go_simp
            refine anyH_takeG 12 (v := .bool false) rfl (by kernel_rfl) (by kernel_rfl) (by kernel_rfl) rfl (fun W _ => by go_simp) hm ?_
            go_simp
            refine anyH_take 13 (v := .bool false) rfl (by kernel_rfl) (by kernel_rfl) (by kernel_rfl) rfl (fun W _ => by go_simp) hm ?_
            go_simp
            refine anyH_take 14 (v := .bool false) rfl (by kernel_rfl) (by kernel_rfl) (by kernel_rfl) rfl (fun W _ => by go_simp) hm ?_
            go_simp
            refine anyH_takeG 15 (v := .int .i64 (k : Int)) rfl (by kernel_rfl) (by kernel_rfl) (by kernel_rfl) rfl (fun W _ => by go_simp) hm ?_
            go_simp
            refine anyH_takeG 16 (v := .bool false) rfl (by kernel_rfl) (by kernel_rfl) (by kernel_rfl) rfl (fun W _ => exec_gt0 HK0.out rfl) hm ?_
            go_simp
            refine anyH_takeG 17 (v := .bool false) rfl (by kernel_rfl) (by kernel_rfl) (by kernel_rfl) rfl (fun W _ => by go_simp) hm ?_
            go_simp
            refine anyH_skip 18 rfl (by kernel_rfl) (by kernel_rfl) (by kernel_rfl) rfl hm ?_
            go_simp
            refine anyH_skip 19 rfl (by kernel_rfl) (by kernel_rfl) (by kernel_rfl) rfl hm ?_
            go_simp
            refine anyH_skip 20 rfl (by kernel_rfl) (by kernel_rfl) (by kernel_rfl) rfl hm ?_
            go_simp
            refine anyH_skip 21 rfl (by kernel_rfl) (by kernel_rfl) (by kernel_rfl) rfl hm ?_
            go_simp
            refine anyH_skip 22 rfl (by kernel_rfl) (by kernel_rfl) (by kernel_rfl) rfl hm ?_
            go_simp
            refine anyH_skip 23 rfl (by kernel_rfl) (by kernel_rfl) (by kernel_rfl) rfl hm ?_
            go_simp
            refine anyH_skip 24 rfl (by kernel_rfl) (by kernel_rfl) (by kernel_rfl) rfl hm ?_
            go_simp
            refine anyH_skip 25 rfl (by kernel_rfl) (by kernel_rfl) (by kernel_rfl) rfl hm ?_
            go_simp
            refine anyH_skip 26 rfl (by kernel_rfl) (by kernel_rfl) (by kernel_rfl) rfl hm ?_
            go_simp
            refine anyH_skip 27 rfl (by kernel_rfl) (by kernel_rfl) (by kernel_rfl) rfl hm ?_
            go_simp
            refine anyH_takeG 28 (v := .bool false) rfl (by kernel_rfl) (by kernel_rfl) (by kernel_rfl) rfl (fun W _ => by go_simp) hm ?_
            go_simp
            refine anyH_take 29 (v := .bool false) rfl (by kernel_rfl) (by kernel_rfl) (by kernel_rfl) rfl (fun W _ => by go_simp) hm ?_
            go_simp
            refine wpAnyH_done (by kernel_rfl) ?_ _
            simp only [endsIn]
            have HB2 : Hid (Below w.heap.size w wc) := below_next HB.out HB.out.size hm.below
            clear hm
            go_wp2_with fail
            go_roundw
            case rel => exact ⟨k + 1, by omega, by go_num, HO2.out, HB2.out⟩
            case measure => simp [intOf]; omega
          · obtain ⟨j, rfl⟩ : ∃ j, k = j + 1 := ⟨k - 1, by omega⟩
            obtain ⟨pk, hpk⟩ : ∃ x, x = ks.getD j noStr := ⟨_, rfl⟩
            have HD : Hid (∀ W, Below wr.heap.size wr W → W.cell? ⟨b, off + j, none⟩ = some (.string pk)) := by
              intro W hW
              rw [hpk]
              exact SlS.cells HN.out (SlV.below HV.out (below_next HB.out HB.out.size hW)) j (by omega)
            have HWJ : IntKind.i64.wrap (j : Int) = (j : Int) := wrap_nat j (by omega)
            have hji : (j : Int) < (n : Int) := by omega
            have hji1 : (j : Int) + 1 < (n : Int) := by omega
            have hpa : ∀ q : Nat, off + (j + 1) = q → True := fun _ _ => trivial
            cases hl : less pk kk with
            | false =>
              have HF2 : Hid (okKeys ks n = false) := okKeys_le (show j + 1 + 1 ≤ n by omega) (by rw [HOP.out, Nat.add_sub_cancel, ← hpk, hl, decide_eq_false hk0]; simp)
              have HLS : Hid (less pk kk = false) := hl
              clear hf hl hpk hk0 hpa
              go_wp2_with fail
              refine wp_ends0 ?_
              refine anyH_start (T := fun W => Mem wr [] W []) (by kernel_rfl) hm ?_
              clear hm
              intro wc hm
              refine anyH_take 0 (v := .slice (some ⟨b, off, none⟩) n cap) rfl (by kernel_rfl) (by kernel_rfl) (by kernel_rfl) rfl (fun W _ => by go_simp) hm ?_
              go_simp
              refine anyH_take 1 (v := .int .i64 ((j : Int) + 1)) rfl (by kernel_rfl) (by kernel_rfl) (by kernel_rfl) rfl (fun W _ => by go_simp) hm ?_
              go_simp
              refine anyH_take 2 (v := .pointer (some ⟨b, off + (j + 1), none⟩)) rfl (by kernel_rfl) (by kernel_rfl) (by kernel_rfl) rfl (fun W _ => exec_ixS (j + 1) rfl rfl (by first | rfl | omega) (by omega)) hm ?_
              go_simp
              refine anyH_take 3 (v := .string kk) rfl (by kernel_rfl) (by kernel_rfl) (by kernel_rfl) rfl (fun W hW => exec_ldx (.string kk) (HC.out W (Mem.below hW)) rfl ag_str) hm ?_
              go_simp
              refine anyH_take 4 (v := .int .i64 (kk.size : Int)) rfl (by kernel_rfl) (by kernel_rfl) (by kernel_rfl) rfl (fun W _ => by go_simp) hm ?_
              go_simp
              refine anyH_take 5 (v := .bool false) rfl (by kernel_rfl) (by kernel_rfl) (by kernel_rfl) rfl (fun W _ => by go_simp) hm ?_
              go_simp
              refine anyH_take 6 (v := .bool false) rfl (by kernel_rfl) (by kernel_rfl) (by kernel_rfl) rfl (fun W _ => by go_simp) hm ?_
              go_simp
              refine anyH_takeG 7 (v := .slice (some ⟨b, off, none⟩) n cap) rfl (by kernel_rfl) (by kernel_rfl) (by kernel_rfl) rfl (fun W _ => by go_simp) hm ?_
              go_simp
              refine anyH_takeG 8 (v := .int .i64 ((j : Int) + 1)) rfl (by kernel_rfl) (by kernel_rfl) (by kernel_rfl) rfl (fun W _ => by go_simp) hm ?_
              go_simp
              refine anyH_takeG 9 (v := .pointer (some ⟨b, off + (j + 1), none⟩)) rfl (by kernel_rfl) (by kernel_rfl) (by kernel_rfl) rfl (fun W _ => exec_ixS (j + 1) rfl rfl (by first | rfl | omega) (by omega)) hm ?_
              go_simp
              refine anyH_takeG 10 (v := .string kk) rfl (by kernel_rfl) (by kernel_rfl) (by kernel_rfl) rfl (fun W hW => exec_ldx (.string kk) (HC.out W (Mem.below hW)) rfl ag_str) hm ?_
              go_simp
              refine anyH_takeG 11 (v := .int .i64 (kk.size : Int)) rfl (by kernel_rfl) (by kernel_rfl) (by kernel_rfl) rfl (fun W _ => by go_simp) hm ?_
              go_simp
              refine anyH_takeG 12 (v := .bool false) rfl (by kernel_rfl) (by kernel_rfl) (by kernel_rfl) rfl (fun W _ => by go_simp) hm ?_
              go_simp
              refine anyH_take 13 (v := .bool false) rfl (by kernel_rfl) (by kernel_rfl) (by kernel_rfl) rfl (fun W _ => by go_simp) hm ?_
              go_simp
              refine anyH_take 14 (v := .bool false) rfl (by kernel_rfl) (by kernel_rfl) (by kernel_rfl) rfl (fun W _ => by go_simp) hm ?_
              go_simp
              refine anyH_takeG 15 (v := .int .i64 ((j : Int) + 1)) rfl (by kernel_rfl) (by kernel_rfl) (by kernel_rfl) rfl (fun W _ => by go_simp) hm ?_
              go_simp
              refine anyH_takeG 16 (v := .bool true) rfl (by kernel_rfl) (by kernel_rfl) (by kernel_rfl) rfl (fun W _ => by go_simp) hm ?_
              go_simp
              refine anyH_takeG 17 (v := .bool true) rfl (by kernel_rfl) (by kernel_rfl) (by kernel_rfl) rfl (fun W _ => by go_simp) hm ?_
              go_simp
              refine anyH_takeG 18 (v := .slice (some ⟨b, off, none⟩) n cap) rfl (by kernel_rfl) (by kernel_rfl) (by kernel_rfl) rfl (fun W _ => by go_simp) hm ?_
              go_simp
              refine anyH_takeG 19 (v := .int .i64 ((j : Int) + 1)) rfl (by kernel_rfl) (by kernel_rfl) (by kernel_rfl) rfl (fun W _ => by go_simp) hm ?_
              go_simp
              refine anyH_takeG 20 (v := .int .i64 (j : Int)) rfl (by kernel_rfl) (by kernel_rfl) (by kernel_rfl) rfl (fun W _ => by go_simp) hm ?_
              go_simp
              refine anyH_takeG 21 (v := .pointer (some ⟨b, off + j, none⟩)) rfl (by kernel_rfl) (by kernel_rfl) (by kernel_rfl) rfl (fun W _ => exec_ixS j rfl rfl (by first | rfl | omega) (by omega)) hm ?_
              go_simp
              refine anyH_takeG 22 (v := .string pk) rfl (by kernel_rfl) (by kernel_rfl) (by kernel_rfl) rfl (fun W hW => exec_ldx (.string pk) (HD.out W (Mem.below hW)) rfl ag_str) hm ?_
              go_simp
              refine anyH_takeG 23 (v := .slice (some ⟨b, off, none⟩) n cap) rfl (by kernel_rfl) (by kernel_rfl) (by kernel_rfl) rfl (fun W _ => by go_simp) hm ?_
              go_simp
              refine anyH_takeG 24 (v := .int .i64 ((j : Int) + 1)) rfl (by kernel_rfl) (by kernel_rfl) (by kernel_rfl) rfl (fun W _ => by go_simp) hm ?_
              go_simp
              refine anyH_takeG 25 (v := .pointer (some ⟨b, off + (j + 1), none⟩)) rfl (by kernel_rfl) (by kernel_rfl) (by kernel_rfl) rfl (fun W _ => exec_ixS (j + 1) rfl rfl (by first | rfl | omega) (by omega)) hm ?_
              go_simp
              refine anyH_takeG 26 (v := .string kk) rfl (by kernel_rfl) (by kernel_rfl) (by kernel_rfl) rfl (fun W hW => exec_ldx (.string kk) (HC.out W (Mem.below hW)) rfl ag_str) hm ?_
              go_simp
              refine anyH_takeG 27 (v := .bool true) rfl (by kernel_rfl) (by kernel_rfl) (by kernel_rfl) rfl (fun W _ => exec_geqs pk kk false rfl rfl HLS.out) hm ?_
              go_simp
              refine anyH_takeG 28 (v := .bool true) rfl (by kernel_rfl) (by kernel_rfl) (by kernel_rfl) rfl (fun W _ => by go_simp) hm ?_
              go_simp
              refine anyH_take 29 (v := .bool true) rfl (by kernel_rfl) (by kernel_rfl) (by kernel_rfl) rfl (fun W _ => by go_simp) hm ?_
              go_simp
              refine wpAnyH_done (by kernel_rfl) ?_ _
              simp only [endsIn]
              have HB2 : Hid (Below w.heap.size w wc) := below_next HB.out HB.out.size hm.below
              go_wp2_with fail
              go_ret
              exact ⟨by rw [HF2.out]; rfl, HB2.out⟩
            | true =>
              have HO2 : Hid (okKeys ks (j + 1 + 1) = true) := by show _ = _; rw [HOP.out, hf, Nat.add_sub_cancel, ← hpk, hl]; simp
              have HLS : Hid (less pk kk = true) := hl
              clear hf hl hpk hk0 hpa
              go_wp2_with fail
              refine wp_ends0 ?_
              refine anyH_start (T := fun W => Mem wr [] W []) (by kernel_rfl) hm ?_
              clear hm
              intro wc hm
              refine anyH_take 0 (v := .slice (some ⟨b, off, none⟩) n cap) rfl (by kernel_rfl) (by kernel_rfl) (by kernel_rfl) rfl (fun W _ => by go_simp) hm ?_
              go_simp
              refine anyH_take 1 (v := .int .i64 ((j : Int) + 1)) rfl (by kernel_rfl) (by kernel_rfl) (by kernel_rfl) rfl (fun W _ => by go_simp) hm ?_
              go_simp
              refine anyH_take 2 (v := .pointer (some ⟨b, off + (j + 1), none⟩)) rfl (by kernel_rfl) (by kernel_rfl) (by kernel_rfl) rfl (fun W _ => exec_ixS (j + 1) rfl rfl (by first | rfl | omega) (by omega)) hm ?_
              go_simp
              refine anyH_take 3 (v := .string kk) rfl (by kernel_rfl) (by kernel_rfl) (by kernel_rfl) rfl (fun W hW => exec_ldx (.string kk) (HC.out W (Mem.below hW)) rfl ag_str) hm ?_
              go_simp
              refine anyH_take 4 (v := .int .i64 (kk.size : Int)) rfl (by kernel_rfl) (by kernel_rfl) (by kernel_rfl) rfl (fun W _ => by go_simp) hm ?_
              go_simp
              refine anyH_take 5 (v := .bool false) rfl (by kernel_rfl) (by kernel_rfl) (by kernel_rfl) rfl (fun W _ => by go_simp) hm ?_
              go_simp
              refine anyH_take 6 (v := .bool false) rfl (by kernel_rfl) (by kernel_rfl) (by kernel_rfl) rfl (fun W _ => by go_simp) hm ?_
              go_simp
              refine anyH_takeG 7 (v := .slice (some ⟨b, off, none⟩) n cap) rfl (by kernel_rfl) (by kernel_rfl) (by kernel_rfl) rfl (fun W _ => by go_simp) hm ?_
              go_simp
              refine anyH_takeG 8 (v := .int .i64 ((j : Int) + 1)) rfl (by kernel_rfl) (by kernel_rfl) (by kernel_rfl) rfl (fun W _ => by go_simp) hm ?_
              go_simp
              refine anyH_takeG 9 (v := .pointer (some ⟨b, off + (j + 1), none⟩)) rfl (by kernel_rfl) (by kernel_rfl) (by kernel_rfl) rfl (fun W _ => exec_ixS (j + 1) rfl rfl (by first | rfl | omega) (by omega)) hm ?_
              go_simp
              refine anyH_takeG 10 (v := .string kk) rfl (by kernel_rfl) (by kernel_rfl) (by kernel_rfl) rfl (fun W hW => exec_ldx (.string kk) (HC.out W (Mem.below hW)) rfl ag_str) hm ?_
              go_simp
              refine anyH_takeG 11 (v := .int .i64 (kk.size : Int)) rfl (by kernel_rfl) (by kernel_rfl) (by kernel_rfl) rfl (fun W _ => by go_simp) hm ?_
              go_simp
              refine anyH_takeG 12 (v := .bool false) rfl (by kernel_rfl) (by kernel_rfl) (by kernel_rfl) rfl (fun W _ => by go_simp) hm ?_
              go_simp
              refine anyH_take 13 (v := .bool false) rfl (by kernel_rfl) (by kernel_rfl) (by kernel_rfl) rfl (fun W _ => by go_simp) hm ?_
              go_simp
              refine anyH_take 14 (v := .bool false) rfl (by kernel_rfl) (by kernel_rfl) (by kernel_rfl) rfl (fun W _ => by go_simp) hm ?_
              go_simp
              refine anyH_takeG 15 (v := .int .i64 ((j : Int) + 1)) rfl (by kernel_rfl) (by kernel_rfl) (by kernel_rfl) rfl (fun W _ => by go_simp) hm ?_
              go_simp
              refine anyH_takeG 16 (v := .bool true) rfl (by kernel_rfl) (by kernel_rfl) (by kernel_rfl) rfl (fun W _ => by go_simp) hm ?_
              go_simp
              refine anyH_takeG 17 (v := .bool true) rfl (by kernel_rfl) (by kernel_rfl) (by kernel_rfl) rfl (fun W _ => by go_simp) hm ?_
              go_simp
              refine anyH_takeG 18 (v := .slice (some ⟨b, off, none⟩) n cap) rfl (by kernel_rfl) (by kernel_rfl) (by kernel_rfl) rfl (fun W _ => by go_simp) hm ?_
              go_simp
              refine anyH_takeG 19 (v := .int .i64 ((j : Int) + 1)) rfl (by kernel_rfl) (by kernel_rfl) (by kernel_rfl) rfl (fun W _ => by go_simp) hm ?_
              go_simp
              refine anyH_takeG 20 (v := .int .i64 (j : Int)) rfl (by kernel_rfl) (by kernel_rfl) (by kernel_rfl) rfl (fun W _ => by go_simp) hm ?_
              go_simp
              refine anyH_takeG 21 (v := .pointer (some ⟨b, off + j, none⟩)) rfl (by kernel_rfl) (by kernel_rfl) (by kernel_rfl) rfl (fun W _ => exec_ixS j rfl rfl (by first | rfl | omega) (by omega)) hm ?_
              go_simp
              refine anyH_takeG 22 (v := .string pk) rfl (by kernel_rfl) (by kernel_rfl) (by kernel_rfl) rfl (fun W hW => exec_ldx (.string pk) (HD.out W (Mem.below hW)) rfl ag_str) hm ?_
              go_simp
              refine anyH_takeG 23 (v := .slice (some ⟨b, off, none⟩) n cap) rfl (by kernel_rfl) (by kernel_rfl) (by kernel_rfl) rfl (fun W _ => by go_simp) hm ?_
              go_simp
              refine anyH_takeG 24 (v := .int .i64 ((j : Int) + 1)) rfl (by kernel_rfl) (by kernel_rfl) (by kernel_rfl) rfl (fun W _ => by go_simp) hm ?_
              go_simp
              refine anyH_takeG 25 (v := .pointer (some ⟨b, off + (j + 1), none⟩)) rfl (by kernel_rfl) (by kernel_rfl) (by kernel_rfl) rfl (fun W _ => exec_ixS (j + 1) rfl rfl (by first | rfl | omega) (by omega)) hm ?_
              go_simp
              refine anyH_takeG 26 (v := .string kk) rfl (by kernel_rfl) (by kernel_rfl) (by kernel_rfl) rfl (fun W hW => exec_ldx (.string kk) (HC.out W (Mem.below hW)) rfl ag_str) hm ?_
              go_simp
              refine anyH_takeG 27 (v := .bool false) rfl (by kernel_rfl) (by kernel_rfl) (by kernel_rfl) rfl (fun W _ => exec_geqs pk kk true rfl rfl HLS.out) hm ?_
              go_simp
              refine anyH_takeG 28 (v := .bool false) rfl (by kernel_rfl) (by kernel_rfl) (by kernel_rfl) rfl (fun W _ => by go_simp) hm ?_
              go_simp
              refine anyH_take 29 (v := .bool false) rfl (by kernel_rfl) (by kernel_rfl) (by kernel_rfl) rfl (fun W _ => by go_simp) hm ?_
              go_simp
              refine wpAnyH_done (by kernel_rfl) ?_ _
              simp only [endsIn]
              have HB2 : Hid (Below w.heap.size w wc) := below_next HB.out HB.out.size hm.below
              clear hm
              go_wp2_with fail
              go_roundw
              case rel => exact ⟨j + 1 + 1, by omega, by go_num, HO2.out, HB2.out⟩
              case measure => simp [intOf]; omega
    · have hkn : n = k := by omega
      subst hkn
      have hni : ¬ (n : Int) < (n : Int) := by omega
      go_wp2_with fail
      go_ret
      exact ⟨by rw [HO.out]; rfl, HB.out⟩
end Go.Proofs.Ytnahflppggoplaa
