/- The statements' own functions pairs and same. -/
import Derived.Test.YtnahflppggoplaaNdSl
namespace Go.Proofs.Ytnahflppggoplaa
open Go Go.RowKit
/-- An answer tells whether something holds. -/
def Tells (r : Bool) (p : Prop) : Prop := r = true ↔ p
set_option maxRecDepth 100000 in
theorem Tells.yes {p : Prop} (h : p) : Tells true p := ⟨fun _ => h, fun _ => rfl⟩
set_option maxRecDepth 100000 in
theorem Tells.no {p : Prop} (h : ¬ p) : Tells false p := ⟨fun h9 => absurd h9 (by decide), fun h9 => absurd h9 h⟩
def AnsIs (e : Ending) (p : Prop) : Prop := ∃ r, e = .returned (.bool r) ∧ Tells r p
set_option maxRecDepth 100000 in
theorem AnsIs.yes {e : Ending} {p : Prop} (he : e = .returned (.bool true)) (h : p) : AnsIs e p := ⟨true, he, Tells.yes h⟩
set_option maxRecDepth 100000 in
theorem AnsIs.no {e : Ending} {p : Prop} (he : e = .returned (.bool false)) (h : ¬ p) : AnsIs e p := ⟨false, he, Tells.no h⟩
set_option maxRecDepth 100000 in
theorem equal_pair (k v k' v' : ByteArray) (w : World) : (Op.equalIn 10000 45 (.agg #[.string k, .string v]) (.agg #[.string k', .string v'])).run Try.prog w = .ok (k.toList == k'.toList && v.toList == v'.toList) w := by
  have u3 := Try.underlying9
  have a3 := Try.isAgg9
  have z3 := Try.sizeOf9
  have hS : Try.prog.underlying 45 = some (.struct (Try.prog.fieldsOf 45)) := by kernel_rfl
  have hp : Try.prog.stoodInHeld 45 = false := by kernel_rfl
  rw [show (10000 : Nat) = 9999 + 1 from rfl, run_equalIn_agg w 9999 45 _ _ hS hp]
  simp only [Program.fieldsOf, Try.underlying45]
  go_simp
  by_cases h1 : k.toList = k'.toList <;> by_cases h2 : v.toList = v'.toList <;> simp [h1, h2]
set_option maxRecDepth 100000 in
theorem eg_pair : Try.prog.eqGuardType Try.prog.depth 45 = false := by kernel_rfl
set_option maxRecDepth 100000 in
theorem toList_inj {a b : ByteArray} (h : (a.toList == b.toList) = true) : a = b := by
  rw [← beq_toListBytes] at h
  obtain ⟨⟨x⟩⟩ := a
  obtain ⟨⟨y⟩⟩ := b
  have h2 : ((⟨x⟩ : Array UInt8) == ⟨y⟩) = true := h
  simp at h2
  rw [h2]
section
variable {a : Act} {w : World} {dst : Option Tmp} {typ : TypeId} {pos : String} {aft : Array Edge} {gd : Option (Nat × Bool)}
set_option maxRecDepth 100000 in
theorem exec_neP {x y : Operand} {rt : TypeId} (k v k' v' : ByteArray) (b : Bool) (hb : Tells b (k = k' ∧ v = v')) (hx : a.eval x = .agg [.string k, .string v].toArray) (hy : a.eval y = .agg [.string k', .string v'].toArray) :
    (execOp a.eval { dst := dst, op := .binOp .neq 45 x y rt, type := typ, pos := pos, after := aft, guard := gd }).run Try.prog w = .ok (.value (.bool (!b))) w := by
  have e : (k.toList == k'.toList && v.toList == v'.toList) = b := by
    cases b with
    | true =>
      obtain ⟨rfl, rfl⟩ := hb.1 rfl
      simp
    | false =>
      cases h1 : k.toList == k'.toList with
      | false => rfl
      | true =>
        cases h2 : v.toList == v'.toList with
        | false => rfl
        | true => exact absurd (hb.2 ⟨toList_inj h1, toList_inj h2⟩) (by decide)
  unfold execOp
  simp only [hx, hy, Sem.run_bind, run_eqGuard_agg w .neq 45 x y _ _ eg_pair, Sem.run_pure, Result.andThen_ok, run_neq_struct, equal_pair k v k' v' w, e]
set_option maxRecDepth 100000 in
theorem exec_neS {x y : Operand} {rt : TypeId} (s s' : ByteArray) (b : Bool) (hb : Tells b (s = s')) (hx : a.eval x = .string s) (hy : a.eval y = .string s') :
    (execOp a.eval { dst := dst, op := .binOp .neq 9 x y rt, type := typ, pos := pos, after := aft, guard := gd }).run Try.prog w = .ok (.value (.bool (!b))) w := by
  have e : (s == s') = b := by
    cases b with
    | true =>
      obtain rfl := hb.1 rfl
      exact beq_self_str _
    | false =>
      cases h1 : s == s' with
      | false => rfl
      | true => rw [beq_toListBytes] at h1; exact absurd (hb.2 (toList_inj h1)) (by decide)
  exact exec_nes (P := Try.prog) (a := a) (w := w) (dst := dst) (typ := typ) (pos := pos) (aft := aft) (gd := gd) (t := 9) (rt := rt) s s' _ hx hy e
end
set_option maxRecDepth 100000 in
theorem take_next_eq {α : Type} {l m : List α} {k : Nat} (d : α) (h : l.take k = m.take k) (hl : k < l.length) (hm : k < m.length) (he : l.getD k d = m.getD k d) : l.take (k + 1) = m.take (k + 1) := by
  rw [take_snoc l k d hl, take_snoc m k d hm, h, he]
set_option maxHeartbeats 1000000 in
set_option maxRecDepth 100000 in
theorem pairs_len (n m cap cap2 : Nat) (p q : Option Addr) (h : ¬ n = m) (w : World) :
    Calls Try.prog 9 #[.slice p n cap, .slice q m cap2] w fun e w' => e = .returned (.bool false) ∧ w' = w := by
  have hb : ((n : Int) != (m : Int)) = true := by simp; omega
  go_enter Try.func9, Try.ntmps9
  go_wp2
  go_ret
  exact ⟨rfl, rfl⟩
set_option maxHeartbeats 2000000 in
set_option maxRecDepth 100000 in
theorem pairs_go (l m : List (ByteArray × ByteArray)) (n cap cap2 : Nat) (p q : Option Addr) (hn : l.length = n) (hm : m.length = n) (hnl : n ≤ 1000) (w : World) (hv : SlP w (.slice p n cap) l) (hu : SlP w (.slice q n cap2) m) :
    Calls Try.prog 9 #[.slice p n cap, .slice q n cap2] w fun e w' => AnsIs e (l = m) ∧ Below w.heap.size w w' := by
  have HV : Hid (SlP w (.slice p n cap) l) := hv
  have HU : Hid (SlP w (.slice q n cap2) m) := hu
  have HN : Hid (l.length = n) := hn
  have HM : Hid (m.length = n) := hm
  clear hv hu hn hm
  go_enter Try.func9, Try.ntmps9
  go_wp2_with fail
  go_loopw [5] (fun vi wr => ∃ k : Nat, k ≤ n ∧ vi = .int .i64 (k : Int) ∧ Hid (l.take k = m.take k) ∧ Hid (Below w.heap.size w wr)) (fun vi _ => n - (intOf vi).toNat)
  case atStart => exact ⟨0, by omega, rfl, rfl, Below.refl _ _⟩
  case round =>
    obtain ⟨k, hk, rfl, HT, HB⟩ := hrel
    by_cases hlt : k < n
    · have hki : (k : Int) < (n : Int) := by omega
      obtain ⟨b, off, hp⟩ := SlP.at HV.out HN.out (by omega)
      subst hp
      obtain ⟨b2, off2, hq⟩ := SlP.at HU.out HM.out (by omega)
      subst hq
      obtain ⟨k1, hk1⟩ : ∃ x, x = (l.getD k (noStr, noStr)).1 := ⟨_, rfl⟩
      obtain ⟨v1, hv1⟩ : ∃ x, x = (l.getD k (noStr, noStr)).2 := ⟨_, rfl⟩
      obtain ⟨k2, hk2⟩ : ∃ x, x = (m.getD k (noStr, noStr)).1 := ⟨_, rfl⟩
      obtain ⟨v2, hv2⟩ : ∃ x, x = (m.getD k (noStr, noStr)).2 := ⟨_, rfl⟩
      have HC1 : Hid (∀ W, Below wr.heap.size wr W → W.cell? ⟨b, off + k * 2, none⟩ = some (.string k1) ∧ W.cell? ⟨b, off + k * 2 + 1, none⟩ = some (.string v1)) := by
        intro W hW
        rw [hk1, hv1]
        exact SlP.cells HN.out (SlV.below HV.out (below_next HB.out HB.out.size hW)) k hlt
      have HC2 : Hid (∀ W, Below wr.heap.size wr W → W.cell? ⟨b2, off2 + k * 2, none⟩ = some (.string k2) ∧ W.cell? ⟨b2, off2 + k * 2 + 1, none⟩ = some (.string v2)) := by
        intro W hW
        rw [hk2, hv2]
        exact SlP.cells HM.out (SlV.below HU.out (below_next HB.out HB.out.size hW)) k hlt
      have hm := Mem.start wr
      by_cases he : k1 = k2 ∧ v1 = v2
      · have HNE : Hid (Tells true (k1 = k2 ∧ v1 = v2)) := Tells.yes he
        have HT2 : Hid (l.take (k + 1) = m.take (k + 1)) := take_next_eq (noStr, noStr) HT.out (by rw [HN.out]; exact hlt) (by rw [HM.out]; exact hlt) (Prod.ext (by rw [← hk1, ← hk2]; exact he.1) (by rw [← hv1, ← hv2]; exact he.2))
        clear hk1 hv1 hk2 hv2 he
        go_wp2_with fail
        refine wp_ends0 ?_
        refine anyH_start (T := fun W => Mem wr [] W []) (by kernel_rfl) hm ?_
        clear hm
        intro wc hm
        refine anyH_take 0 (v := .slice (some ⟨b, off, none⟩) n cap) rfl (by kernel_rfl) (by kernel_rfl) (by kernel_rfl) rfl (fun W _ => by go_simp) hm ?_
        go_simp
        refine anyH_take 1 (v := .int .i64 (k : Int)) rfl (by kernel_rfl) (by kernel_rfl) (by kernel_rfl) rfl (fun W _ => by go_simp) hm ?_
        go_simp
        refine anyH_take 2 (v := .pointer (some ⟨b, off + k * 2, none⟩)) rfl (by kernel_rfl) (by kernel_rfl) (by kernel_rfl) rfl (fun W _ => exec_ixP k rfl rfl rfl hlt) hm ?_
        go_simp
        refine anyH_take 3 (v := .agg [.string k1, .string v1].toArray) rfl (by kernel_rfl) (by kernel_rfl) (by kernel_rfl) rfl (fun W hW => exec_ldP k1 v1 rfl (HC1.out W (Mem.below hW)).1 (HC1.out W (Mem.below hW)).2) hm ?_
        go_simp
        refine anyH_take 4 (v := .slice (some ⟨b2, off2, none⟩) n cap2) rfl (by kernel_rfl) (by kernel_rfl) (by kernel_rfl) rfl (fun W _ => by go_simp) hm ?_
        go_simp
        refine anyH_take 5 (v := .int .i64 (k : Int)) rfl (by kernel_rfl) (by kernel_rfl) (by kernel_rfl) rfl (fun W _ => by go_simp) hm ?_
        go_simp
        refine anyH_take 6 (v := .pointer (some ⟨b2, off2 + k * 2, none⟩)) rfl (by kernel_rfl) (by kernel_rfl) (by kernel_rfl) rfl (fun W _ => exec_ixP k rfl rfl rfl hlt) hm ?_
        go_simp
        refine anyH_take 7 (v := .agg [.string k2, .string v2].toArray) rfl (by kernel_rfl) (by kernel_rfl) (by kernel_rfl) rfl (fun W hW => exec_ldP k2 v2 rfl (HC2.out W (Mem.below hW)).1 (HC2.out W (Mem.below hW)).2) hm ?_
        go_simp
        refine anyH_take 8 (v := .bool false) rfl (by kernel_rfl) (by kernel_rfl) (by kernel_rfl) rfl (fun W _ => exec_neP k1 v1 k2 v2 true HNE.out rfl rfl) hm ?_
        go_simp
        refine wpAnyH_done (by kernel_rfl) ?_ _
        simp only [endsIn]
        have HB2 : Hid (Below w.heap.size w wc) := below_next HB.out HB.out.size hm.below
        go_wp2_with fail
        go_roundw
        case rel => exact ⟨k + 1, by omega, by go_num, HT2.out, HB2.out⟩
        case measure => simp [intOf]; omega
      · have HNE : Hid (Tells false (k1 = k2 ∧ v1 = v2)) := Tells.no he
        have HLM : Hid (∀ _ : Unit, ¬ l = m) := fun _ h => he (by rw [hk1, hv1, hk2, hv2, h]; exact ⟨rfl, rfl⟩)
        clear hk1 hv1 hk2 hv2 he
        go_wp2_with fail
        refine wp_ends0 ?_
        refine anyH_start (T := fun W => Mem wr [] W []) (by kernel_rfl) hm ?_
        clear hm
        intro wc hm
        refine anyH_take 0 (v := .slice (some ⟨b, off, none⟩) n cap) rfl (by kernel_rfl) (by kernel_rfl) (by kernel_rfl) rfl (fun W _ => by go_simp) hm ?_
        go_simp
        refine anyH_take 1 (v := .int .i64 (k : Int)) rfl (by kernel_rfl) (by kernel_rfl) (by kernel_rfl) rfl (fun W _ => by go_simp) hm ?_
        go_simp
        refine anyH_take 2 (v := .pointer (some ⟨b, off + k * 2, none⟩)) rfl (by kernel_rfl) (by kernel_rfl) (by kernel_rfl) rfl (fun W _ => exec_ixP k rfl rfl rfl hlt) hm ?_
        go_simp
        refine anyH_take 3 (v := .agg [.string k1, .string v1].toArray) rfl (by kernel_rfl) (by kernel_rfl) (by kernel_rfl) rfl (fun W hW => exec_ldP k1 v1 rfl (HC1.out W (Mem.below hW)).1 (HC1.out W (Mem.below hW)).2) hm ?_
        go_simp
        refine anyH_take 4 (v := .slice (some ⟨b2, off2, none⟩) n cap2) rfl (by kernel_rfl) (by kernel_rfl) (by kernel_rfl) rfl (fun W _ => by go_simp) hm ?_
        go_simp
        refine anyH_take 5 (v := .int .i64 (k : Int)) rfl (by kernel_rfl) (by kernel_rfl) (by kernel_rfl) rfl (fun W _ => by go_simp) hm ?_
        go_simp
        refine anyH_take 6 (v := .pointer (some ⟨b2, off2 + k * 2, none⟩)) rfl (by kernel_rfl) (by kernel_rfl) (by kernel_rfl) rfl (fun W _ => exec_ixP k rfl rfl rfl hlt) hm ?_
        go_simp
        refine anyH_take 7 (v := .agg [.string k2, .string v2].toArray) rfl (by kernel_rfl) (by kernel_rfl) (by kernel_rfl) rfl (fun W hW => exec_ldP k2 v2 rfl (HC2.out W (Mem.below hW)).1 (HC2.out W (Mem.below hW)).2) hm ?_
        go_simp
        refine anyH_take 8 (v := .bool true) rfl (by kernel_rfl) (by kernel_rfl) (by kernel_rfl) rfl (fun W _ => exec_neP k1 v1 k2 v2 false HNE.out rfl rfl) hm ?_
        go_simp
        refine wpAnyH_done (by kernel_rfl) ?_ _
        simp only [endsIn]
        have HB2 : Hid (Below w.heap.size w wc) := below_next HB.out HB.out.size hm.below
        go_wp2_with fail
        go_ret
        exact ⟨AnsIs.no rfl (HLM.out ()), HB2.out⟩
    · have hkn : n = k := by omega
      subst hkn
      have hni : ¬ (n : Int) < (n : Int) := by omega
      have HLM : Hid (∀ _ : Unit, l = m) := fun _ => by
        have h9 := HT.out
        rw [List.take_of_length_le (by rw [HN.out]; exact Nat.le_refl _), List.take_of_length_le (by rw [HM.out]; exact Nat.le_refl _)] at h9
        exact h9
      go_wp2_with fail
      go_ret
      exact ⟨AnsIs.yes rfl (HLM.out ()), HB.out⟩
set_option maxRecDepth 100000 in
theorem pairs_any (l m : List (ByteArray × ByteArray)) (u v : Value) (hnl : l.length ≤ 1000) (w : World) (hu : SlP w u l) (hv : SlP w v m) :
    Calls Try.prog 9 #[u, v] w fun e w' => AnsIs e (l = m) ∧ Below w.heap.size w w' := by
  obtain ⟨p, cap, rfl, _⟩ := SlV.len hu
  obtain ⟨q, cap2, rfl, _⟩ := SlV.len hv
  by_cases h : l.length = m.length
  · have hv2 := hv
    rw [← h] at hv2 ⊢
    exact pairs_go l m l.length cap cap2 p q rfl h.symm hnl w hu hv2
  · refine (pairs_len l.length m.length cap cap2 p q h w).mono fun e w' ⟨he, hw⟩ => ⟨AnsIs.no he (fun h9 => h (by rw [h9])), by rw [hw]; exact Below.refl _ _⟩
end Go.Proofs.Ytnahflppggoplaa
