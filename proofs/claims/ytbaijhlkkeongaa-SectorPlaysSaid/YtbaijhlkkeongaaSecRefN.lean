/- Contracts of New, Write, Flush and Image of the document's disk. -/
import Derived.Test.YtbaijhlkkeongaaSecRefS
namespace Go.Proofs.Ytbaijhlkkeongaa
open Go Go.RowKit Go.Maps
section
variable {ops : Array Oper} {rest : List Oper} {a : Act} {w w0 w' : World} {Q : Exit → Act → World → Prop} {dst : Option Tmp} {typ : TypeId} {pos : String} {aft : Array Edge} {gd : Option (Nat × Bool)} {S : List Nat} {rows : List (Nat × List Value × TypeId)} {g mb : Nat} {kv : Value} {d : Dk}
set_option maxRecDepth 100000 in
theorem wpl_mkR {x y : Operand} (n : Nat) {i j : Int} (hx : a.eval x = .int .i64 i) (hxi : i = (n : Int)) (hy : a.eval y = .int .i64 j) (hyj : j = (n : Int)) (hn : n ≤ 4000) (hm : Mem w0 S w rows)
    (h : ∀ w' kb, Mem w0 S w' ((kb, u8s (flatK (fun _ => zeroK) n), 53) :: rows) → wpList Try.prog ops Q rest (a.put dst (.slice (some ⟨kb, 0, none⟩) n n)) w') :
    wpList Try.prog ops Q ({ dst := dst, op := .makeSlice 48 x y, type := typ, pos := pos, after := aft, guard := none } :: rest) a w := by
  subst hxi hyj
  refine wpList_plain rfl fun K hK => ?_
  have hh := hK _ _ (h _ _ (hm.alloc (u8s (flatK (fun _ => zeroK) n)) 53))
  have hr : (Instr.makeSlice 48 (.int .i64 (n : Int)) (.int .i64 (n : Int))).run Try.prog w = .ok (.slice (some ⟨w.heap.size, 0, none⟩) n n) (w.alloc (.cells (u8s (flatK (fun _ => zeroK) n)).toArray 53)) := by
    have hi := made_b64
    cases hq : Try.prog.info? 53 with
    | none => simp [hq] at hi
    | some q =>
      simp only [hq, Option.map_some, Option.some.injEq, Prod.mk.injEq] at hi
      obtain ⟨h0, h1, h2⟩ := hi
      have := run_makeSlice (P := Try.prog) w 48 53 q _ un_rs hq h0 .i64 .i64 (n : Int) (n : Int) (by omega) (by omega) (by rw [h1]; simp; omega) (by rw [h2]; simp; omega) (by omega)
      rw [this, h1]
      have e : madeCells (Value.agg (u8s zeroK).toArray).cells ((n : Int).toNat * 64) = (u8s (flatK (fun _ => zeroK) n)).toArray := made_rows n
      rw [e]
      simp
  unfold Oper.wp execOp
  simp only [hx, hy, Sem.run_bind, Sem.run_pure, Result.andThen_ok, hr]
  exact hh
end
set_option maxRecDepth 100000 in
theorem pendL_none (n : Nat) : pendL (fun _ => false) n = List.replicate n (.bool false) := by
  unfold pendL bls
  rw [List.map_map]
  apply List.ext_getElem?
  intro j
  by_cases hj : j < n
  · simp [hj]
  · rw [List.getElem?_eq_none (by simp; omega), List.getElem?_eq_none (by simp; omega)]
set_option maxRecDepth 100000 in
theorem clamp_eq (n : Int) : max 0 (min n 4000) = (clampK n : Int) := by
  unfold clampK
  split
  · omega
  · split <;> omega
set_option maxRecDepth 100000 in
theorem clamp_le (n : Int) : clampK n ≤ 4000 := by
  unfold clampK
  split
  · omega
  · split <;> omega
set_option maxHeartbeats 4000000 in
set_option maxRecDepth 100000 in
theorem newR_any (n : Int) (w : World) :
    Calls Try.prog 6 #[.int .i64 n] w fun e w' => ∃ q, e = .returned (.pointer (some ⟨q, 0, none⟩)) ∧ ∃ a b c, Rf w' q a b c (Dk.new (clampK n)) ∧ (∀ x ∈ [q, a, b, c], w.heap.size ≤ x) ∧ Below w.heap.size w w' := by
  have hm := Mem.start w
  obtain ⟨k, hk⟩ : ∃ k, k = clampK n := ⟨_, rfl⟩
  have HC : Hid (∀ _ : Unit, max 0 (min n 4000) = (k : Int)) := fun _ => by rw [hk]; exact clamp_eq n
  have hk4 : k ≤ 4000 := by rw [hk]; exact clamp_le n
  rw [← hk]
  clear hk
  go_enter Try.func6, Try.ntmps6
  go_wp2_with fail
  simp only [HC.out ()]
  have HM : Hid (Mem w [] w []) := hm
  refine wp_ends0 ?_
  refine anyH_start (T := fun V => Mem w [] V []) (by kernel_rfl) hm ?_
  clear hm HM
  intro w0 hm
  have HM : Hid (Mem w [] w0 []) := hm
  refine anyH_takeG 0 (v := .int .i64 (k : Int)) rfl (by kernel_rfl) (by kernel_rfl) (by kernel_rfl) rfl (fun V _ => by go_simp) hm ?_
  go_simp
  refine anyH_takeG 2 (v := .int .i64 (k : Int)) rfl (by kernel_rfl) (by kernel_rfl) (by kernel_rfl) rfl (fun V _ => by go_simp) hm ?_
  go_simp
  refine anyH_takeG 4 (v := .int .i64 (k : Int)) rfl (by kernel_rfl) (by kernel_rfl) (by kernel_rfl) rfl (fun V _ => by go_simp) hm ?_
  go_simp
  refine wpAnyH_all (rs := [1, 3, 5]) (by kernel_rfl) (by simp) ?_
  intro i' hi'
  simp only [List.mem_cons, List.not_mem_nil, or_false] at hi'
  rcases hi' with rfl | rfl | rfl
  · refine anyH_opW 1 rfl rfl ?_
    intro K hK
    refine wpl_mkR k rfl rfl rfl rfl hk4 HM.out ?_
    intro w1 a hq
    clear hm HM
    have HM : Hid (Mem w [] w1 [(a, u8s (flatK (fun _ => zeroK) k), 53)]) := hq
    have hm : Mem w [] w1 [] := hq.sub (List.nil_sublist _)
    clear hq
    refine wpList_nil ?_
    refine hK _ _ hm ?_
    clear hK K
    go_simp
    refine wpAnyH_all (rs := [3, 5]) (by kernel_rfl) (by simp) ?_
    intro i' hi'
    simp only [List.mem_cons, List.not_mem_nil, or_false] at hi'
    rcases hi' with rfl | rfl
    · refine anyH_opW 3 rfl rfl ?_
      intro K hK
      refine wpl_mkR k rfl rfl rfl rfl hk4 HM.out ?_
      intro w2 b hq
      clear hm HM
      have HM : Hid (Mem w [] w2 [(b, u8s (flatK (fun _ => zeroK) k), 53), (a, u8s (flatK (fun _ => zeroK) k), 53)]) := hq
      have hm : Mem w [] w2 [] := hq.sub (List.nil_sublist _)
      clear hq
      refine wpList_nil ?_
      refine hK _ _ hm ?_
      clear hK K
      go_simp
      refine wpAnyH_all (rs := [5]) (by kernel_rfl) (by simp) ?_
      intro i' hi'
      simp only [List.mem_cons, List.not_mem_nil, or_false] at hi'
      subst hi'
      refine anyH_opW 5 rfl rfl ?_
      intro K hK
      refine wpl_make _ un_bos (.bool false) made_bool rfl k rfl rfl rfl rfl (by omega) HM.out ?_
      intro w3 c hq
      clear hm HM
      have HM : Hid (Mem w [] w3 [(c, List.replicate k (.bool false), 4), (b, u8s (flatK (fun _ => zeroK) k), 53), (a, u8s (flatK (fun _ => zeroK) k), 53)]) := hq
      have hm : Mem w [] w3 [] := hq.sub (List.nil_sublist _)
      clear hq
      refine wpList_nil ?_
      refine hK _ _ hm ?_
      clear hK K
      go_simp
      refine wpAnyH_all (rs := [6]) (by kernel_rfl) (by simp) ?_
      intro i' hi'
      simp only [List.mem_cons, List.not_mem_nil, or_false] at hi'
      subst hi'
      refine anyH_opW 6 rfl rfl ?_
      intro K hK
      refine wpl_build (rrow a b c k 0 0 false) _ rfl (by kernel_rfl) ?_
      refine wpList_nil ?_
      refine hK _ _ hm ?_
      clear hK K
      go_simp
      refine wpAnyH_all (rs := [7]) (by kernel_rfl) (by simp) ?_
      intro i' hi'
      simp only [List.mem_cons, List.not_mem_nil, or_false] at hi'
      subst hi'
      refine anyH_opW 7 rfl rfl ?_
      intro K hK
      refine wpl_box (rrow a b c k 0 0 false) rfl HM.out ?_
      intro w4 q hq
      clear hm HM
      have HM : Hid (Mem w [] w4 ((q, rrow a b c k 0 0 false, 51) :: [(c, List.replicate k (.bool false), 4), (b, u8s (flatK (fun _ => zeroK) k), 53), (a, u8s (flatK (fun _ => zeroK) k), 53)])) := hq
      have hm : Mem w [] w4 [] := hq.sub (List.nil_sublist _)
      clear hq
      refine wpList_nil ?_
      refine hK _ _ hm ?_
      clear hK K
      go_simp
      refine anyH_takeG 8 (v := .pointer (some ⟨q, 0, none⟩)) rfl (by kernel_rfl) (by kernel_rfl) (by kernel_rfl) rfl (fun V _ => by go_simp) hm ?_
      go_simp
      refine wpAnyH_done (by kernel_rfl) ?_ _
      simp only [endsIn]
      go_wp2_with fail
      go_ret
      refine ⟨q, rfl, a, b, c, ⟨Mem.get HM.out 0 rfl, Mem.get HM.out 3 rfl, Mem.get HM.out 2 rfl, by have h := Mem.get HM.out 1 rfl; rw [← pendL_none] at h; exact h, ?_⟩, ?_, hm.below⟩
      · have h := Mem.nodup HM.out
        simp only [List.map_cons, List.map_nil, List.nodup_cons, List.mem_cons, List.not_mem_nil, or_false, not_or] at h ⊢
        refine ⟨⟨?_, ?_, ?_⟩, ⟨?_, ?_⟩, ?_, by simp⟩ <;> omega
      · have h := Mem.fresh HM.out
        simp only [List.mem_cons, List.not_mem_nil, or_false, false_or, forall_eq_or_imp, forall_eq] at h
        refine ⟨?_, ?_, ?_, ?_⟩ <;> omega
    · refine anyH_opW 5 rfl rfl ?_
      intro K hK
      refine wpl_make _ un_bos (.bool false) made_bool rfl k rfl rfl rfl rfl (by omega) HM.out ?_
      intro w2 c hq
      clear hm HM
      have HM : Hid (Mem w [] w2 [(c, List.replicate k (.bool false), 4), (a, u8s (flatK (fun _ => zeroK) k), 53)]) := hq
      have hm : Mem w [] w2 [] := hq.sub (List.nil_sublist _)
      clear hq
      refine wpList_nil ?_
      refine hK _ _ hm ?_
      clear hK K
      go_simp
      refine wpAnyH_all (rs := [3]) (by kernel_rfl) (by simp) ?_
      intro i' hi'
      simp only [List.mem_cons, List.not_mem_nil, or_false] at hi'
      subst hi'
      refine anyH_opW 3 rfl rfl ?_
      intro K hK
      refine wpl_mkR k rfl rfl rfl rfl hk4 HM.out ?_
      intro w3 b hq
      clear hm HM
      have HM : Hid (Mem w [] w3 [(b, u8s (flatK (fun _ => zeroK) k), 53), (c, List.replicate k (.bool false), 4), (a, u8s (flatK (fun _ => zeroK) k), 53)]) := hq
      have hm : Mem w [] w3 [] := hq.sub (List.nil_sublist _)
      clear hq
      refine wpList_nil ?_
      refine hK _ _ hm ?_
      clear hK K
      go_simp
      refine wpAnyH_all (rs := [6]) (by kernel_rfl) (by simp) ?_
      intro i' hi'
      simp only [List.mem_cons, List.not_mem_nil, or_false] at hi'
      subst hi'
      refine anyH_opW 6 rfl rfl ?_
      intro K hK
      refine wpl_build (rrow a b c k 0 0 false) _ rfl (by kernel_rfl) ?_
      refine wpList_nil ?_
      refine hK _ _ hm ?_
      clear hK K
      go_simp
      refine wpAnyH_all (rs := [7]) (by kernel_rfl) (by simp) ?_
      intro i' hi'
      simp only [List.mem_cons, List.not_mem_nil, or_false] at hi'
      subst hi'
      refine anyH_opW 7 rfl rfl ?_
      intro K hK
      refine wpl_box (rrow a b c k 0 0 false) rfl HM.out ?_
      intro w4 q hq
      clear hm HM
      have HM : Hid (Mem w [] w4 ((q, rrow a b c k 0 0 false, 51) :: [(b, u8s (flatK (fun _ => zeroK) k), 53), (c, List.replicate k (.bool false), 4), (a, u8s (flatK (fun _ => zeroK) k), 53)])) := hq
      have hm : Mem w [] w4 [] := hq.sub (List.nil_sublist _)
      clear hq
      refine wpList_nil ?_
      refine hK _ _ hm ?_
      clear hK K
      go_simp
      refine anyH_takeG 8 (v := .pointer (some ⟨q, 0, none⟩)) rfl (by kernel_rfl) (by kernel_rfl) (by kernel_rfl) rfl (fun V _ => by go_simp) hm ?_
      go_simp
      refine wpAnyH_done (by kernel_rfl) ?_ _
      simp only [endsIn]
      go_wp2_with fail
      go_ret
      refine ⟨q, rfl, a, b, c, ⟨Mem.get HM.out 0 rfl, Mem.get HM.out 3 rfl, Mem.get HM.out 1 rfl, by have h := Mem.get HM.out 2 rfl; rw [← pendL_none] at h; exact h, ?_⟩, ?_, hm.below⟩
      · have h := Mem.nodup HM.out
        simp only [List.map_cons, List.map_nil, List.nodup_cons, List.mem_cons, List.not_mem_nil, or_false, not_or] at h ⊢
        refine ⟨⟨?_, ?_, ?_⟩, ⟨?_, ?_⟩, ?_, by simp⟩ <;> omega
      · have h := Mem.fresh HM.out
        simp only [List.mem_cons, List.not_mem_nil, or_false, false_or, forall_eq_or_imp, forall_eq] at h
        refine ⟨?_, ?_, ?_, ?_⟩ <;> omega
  · refine anyH_opW 3 rfl rfl ?_
    intro K hK
    refine wpl_mkR k rfl rfl rfl rfl hk4 HM.out ?_
    intro w1 b hq
    clear hm HM
    have HM : Hid (Mem w [] w1 [(b, u8s (flatK (fun _ => zeroK) k), 53)]) := hq
    have hm : Mem w [] w1 [] := hq.sub (List.nil_sublist _)
    clear hq
    refine wpList_nil ?_
    refine hK _ _ hm ?_
    clear hK K
    go_simp
    refine wpAnyH_all (rs := [1, 5]) (by kernel_rfl) (by simp) ?_
    intro i' hi'
    simp only [List.mem_cons, List.not_mem_nil, or_false] at hi'
    rcases hi' with rfl | rfl
    · refine anyH_opW 1 rfl rfl ?_
      intro K hK
      refine wpl_mkR k rfl rfl rfl rfl hk4 HM.out ?_
      intro w2 a hq
      clear hm HM
      have HM : Hid (Mem w [] w2 [(a, u8s (flatK (fun _ => zeroK) k), 53), (b, u8s (flatK (fun _ => zeroK) k), 53)]) := hq
      have hm : Mem w [] w2 [] := hq.sub (List.nil_sublist _)
      clear hq
      refine wpList_nil ?_
      refine hK _ _ hm ?_
      clear hK K
      go_simp
      refine wpAnyH_all (rs := [5]) (by kernel_rfl) (by simp) ?_
      intro i' hi'
      simp only [List.mem_cons, List.not_mem_nil, or_false] at hi'
      subst hi'
      refine anyH_opW 5 rfl rfl ?_
      intro K hK
      refine wpl_make _ un_bos (.bool false) made_bool rfl k rfl rfl rfl rfl (by omega) HM.out ?_
      intro w3 c hq
      clear hm HM
      have HM : Hid (Mem w [] w3 [(c, List.replicate k (.bool false), 4), (a, u8s (flatK (fun _ => zeroK) k), 53), (b, u8s (flatK (fun _ => zeroK) k), 53)]) := hq
      have hm : Mem w [] w3 [] := hq.sub (List.nil_sublist _)
      clear hq
      refine wpList_nil ?_
      refine hK _ _ hm ?_
      clear hK K
      go_simp
      refine wpAnyH_all (rs := [6]) (by kernel_rfl) (by simp) ?_
      intro i' hi'
      simp only [List.mem_cons, List.not_mem_nil, or_false] at hi'
      subst hi'
      refine anyH_opW 6 rfl rfl ?_
      intro K hK
      refine wpl_build (rrow a b c k 0 0 false) _ rfl (by kernel_rfl) ?_
      refine wpList_nil ?_
      refine hK _ _ hm ?_
      clear hK K
      go_simp
      refine wpAnyH_all (rs := [7]) (by kernel_rfl) (by simp) ?_
      intro i' hi'
      simp only [List.mem_cons, List.not_mem_nil, or_false] at hi'
      subst hi'
      refine anyH_opW 7 rfl rfl ?_
      intro K hK
      refine wpl_box (rrow a b c k 0 0 false) rfl HM.out ?_
      intro w4 q hq
      clear hm HM
      have HM : Hid (Mem w [] w4 ((q, rrow a b c k 0 0 false, 51) :: [(c, List.replicate k (.bool false), 4), (a, u8s (flatK (fun _ => zeroK) k), 53), (b, u8s (flatK (fun _ => zeroK) k), 53)])) := hq
      have hm : Mem w [] w4 [] := hq.sub (List.nil_sublist _)
      clear hq
      refine wpList_nil ?_
      refine hK _ _ hm ?_
      clear hK K
      go_simp
      refine anyH_takeG 8 (v := .pointer (some ⟨q, 0, none⟩)) rfl (by kernel_rfl) (by kernel_rfl) (by kernel_rfl) rfl (fun V _ => by go_simp) hm ?_
      go_simp
      refine wpAnyH_done (by kernel_rfl) ?_ _
      simp only [endsIn]
      go_wp2_with fail
      go_ret
      refine ⟨q, rfl, a, b, c, ⟨Mem.get HM.out 0 rfl, Mem.get HM.out 2 rfl, Mem.get HM.out 3 rfl, by have h := Mem.get HM.out 1 rfl; rw [← pendL_none] at h; exact h, ?_⟩, ?_, hm.below⟩
      · have h := Mem.nodup HM.out
        simp only [List.map_cons, List.map_nil, List.nodup_cons, List.mem_cons, List.not_mem_nil, or_false, not_or] at h ⊢
        refine ⟨⟨?_, ?_, ?_⟩, ⟨?_, ?_⟩, ?_, by simp⟩ <;> omega
      · have h := Mem.fresh HM.out
        simp only [List.mem_cons, List.not_mem_nil, or_false, false_or, forall_eq_or_imp, forall_eq] at h
        refine ⟨?_, ?_, ?_, ?_⟩ <;> omega
    · refine anyH_opW 5 rfl rfl ?_
      intro K hK
      refine wpl_make _ un_bos (.bool false) made_bool rfl k rfl rfl rfl rfl (by omega) HM.out ?_
      intro w2 c hq
      clear hm HM
      have HM : Hid (Mem w [] w2 [(c, List.replicate k (.bool false), 4), (b, u8s (flatK (fun _ => zeroK) k), 53)]) := hq
      have hm : Mem w [] w2 [] := hq.sub (List.nil_sublist _)
      clear hq
      refine wpList_nil ?_
      refine hK _ _ hm ?_
      clear hK K
      go_simp
      refine wpAnyH_all (rs := [1]) (by kernel_rfl) (by simp) ?_
      intro i' hi'
      simp only [List.mem_cons, List.not_mem_nil, or_false] at hi'
      subst hi'
      refine anyH_opW 1 rfl rfl ?_
      intro K hK
      refine wpl_mkR k rfl rfl rfl rfl hk4 HM.out ?_
      intro w3 a hq
      clear hm HM
      have HM : Hid (Mem w [] w3 [(a, u8s (flatK (fun _ => zeroK) k), 53), (c, List.replicate k (.bool false), 4), (b, u8s (flatK (fun _ => zeroK) k), 53)]) := hq
      have hm : Mem w [] w3 [] := hq.sub (List.nil_sublist _)
      clear hq
      refine wpList_nil ?_
      refine hK _ _ hm ?_
      clear hK K
      go_simp
      refine wpAnyH_all (rs := [6]) (by kernel_rfl) (by simp) ?_
      intro i' hi'
      simp only [List.mem_cons, List.not_mem_nil, or_false] at hi'
      subst hi'
      refine anyH_opW 6 rfl rfl ?_
      intro K hK
      refine wpl_build (rrow a b c k 0 0 false) _ rfl (by kernel_rfl) ?_
      refine wpList_nil ?_
      refine hK _ _ hm ?_
      clear hK K
      go_simp
      refine wpAnyH_all (rs := [7]) (by kernel_rfl) (by simp) ?_
      intro i' hi'
      simp only [List.mem_cons, List.not_mem_nil, or_false] at hi'
      subst hi'
      refine anyH_opW 7 rfl rfl ?_
      intro K hK
      refine wpl_box (rrow a b c k 0 0 false) rfl HM.out ?_
      intro w4 q hq
      clear hm HM
      have HM : Hid (Mem w [] w4 ((q, rrow a b c k 0 0 false, 51) :: [(a, u8s (flatK (fun _ => zeroK) k), 53), (c, List.replicate k (.bool false), 4), (b, u8s (flatK (fun _ => zeroK) k), 53)])) := hq
      have hm : Mem w [] w4 [] := hq.sub (List.nil_sublist _)
      clear hq
      refine wpList_nil ?_
      refine hK _ _ hm ?_
      clear hK K
      go_simp
      refine anyH_takeG 8 (v := .pointer (some ⟨q, 0, none⟩)) rfl (by kernel_rfl) (by kernel_rfl) (by kernel_rfl) rfl (fun V _ => by go_simp) hm ?_
      go_simp
      refine wpAnyH_done (by kernel_rfl) ?_ _
      simp only [endsIn]
      go_wp2_with fail
      go_ret
      refine ⟨q, rfl, a, b, c, ⟨Mem.get HM.out 0 rfl, Mem.get HM.out 1 rfl, Mem.get HM.out 3 rfl, by have h := Mem.get HM.out 2 rfl; rw [← pendL_none] at h; exact h, ?_⟩, ?_, hm.below⟩
      · have h := Mem.nodup HM.out
        simp only [List.map_cons, List.map_nil, List.nodup_cons, List.mem_cons, List.not_mem_nil, or_false, not_or] at h ⊢
        refine ⟨⟨?_, ?_, ?_⟩, ⟨?_, ?_⟩, ?_, by simp⟩ <;> omega
      · have h := Mem.fresh HM.out
        simp only [List.mem_cons, List.not_mem_nil, or_false, false_or, forall_eq_or_imp, forall_eq] at h
        refine ⟨?_, ?_, ?_, ?_⟩ <;> omega
  · refine anyH_opW 5 rfl rfl ?_
    intro K hK
    refine wpl_make _ un_bos (.bool false) made_bool rfl k rfl rfl rfl rfl (by omega) HM.out ?_
    intro w1 c hq
    clear hm HM
    have HM : Hid (Mem w [] w1 [(c, List.replicate k (.bool false), 4)]) := hq
    have hm : Mem w [] w1 [] := hq.sub (List.nil_sublist _)
    clear hq
    refine wpList_nil ?_
    refine hK _ _ hm ?_
    clear hK K
    go_simp
    refine wpAnyH_all (rs := [1, 3]) (by kernel_rfl) (by simp) ?_
    intro i' hi'
    simp only [List.mem_cons, List.not_mem_nil, or_false] at hi'
    rcases hi' with rfl | rfl
    · refine anyH_opW 1 rfl rfl ?_
      intro K hK
      refine wpl_mkR k rfl rfl rfl rfl hk4 HM.out ?_
      intro w2 a hq
      clear hm HM
      have HM : Hid (Mem w [] w2 [(a, u8s (flatK (fun _ => zeroK) k), 53), (c, List.replicate k (.bool false), 4)]) := hq
      have hm : Mem w [] w2 [] := hq.sub (List.nil_sublist _)
      clear hq
      refine wpList_nil ?_
      refine hK _ _ hm ?_
      clear hK K
      go_simp
      refine wpAnyH_all (rs := [3]) (by kernel_rfl) (by simp) ?_
      intro i' hi'
      simp only [List.mem_cons, List.not_mem_nil, or_false] at hi'
      subst hi'
      refine anyH_opW 3 rfl rfl ?_
      intro K hK
      refine wpl_mkR k rfl rfl rfl rfl hk4 HM.out ?_
      intro w3 b hq
      clear hm HM
      have HM : Hid (Mem w [] w3 [(b, u8s (flatK (fun _ => zeroK) k), 53), (a, u8s (flatK (fun _ => zeroK) k), 53), (c, List.replicate k (.bool false), 4)]) := hq
      have hm : Mem w [] w3 [] := hq.sub (List.nil_sublist _)
      clear hq
      refine wpList_nil ?_
      refine hK _ _ hm ?_
      clear hK K
      go_simp
      refine wpAnyH_all (rs := [6]) (by kernel_rfl) (by simp) ?_
      intro i' hi'
      simp only [List.mem_cons, List.not_mem_nil, or_false] at hi'
      subst hi'
      refine anyH_opW 6 rfl rfl ?_
      intro K hK
      refine wpl_build (rrow a b c k 0 0 false) _ rfl (by kernel_rfl) ?_
      refine wpList_nil ?_
      refine hK _ _ hm ?_
      clear hK K
      go_simp
      refine wpAnyH_all (rs := [7]) (by kernel_rfl) (by simp) ?_
      intro i' hi'
      simp only [List.mem_cons, List.not_mem_nil, or_false] at hi'
      subst hi'
      refine anyH_opW 7 rfl rfl ?_
      intro K hK
      refine wpl_box (rrow a b c k 0 0 false) rfl HM.out ?_
      intro w4 q hq
      clear hm HM
      have HM : Hid (Mem w [] w4 ((q, rrow a b c k 0 0 false, 51) :: [(b, u8s (flatK (fun _ => zeroK) k), 53), (a, u8s (flatK (fun _ => zeroK) k), 53), (c, List.replicate k (.bool false), 4)])) := hq
      have hm : Mem w [] w4 [] := hq.sub (List.nil_sublist _)
      clear hq
      refine wpList_nil ?_
      refine hK _ _ hm ?_
      clear hK K
      go_simp
      refine anyH_takeG 8 (v := .pointer (some ⟨q, 0, none⟩)) rfl (by kernel_rfl) (by kernel_rfl) (by kernel_rfl) rfl (fun V _ => by go_simp) hm ?_
      go_simp
      refine wpAnyH_done (by kernel_rfl) ?_ _
      simp only [endsIn]
      go_wp2_with fail
      go_ret
      refine ⟨q, rfl, a, b, c, ⟨Mem.get HM.out 0 rfl, Mem.get HM.out 2 rfl, Mem.get HM.out 1 rfl, by have h := Mem.get HM.out 3 rfl; rw [← pendL_none] at h; exact h, ?_⟩, ?_, hm.below⟩
      · have h := Mem.nodup HM.out
        simp only [List.map_cons, List.map_nil, List.nodup_cons, List.mem_cons, List.not_mem_nil, or_false, not_or] at h ⊢
        refine ⟨⟨?_, ?_, ?_⟩, ⟨?_, ?_⟩, ?_, by simp⟩ <;> omega
      · have h := Mem.fresh HM.out
        simp only [List.mem_cons, List.not_mem_nil, or_false, false_or, forall_eq_or_imp, forall_eq] at h
        refine ⟨?_, ?_, ?_, ?_⟩ <;> omega
    · refine anyH_opW 3 rfl rfl ?_
      intro K hK
      refine wpl_mkR k rfl rfl rfl rfl hk4 HM.out ?_
      intro w2 b hq
      clear hm HM
      have HM : Hid (Mem w [] w2 [(b, u8s (flatK (fun _ => zeroK) k), 53), (c, List.replicate k (.bool false), 4)]) := hq
      have hm : Mem w [] w2 [] := hq.sub (List.nil_sublist _)
      clear hq
      refine wpList_nil ?_
      refine hK _ _ hm ?_
      clear hK K
      go_simp
      refine wpAnyH_all (rs := [1]) (by kernel_rfl) (by simp) ?_
      intro i' hi'
      simp only [List.mem_cons, List.not_mem_nil, or_false] at hi'
      subst hi'
      refine anyH_opW 1 rfl rfl ?_
      intro K hK
      refine wpl_mkR k rfl rfl rfl rfl hk4 HM.out ?_
      intro w3 a hq
      clear hm HM
      have HM : Hid (Mem w [] w3 [(a, u8s (flatK (fun _ => zeroK) k), 53), (b, u8s (flatK (fun _ => zeroK) k), 53), (c, List.replicate k (.bool false), 4)]) := hq
      have hm : Mem w [] w3 [] := hq.sub (List.nil_sublist _)
      clear hq
      refine wpList_nil ?_
      refine hK _ _ hm ?_
      clear hK K
      go_simp
      refine wpAnyH_all (rs := [6]) (by kernel_rfl) (by simp) ?_
      intro i' hi'
      simp only [List.mem_cons, List.not_mem_nil, or_false] at hi'
      subst hi'
      refine anyH_opW 6 rfl rfl ?_
      intro K hK
      refine wpl_build (rrow a b c k 0 0 false) _ rfl (by kernel_rfl) ?_
      refine wpList_nil ?_
      refine hK _ _ hm ?_
      clear hK K
      go_simp
      refine wpAnyH_all (rs := [7]) (by kernel_rfl) (by simp) ?_
      intro i' hi'
      simp only [List.mem_cons, List.not_mem_nil, or_false] at hi'
      subst hi'
      refine anyH_opW 7 rfl rfl ?_
      intro K hK
      refine wpl_box (rrow a b c k 0 0 false) rfl HM.out ?_
      intro w4 q hq
      clear hm HM
      have HM : Hid (Mem w [] w4 ((q, rrow a b c k 0 0 false, 51) :: [(a, u8s (flatK (fun _ => zeroK) k), 53), (b, u8s (flatK (fun _ => zeroK) k), 53), (c, List.replicate k (.bool false), 4)])) := hq
      have hm : Mem w [] w4 [] := hq.sub (List.nil_sublist _)
      clear hq
      refine wpList_nil ?_
      refine hK _ _ hm ?_
      clear hK K
      go_simp
      refine anyH_takeG 8 (v := .pointer (some ⟨q, 0, none⟩)) rfl (by kernel_rfl) (by kernel_rfl) (by kernel_rfl) rfl (fun V _ => by go_simp) hm ?_
      go_simp
      refine wpAnyH_done (by kernel_rfl) ?_ _
      simp only [endsIn]
      go_wp2_with fail
      go_ret
      refine ⟨q, rfl, a, b, c, ⟨Mem.get HM.out 0 rfl, Mem.get HM.out 1 rfl, Mem.get HM.out 2 rfl, by have h := Mem.get HM.out 3 rfl; rw [← pendL_none] at h; exact h, ?_⟩, ?_, hm.below⟩
      · have h := Mem.nodup HM.out
        simp only [List.map_cons, List.map_nil, List.nodup_cons, List.mem_cons, List.not_mem_nil, or_false, not_or] at h ⊢
        refine ⟨⟨?_, ?_, ?_⟩, ⟨?_, ?_⟩, ?_, by simp⟩ <;> omega
      · have h := Mem.fresh HM.out
        simp only [List.mem_cons, List.not_mem_nil, or_false, false_or, forall_eq_or_imp, forall_eq] at h
        refine ⟨?_, ?_, ?_, ?_⟩ <;> omega
end Go.Proofs.Ytbaijhlkkeongaa
