/- A place by its segments. -/
import Derived.Test.YtikmmheknfljkaaDoorChecked
import Derived.Test.YtikmmheknfljkaaDoorPaCon
namespace Go.Proofs.YtikmmheknfljkaaDoor
open Go Go.RowKit
section
variable {P : Program} {ops : Array Oper} {rest : List Oper} {a : Act} {w w0 : World} {Q : Exit → Act → World → Prop} {S : List Nat} {rows : List (Nat × List Value × TypeId)}
set_option maxRecDepth 100000 in
theorem ret_ct {fn : Func} {R : Ending → World → Prop} {p u : Tmp} {ty : TypeId} (i : Nat) {g : Nat} {l : List Value} {t : TypeId} (v : Value) (hm : Mem w0 S w rows) (hi : rows[i]? = some (g, l, t))
    (hres : fn.results = #[.cell p ty, .tmp u]) (hp : a.tmps.getD p undef = .pointer (some ⟨g, 0, none⟩)) (hv : a.tmps.getD u undef = v) (d : TypeDesc) (hu : P.underlying ty = some d) (hd : (match d with | .struct _ | .array _ _ => true | _ => false) = true)
    (n : Nat) (hs : (P.info? ty).map (·.size) = some n) (hn : l.length = n) (hd0 : a.defers = []) (hR : R (.returned (.tuple #[.agg l.toArray, v])) w) : bodyPost P fn R .ret a w := by
  refine bodyPost_ret ?_ hd0 hR
  rw [results_cell_tmp hres, hp, hv]
  have hl := run_loadVar_row (P := P) w g t ty l.toArray (0, 0) d (hm.get i hi) hu hd (by rw [hs]; simp [hn])
  simp [asAddr, hl]
end
def plOf (xs : List ByteArray) : List ByteArray := if okSegs (xs.map bs) then xs else []
set_option maxRecDepth 100000 in
theorem plOf_ok (xs : List ByteArray) : PlOk (plOf xs) := by
  unfold plOf
  split
  · next h => exact PlOk.of h
  · exact PlOk.nil
set_option maxRecDepth 100000 in
theorem okSegs_no {xs : List ByteArray} {x : ByteArray} (hx : x ∈ xs) (h : seg (bs x) = false) : okSegs (xs.map bs) = false := by
  unfold okSegs
  rw [show (xs.map bs).all seg = false from List.all_eq_false.2 ⟨bs x, List.mem_map_of_mem hx, by simp [h]⟩, Bool.and_false]
set_option maxRecDepth 100000 in
theorem okSegs_many {xs : List ByteArray} (h : 3 < xs.length) : okSegs (xs.map bs) = false := by
  unfold okSegs
  rw [List.length_map, decide_eq_false (by omega)]; rfl
set_option maxRecDepth 100000 in
theorem okSegs_yes {xs : List ByteArray} (hl : xs.length ≤ 3) (h : (xs.take xs.length).all (fun x => seg (bs x)) = true) : okSegs (xs.map bs) = true := by
  rw [List.take_length] at h
  unfold okSegs
  rw [List.length_map, decide_eq_true hl, List.all_map]; exact h
set_option maxRecDepth 100000 in
theorem all_next {xs : List ByteArray} {k : Nat} (hk : k < xs.length) (h : (xs.take k).all (fun x => seg (bs x)) = true) (hs : seg (bs (xs.getD k noStr)) = true) : (xs.take (k + 1)).all (fun x => seg (bs x)) = true := by
  have e : xs[k]? = some (xs.getD k noStr) := by simp [hk]
  rw [List.take_add_one, e]
  simp only [List.all_append, h, Option.toList_some, List.all_cons, hs, List.all_nil, Bool.and_self]
set_option maxHeartbeats 2000000 in
set_option maxRecDepth 100000 in
theorem placeAt_many (n cap : Nat) (p : Option Addr) (w : World) (hn : 3 < n) :
    Calls Tryd.prog 32 #[.slice p n cap] w fun e w' => e = .returned (.tuple #[.agg (plv []).toArray, .bool false]) ∧ Below w.heap.size w w' := by
  have h3 : (3 : Int) < (n : Int) := by omega
  have hm := Mem.start w
  go_enter Tryd.func32, Tryd.ntmps32
  go_wp2_with (first
    | ((with_reducible refine at_op (some 2) (.alloc 42) ?_); refine wpl_alloc _ zero_pl hm ?_; clear hm; intro w1 g1 hm)
    | (go_at_call 28; refine (root_any _).mono ?_; rintro e w' ⟨he, hb⟩; subst he; replace hm := hm.call hb; clear hb)
    | ((with_reducible refine at_op none (.store 42 (.tmp 2) (.tmp 10)) ?_); refine wpl_stw 0 (plv []) hm rfl rfl rfl 3 sz_pl rfl rfl (by decide) ?_; clear hm; intro w2 hm))
  refine ret_ct 0 (.bool false) hm rfl Tryd.results32 rfl rfl _ un_pl rfl 3 sz_pl rfl rfl ?_
  exact ⟨rfl, hm.below⟩
set_option maxHeartbeats 4000000 in
set_option maxRecDepth 100000 in
theorem placeAt_few (xs : List ByteArray) (n cap : Nat) (p : Option Addr) (w : World) (hn : xs.length = n) (h3n : n ≤ 3) (hv : SlS w (.slice p n cap) xs) :
    Calls Tryd.prog 32 #[.slice p n cap] w fun e w' => e = .returned (.tuple #[.agg (plv (plOf xs)).toArray, .bool (okSegs (xs.map bs))]) ∧ Below w.heap.size w w' := by
  have h3 : ¬ (3 : Int) < (n : Int) := by omega
  have hm := Mem.start w
  have HV : Hid (SlS w (.slice p n cap) xs) := hv
  have HN : Hid (∀ _ : Unit, xs.length = n) := fun _ => hn
  clear hv hn
  go_enter Tryd.func32, Tryd.ntmps32
  go_wp2_with (first
    | ((with_reducible refine at_op (some 2) (.alloc 42) ?_); refine wpl_alloc _ zero_pl hm ?_; clear hm; intro w1 g1 hm)
    | ((with_reducible refine at_op (some 4) (.alloc 42) ?_); refine wpl_alloc _ zero_pl hm ?_; clear hm; intro w2 g2 hm))
  go_loopw [13] (fun vi wr => ∃ k : Nat, k ≤ n ∧ vi = .int .i64 (k : Int) ∧ Hid ((xs.take k).all (fun x => seg (bs x)) = true) ∧ Hid (Mem w [] wr [(g2, plk xs k, 42), (g1, [.string ByteArray.empty, .string ByteArray.empty, .string ByteArray.empty], 42)])) (fun vi _ => n - (intOf vi).toNat)
  case atStart => exact ⟨0, by omega, rfl, rfl, hm⟩
  case round =>
    clear hm
    obtain ⟨k, hk, rfl, HA, HM⟩ := hrel
    have hm := HM.out
    clear HM
    by_cases hlt : k < n
    · have hki : (k : Int) < (n : Int) := by omega
      obtain ⟨b, off, hp⟩ := SlS.at HV.out (HN.out ()) (by omega)
      subst hp
      obtain ⟨x, hx⟩ : ∃ x, x = xs.getD k noStr := ⟨_, rfl⟩
      have HC : Hid (wr.cell? ⟨b, off + k, none⟩ = some (.string x)) := by
        rw [hx]
        exact SlS.cells (HN.out ()) (SlV.below HV.out hm.below) k hlt
      have HX : Hid (∀ _ : Unit, x = xs.getD k noStr) := fun _ => hx
      clear hx
      obtain ⟨r, hr⟩ : ∃ r, seg (bs x) = r := ⟨_, rfl⟩
      have HR : Hid (∀ _ : Unit, seg (bs x) = r) := fun _ => hr
      clear hr
      cases r with
      | true =>
        have HS : Hid (∀ _ : Unit, x.size ≤ 1000) := fun _ => by have := (seg_parts (HR.out ())).2.1; rw [bs_length] at this; omega
        go_wp2_with (first
          | ((with_reducible refine at_op (some 17) (.load 9 (.tmp 16)) ?_); go_must (refine wpl_execG (.string x) rfl (exec_ldx (.string x) (HC.out) rfl ag_str) ?_))
          | (go_at_call 13; refine (segment_any x _).mono ?_; rintro e w' ⟨he, hw⟩; rw [HR.out ()] at he; subst he; subst hw)
          | (go_at_call 42; refine (sclone_any x _ (HS.out ())).mono ?_; rintro e w' ⟨he, hb⟩; subst he; replace hm := hm.call hb; clear hb)
          | ((with_reducible refine at_op none (.store 9 (.tmp 25) (.tmp 24)) ?_); refine wpl_stc 0 k (.string x) hm rfl (by go_simp) rfl sz_str (by show k < 3; omega) rfl rfl ?_; clear hm; intro w6 hm))
        go_roundw
        case rel =>
          refine ⟨k + 1, by omega, by go_num, all_next (by rw [HN.out ()]; exact hlt) HA.out (by rw [← HX.out ()]; exact HR.out ()), ?_⟩
          have e := plk_set xs k (by rw [HN.out ()]; exact hlt) (by rw [HN.out ()]; exact h3n)
          rw [← HX.out ()] at e
          rw [← e]
          exact hm
        case measure => simp [intOf]; omega
      | false =>
        go_wp2_with (first
          | ((with_reducible refine at_op (some 17) (.load 9 (.tmp 16)) ?_); go_must (refine wpl_execG (.string x) rfl (exec_ldx (.string x) (HC.out) rfl ag_str) ?_))
          | (go_at_call 13; refine (segment_any x _).mono ?_; rintro e w' ⟨he, hw⟩; rw [HR.out ()] at he; subst he; subst hw)
          | (go_at_call 28; refine (root_any _).mono ?_; rintro e w' ⟨he, hb⟩; subst he; replace hm := hm.call hb; clear hb)
          | ((with_reducible refine at_op none (.store 42 (.tmp 2) (.tmp 21)) ?_); refine wpl_stw 1 (plv []) hm rfl rfl rfl 3 sz_pl rfl rfl (by decide) ?_; clear hm; intro w6 hm))
        refine ret_ct 1 (.bool false) hm rfl Tryd.results32 rfl rfl _ un_pl rfl 3 sz_pl rfl rfl ?_
        have e : okSegs (xs.map bs) = false := okSegs_no (x := x) (by rw [HX.out (), List.getD_eq_getElem?_getD, List.getElem?_eq_getElem (by rw [HN.out ()]; exact hlt)]; exact List.getElem_mem _) (HR.out ())
        refine ⟨?_, hm.below⟩
        rw [plOf, e]
        rfl
    · have hki : ¬ (k : Int) < (n : Int) := by omega
      have e : okSegs (xs.map bs) = true := by
        refine okSegs_yes (by rw [HN.out ()]; exact h3n) ?_
        have := HA.out
        rw [show k = xs.length by rw [HN.out ()]; omega] at this
        exact this
      have e2 : plk xs k = plv (plOf xs) := by
        rw [plOf, e, plk, List.take_of_length_le (by rw [HN.out ()]; omega)]; rfl
      have HE : Hid (∀ _ : Unit, okSegs (xs.map bs) = true) := fun _ => e
      rw [e2] at hm
      clear e e2
      go_wp2_with (first
        | ((with_reducible refine at_op (some 27) (.load 42 (.tmp 4)) ?_); refine wpl_ldw 0 hm rfl rfl _ un_pl rfl 3 sz_pl (by rfl) ?_)
        | ((with_reducible refine at_op none (.store 42 (.tmp 2) (.tmp 27)) ?_); refine wpl_stw 1 (plv (plOf xs)) hm rfl rfl rfl 3 sz_pl rfl rfl (by intro v hv; simp [plv] at hv; rcases hv with rfl | rfl | rfl <;> rfl) ?_; clear hm; intro w6 hm))
      refine ret_ct 1 (.bool true) hm rfl Tryd.results32 rfl rfl _ un_pl rfl 3 sz_pl rfl rfl ?_
      refine ⟨?_, hm.below⟩
      rw [HE.out ()]
set_option maxRecDepth 100000 in
theorem placeAt_any (xs : List ByteArray) (v : Value) (w : World) (hv : SlS w v xs) :
    Calls Tryd.prog 32 #[v] w fun e w' => e = .returned (.tuple #[.agg (plv (plOf xs)).toArray, .bool (okSegs (xs.map bs))]) ∧ Below w.heap.size w w' := by
  obtain ⟨p, cap, rfl, hc⟩ := SlV.len hv
  by_cases h : 3 < xs.length
  · rw [plOf, okSegs_many h]
    exact placeAt_many xs.length cap p w h
  · exact placeAt_few xs xs.length cap p w rfl (by omega) hv
end Go.Proofs.YtikmmheknfljkaaDoor
