/- Package term: number. -/
import Derived.Test.YtbiinchmbclmcaaDoorTmSkip
namespace Go.Proofs.YtbiinchmbclmcaaDoor
open Go Go.RowKit
set_option maxHeartbeats 4000000 in
set_option maxRecDepth 100000 in
theorem number_long (R : List UInt8) (room : Int) (g : Nat) (w : World) (hRl : R.length ≤ 100000) (hl : 2 < (ldg R).length) (hr : Row w g (rdv R room) 53) :
    Calls Tryd.prog 29 #[.pointer (some ⟨g, 0, none⟩)] w fun e w' => e = .returned (.tuple #[.int .i64 0, .bool false]) ∧ Row w' g (rdv R room) 53 ∧ Upd g w w' := by
  have hm := Mem.enter hr
  obtain ⟨d, hd⟩ : ∃ d, d = (ldg R).length := ⟨_, rfl⟩
  have hdl : d ≤ R.length := by
    have := congrArg List.length (ldg_split R)
    rw [List.length_append, List.length_drop, ← hd] at this
    omega
  obtain ⟨S, hS⟩ : ∃ S, S = mkS R := ⟨_, rfl⟩
  obtain ⟨S2, hS2⟩ : ∃ S, S = mkS (R.drop d) := ⟨_, rfl⟩
  obtain ⟨S3, hS3⟩ : ∃ S, S = mkS (ldg R) := ⟨_, rfl⟩
  have z1 : S.size = R.length := by rw [hS, mkS_size]
  have z2 : S2.size = R.length - d := by rw [hS2, mkS_size, List.length_drop]
  have z3 : S3.size = d := by rw [hS3, mkS_size, hd]
  have HS0 : Hid (∀ _ : Unit, (rdv R room)[0]? = some (.string S)) := fun _ => by rw [hS]; rfl
  have HTR : Hid (∀ W, Calls Tryd.prog 34 #[.string S, .string ⟨#[48, 49, 50, 51, 52, 53, 54, 55, 56, 57]⟩] W fun e w' => e = .returned (.string S2) ∧ Below W.heap.size W w') := fun W => by
    have := trim_any S W
    rw [hS, bs_mkS, ← hd, ← hS2] at this
    rw [hS]
    exact this
  have HWR : Hid (∀ _ : Unit, IntKind.i64.wrap ((S.size : Int) - (S2.size : Int)) = (d : Int)) := fun _ => (wrapi _ (by omega) (by omega)).trans (by omega)
  have HDL : Hid (∀ _ : Unit, d ≤ S.size) := fun _ => by omega
  have HS3 : Hid (∀ _ : Unit, bs S3 = (bs S).take d) := fun _ => by
    rw [hS3, hS, bs_mkS, bs_mkS, hd]
    exact (ldg_take R).symm
  have HB3 : Hid (∀ _ : Unit, bs S3 = ldg R) := fun _ => by rw [hS3, bs_mkS]
  obtain ⟨Q, hQ⟩ : ∃ Q, Q = mkS [57, 57] := ⟨_, rfl⟩
  have HIQ : Hid (∀ W, Calls Tryd.prog 31 #[.int .i64 99] W fun e w' => e = .returned (.string Q) ∧ w' = W) := fun W => by
    rw [hQ]
    exact itoa_any 99 (by omega) (by omega) W
  have hqz : Q.size = 2 := by rw [hQ, mkS_size]; rfl
  have HDR : Hid (∀ _ : Unit, d = (ldg R).length) := fun _ => hd
  have HZ3 : Hid (∀ _ : Unit, S3.size = d ∧ Q.size = 2) := fun _ => ⟨z3, hqz⟩
  clear hr hS hS2 hS3 hd z1 z2 z3 hqz hdl hQ
  have hc : (S3.size : Int) > (Q.size : Int) := by have := HDR.out (); have hz3 := HZ3.out (); omega
  go_enter Tryd.func29, Tryd.ntmps29
  go_wp2_with fail
  refine wp_ends0 ?_
  refine anyH_startB (T := fun W => Mem w [g] W [(g, rdv R room, 53)]) (by kernel_rfl) hm ?_
  intro wc hbw hmw
  replace hm : Mem w [g] wc [(g, rdv R room, 53)] := hmw
  clear hbw hmw
  refine anyH_take 0 (v := .pointer (some ⟨g, 0, none⟩)) rfl (by kernel_rfl) (by kernel_rfl) (by kernel_rfl) rfl (fun W _ => by go_simp) hm ?_
  go_simp
  refine anyH_take 1 (v := .pointer (some ⟨g, 0, none⟩)) rfl (by kernel_rfl) (by kernel_rfl) (by kernel_rfl) rfl (fun W _ => by go_simp) hm ?_
  go_simp
  refine anyH_take 2 (v := .pointer (some ⟨g, 0, none⟩)) rfl (by kernel_rfl) (by kernel_rfl) (by kernel_rfl) rfl (fun W _ => by go_simp) hm ?_
  go_simp
  refine anyH_take 3 (v := .string S) rfl (by kernel_rfl) (by kernel_rfl) (by kernel_rfl) rfl (fun W hW => exec_ldx (.string S) ((Mem.cell hW 0 rfl 0).trans (HS0.out ())) rfl ag_str) hm ?_
  go_simp
  refine anyH_take 4 (v := .pointer (some ⟨g, 0, none⟩)) rfl (by kernel_rfl) (by kernel_rfl) (by kernel_rfl) rfl (fun W _ => by go_simp) hm ?_
  go_simp
  refine anyH_take 5 (v := .pointer (some ⟨g, 0, none⟩)) rfl (by kernel_rfl) (by kernel_rfl) (by kernel_rfl) rfl (fun W _ => by go_simp) hm ?_
  go_simp
  refine anyH_take 6 (v := .pointer (some ⟨g, 0, none⟩)) rfl (by kernel_rfl) (by kernel_rfl) (by kernel_rfl) rfl (fun W _ => by go_simp) hm ?_
  go_simp
  refine anyH_take 7 (v := .string S) rfl (by kernel_rfl) (by kernel_rfl) (by kernel_rfl) rfl (fun W hW => exec_ldx (.string S) ((Mem.cell hW 0 rfl 0).trans (HS0.out ())) rfl ag_str) hm ?_
  go_simp
  refine anyH_take 8 (v := .int .i64 (S.size : Int)) rfl (by kernel_rfl) (by kernel_rfl) (by kernel_rfl) rfl (fun W _ => by go_simp) hm ?_
  go_simp
  refine anyH_take 9 (v := .pointer (some ⟨g, 0, none⟩)) rfl (by kernel_rfl) (by kernel_rfl) (by kernel_rfl) rfl (fun W _ => by go_simp) hm ?_
  go_simp
  refine anyH_take 10 (v := .pointer (some ⟨g, 0, none⟩)) rfl (by kernel_rfl) (by kernel_rfl) (by kernel_rfl) rfl (fun W _ => by go_simp) hm ?_
  go_simp
  refine anyH_take 11 (v := .pointer (some ⟨g, 0, none⟩)) rfl (by kernel_rfl) (by kernel_rfl) (by kernel_rfl) rfl (fun W _ => by go_simp) hm ?_
  go_simp
  refine anyH_take 12 (v := .string S) rfl (by kernel_rfl) (by kernel_rfl) (by kernel_rfl) rfl (fun W hW => exec_ldx (.string S) ((Mem.cell hW 0 rfl 0).trans (HS0.out ())) rfl ag_str) hm ?_
  go_simp
  refine wpAnyH_all (rs := [13]) (by kernel_rfl) (by simp) ?_
  intro i hi
  simp only [List.mem_cons, List.not_mem_nil, or_false] at hi
  subst hi
  refine anyH_opW 13 rfl rfl ?_
  intro K hK
  go_wp2_with (go_at_call 34; refine (HTR.out _).mono ?_; rintro e w' ⟨he, hb⟩; subst he; replace hm := hm.call hb; clear hb)
  refine hK _ _ hm ?_
  clear hK K
  go_simp
  refine anyH_take 14 (v := .int .i64 (S2.size : Int)) rfl (by kernel_rfl) (by kernel_rfl) (by kernel_rfl) rfl (fun W _ => by go_simp) hm ?_
  go_simp
  refine anyH_take 15 (v := .int .i64 (d : Int)) rfl (by kernel_rfl) (by kernel_rfl) (by kernel_rfl) rfl (fun W _ => by first | (go_simp; done) | (go_simp; rw [HWR.out ()]) | (go_simp; exact HWR.out ()) | (go_simp; omega)) hm ?_
  go_simp
  refine anyH_take 16 (v := .string S3) rfl (by kernel_rfl) (by kernel_rfl) (by kernel_rfl) rfl (fun W _ => exec_shiS S S3 d (HDL.out ()) (HS3.out ()) rfl rfl) hm ?_
  go_simp
  refine anyH_take 17 (v := .string S3) rfl (by kernel_rfl) (by kernel_rfl) (by kernel_rfl) rfl (fun W _ => by go_simp) hm ?_
  go_simp
  refine wpAnyH_done (by kernel_rfl) ?_ _
  simp only [endsIn]
  go_wp2_with (first
    | (go_at_call 31; go_must (refine (HIQ.out _).mono ?_); rintro e w' ⟨he, hw⟩; subst he; replace hw := hw.symm; subst hw))
  go_ret2
  exact ⟨rfl, hm.get 0 rfl, hm.toUpd⟩
set_option maxHeartbeats 4000000 in
set_option maxRecDepth 100000 in
theorem number_none (R : List UInt8) (room : Int) (g : Nat) (w : World) (hRl : R.length ≤ 100000) (hl : ldg R = []) (hE : Esx w) (hg10 : 10 ≤ g) (hr : Row w g (rdv R room) 53) :
    Calls Tryd.prog 29 #[.pointer (some ⟨g, 0, none⟩)] w fun e w' => e = .returned (.tuple #[.int .i64 0, .bool false]) ∧ Row w' g (rdv R room) 53 ∧ Upd g w w' := by
  have hm := Mem.enter hr
  obtain ⟨d, hd⟩ : ∃ d, d = (ldg R).length := ⟨_, rfl⟩
  have hdl : d ≤ R.length := by
    have := congrArg List.length (ldg_split R)
    rw [List.length_append, List.length_drop, ← hd] at this
    omega
  obtain ⟨S, hS⟩ : ∃ S, S = mkS R := ⟨_, rfl⟩
  obtain ⟨S2, hS2⟩ : ∃ S, S = mkS (R.drop d) := ⟨_, rfl⟩
  obtain ⟨S3, hS3⟩ : ∃ S, S = mkS (ldg R) := ⟨_, rfl⟩
  have z1 : S.size = R.length := by rw [hS, mkS_size]
  have z2 : S2.size = R.length - d := by rw [hS2, mkS_size, List.length_drop]
  have z3 : S3.size = d := by rw [hS3, mkS_size, hd]
  have HS0 : Hid (∀ _ : Unit, (rdv R room)[0]? = some (.string S)) := fun _ => by rw [hS]; rfl
  have HTR : Hid (∀ W, Calls Tryd.prog 34 #[.string S, .string ⟨#[48, 49, 50, 51, 52, 53, 54, 55, 56, 57]⟩] W fun e w' => e = .returned (.string S2) ∧ Below W.heap.size W w') := fun W => by
    have := trim_any S W
    rw [hS, bs_mkS, ← hd, ← hS2] at this
    rw [hS]
    exact this
  have HWR : Hid (∀ _ : Unit, IntKind.i64.wrap ((S.size : Int) - (S2.size : Int)) = (d : Int)) := fun _ => (wrapi _ (by omega) (by omega)).trans (by omega)
  have HDL : Hid (∀ _ : Unit, d ≤ S.size) := fun _ => by omega
  have HS3 : Hid (∀ _ : Unit, bs S3 = (bs S).take d) := fun _ => by
    rw [hS3, hS, bs_mkS, bs_mkS, hd]
    exact (ldg_take R).symm
  have HB3 : Hid (∀ _ : Unit, bs S3 = ldg R) := fun _ => by rw [hS3, bs_mkS]
  obtain ⟨Q, hQ⟩ : ∃ Q, Q = mkS [57, 57] := ⟨_, rfl⟩
  have HIQ : Hid (∀ W, Calls Tryd.prog 31 #[.int .i64 99] W fun e w' => e = .returned (.string Q) ∧ w' = W) := fun W => by
    rw [hQ]
    exact itoa_any 99 (by omega) (by omega) W
  have hqz : Q.size = 2 := by rw [hQ, mkS_size]; rfl
  have HDR : Hid (∀ _ : Unit, d = (ldg R).length) := fun _ => hd
  have HZ3 : Hid (∀ _ : Unit, S3.size = d ∧ Q.size = 2) := fun _ => ⟨z3, hqz⟩
  clear hr hS hS2 hS3 hd z1 z2 z3 hqz hdl hQ
  have hc : ¬ (S3.size : Int) > (Q.size : Int) := by have := HDR.out (); have hz3 := HZ3.out (); rw [hl] at this; simp at this; omega
  have HAT : Hid (∀ W, Esx W → Calls Tryd.prog 35 #[.string S3] W fun e w' => ∃ N T, e = .returned (.tuple #[.int .i64 0, .iface T (.pointer (some ⟨N, 0, none⟩))]) ∧ Below W.heap.size W w') := fun W hW => atoi_no S3 (by have := HDR.out (); have hz3 := HZ3.out (); rw [hl] at this; simp at this; omega) (by rw [HB3.out (), hl]; rfl) W hW
  have HE : Hid (∀ W, Upd g w W → Esx W) := fun W hW => hE.upd hW hg10
  clear hl hE
  go_enter Tryd.func29, Tryd.ntmps29
  go_wp2_with fail
  refine wp_ends0 ?_
  refine anyH_startB (T := fun W => Mem w [g] W [(g, rdv R room, 53)]) (by kernel_rfl) hm ?_
  intro wc hbw hmw
  replace hm : Mem w [g] wc [(g, rdv R room, 53)] := hmw
  clear hbw hmw
  refine anyH_take 0 (v := .pointer (some ⟨g, 0, none⟩)) rfl (by kernel_rfl) (by kernel_rfl) (by kernel_rfl) rfl (fun W _ => by go_simp) hm ?_
  go_simp
  refine anyH_take 1 (v := .pointer (some ⟨g, 0, none⟩)) rfl (by kernel_rfl) (by kernel_rfl) (by kernel_rfl) rfl (fun W _ => by go_simp) hm ?_
  go_simp
  refine anyH_take 2 (v := .pointer (some ⟨g, 0, none⟩)) rfl (by kernel_rfl) (by kernel_rfl) (by kernel_rfl) rfl (fun W _ => by go_simp) hm ?_
  go_simp
  refine anyH_take 3 (v := .string S) rfl (by kernel_rfl) (by kernel_rfl) (by kernel_rfl) rfl (fun W hW => exec_ldx (.string S) ((Mem.cell hW 0 rfl 0).trans (HS0.out ())) rfl ag_str) hm ?_
  go_simp
  refine anyH_take 4 (v := .pointer (some ⟨g, 0, none⟩)) rfl (by kernel_rfl) (by kernel_rfl) (by kernel_rfl) rfl (fun W _ => by go_simp) hm ?_
  go_simp
  refine anyH_take 5 (v := .pointer (some ⟨g, 0, none⟩)) rfl (by kernel_rfl) (by kernel_rfl) (by kernel_rfl) rfl (fun W _ => by go_simp) hm ?_
  go_simp
  refine anyH_take 6 (v := .pointer (some ⟨g, 0, none⟩)) rfl (by kernel_rfl) (by kernel_rfl) (by kernel_rfl) rfl (fun W _ => by go_simp) hm ?_
  go_simp
  refine anyH_take 7 (v := .string S) rfl (by kernel_rfl) (by kernel_rfl) (by kernel_rfl) rfl (fun W hW => exec_ldx (.string S) ((Mem.cell hW 0 rfl 0).trans (HS0.out ())) rfl ag_str) hm ?_
  go_simp
  refine anyH_take 8 (v := .int .i64 (S.size : Int)) rfl (by kernel_rfl) (by kernel_rfl) (by kernel_rfl) rfl (fun W _ => by go_simp) hm ?_
  go_simp
  refine anyH_take 9 (v := .pointer (some ⟨g, 0, none⟩)) rfl (by kernel_rfl) (by kernel_rfl) (by kernel_rfl) rfl (fun W _ => by go_simp) hm ?_
  go_simp
  refine anyH_take 10 (v := .pointer (some ⟨g, 0, none⟩)) rfl (by kernel_rfl) (by kernel_rfl) (by kernel_rfl) rfl (fun W _ => by go_simp) hm ?_
  go_simp
  refine anyH_take 11 (v := .pointer (some ⟨g, 0, none⟩)) rfl (by kernel_rfl) (by kernel_rfl) (by kernel_rfl) rfl (fun W _ => by go_simp) hm ?_
  go_simp
  refine anyH_take 12 (v := .string S) rfl (by kernel_rfl) (by kernel_rfl) (by kernel_rfl) rfl (fun W hW => exec_ldx (.string S) ((Mem.cell hW 0 rfl 0).trans (HS0.out ())) rfl ag_str) hm ?_
  go_simp
  refine wpAnyH_all (rs := [13]) (by kernel_rfl) (by simp) ?_
  intro i hi
  simp only [List.mem_cons, List.not_mem_nil, or_false] at hi
  subst hi
  refine anyH_opW 13 rfl rfl ?_
  intro K hK
  go_wp2_with (go_at_call 34; refine (HTR.out _).mono ?_; rintro e w' ⟨he, hb⟩; subst he; replace hm := hm.call hb; clear hb)
  refine hK _ _ hm ?_
  clear hK K
  go_simp
  refine anyH_take 14 (v := .int .i64 (S2.size : Int)) rfl (by kernel_rfl) (by kernel_rfl) (by kernel_rfl) rfl (fun W _ => by go_simp) hm ?_
  go_simp
  refine anyH_take 15 (v := .int .i64 (d : Int)) rfl (by kernel_rfl) (by kernel_rfl) (by kernel_rfl) rfl (fun W _ => by first | (go_simp; done) | (go_simp; rw [HWR.out ()]) | (go_simp; exact HWR.out ()) | (go_simp; omega)) hm ?_
  go_simp
  refine anyH_take 16 (v := .string S3) rfl (by kernel_rfl) (by kernel_rfl) (by kernel_rfl) rfl (fun W _ => exec_shiS S S3 d (HDL.out ()) (HS3.out ()) rfl rfl) hm ?_
  go_simp
  refine anyH_take 17 (v := .string S3) rfl (by kernel_rfl) (by kernel_rfl) (by kernel_rfl) rfl (fun W _ => by go_simp) hm ?_
  go_simp
  refine wpAnyH_done (by kernel_rfl) ?_ _
  simp only [endsIn]
  go_wp2_with (first
    | (go_at_call 31; go_must (refine (HIQ.out _).mono ?_); rintro e w' ⟨he, hw⟩; subst he; replace hw := hw.symm; subst hw)
    | (go_at_call 35; go_must (refine (HAT.out _ (HE.out _ hm.toUpd)).mono ?_); rintro e w' ⟨N, T0, he, hb⟩; subst he; replace hm := hm.call hb; clear hb))
  go_ret2
  exact ⟨rfl, hm.get 0 rfl, hm.toUpd⟩
set_option maxHeartbeats 4000000 in
set_option maxRecDepth 100000 in
theorem number_bad (R : List UInt8) (room : Int) (g : Nat) (w : World) (hRl : R.length ≤ 100000) (v : Int) (hl : (ldg R).length ≤ 2) (ha : Lib.atoi (ldg R) = some v) (h0 : 0 ≤ v) (h99 : v ≤ 99) (hb : dig v ≠ ldg R) (hr : Row w g (rdv R room) 53) :
    Calls Tryd.prog 29 #[.pointer (some ⟨g, 0, none⟩)] w fun e w' => e = .returned (.tuple #[.int .i64 0, .bool false]) ∧ Row w' g (rdv R room) 53 ∧ Upd g w w' := by
  have hm := Mem.enter hr
  obtain ⟨d, hd⟩ : ∃ d, d = (ldg R).length := ⟨_, rfl⟩
  have hdl : d ≤ R.length := by
    have := congrArg List.length (ldg_split R)
    rw [List.length_append, List.length_drop, ← hd] at this
    omega
  obtain ⟨S, hS⟩ : ∃ S, S = mkS R := ⟨_, rfl⟩
  obtain ⟨S2, hS2⟩ : ∃ S, S = mkS (R.drop d) := ⟨_, rfl⟩
  obtain ⟨S3, hS3⟩ : ∃ S, S = mkS (ldg R) := ⟨_, rfl⟩
  have z1 : S.size = R.length := by rw [hS, mkS_size]
  have z2 : S2.size = R.length - d := by rw [hS2, mkS_size, List.length_drop]
  have z3 : S3.size = d := by rw [hS3, mkS_size, hd]
  have HS0 : Hid (∀ _ : Unit, (rdv R room)[0]? = some (.string S)) := fun _ => by rw [hS]; rfl
  have HTR : Hid (∀ W, Calls Tryd.prog 34 #[.string S, .string ⟨#[48, 49, 50, 51, 52, 53, 54, 55, 56, 57]⟩] W fun e w' => e = .returned (.string S2) ∧ Below W.heap.size W w') := fun W => by
    have := trim_any S W
    rw [hS, bs_mkS, ← hd, ← hS2] at this
    rw [hS]
    exact this
  have HWR : Hid (∀ _ : Unit, IntKind.i64.wrap ((S.size : Int) - (S2.size : Int)) = (d : Int)) := fun _ => (wrapi _ (by omega) (by omega)).trans (by omega)
  have HDL : Hid (∀ _ : Unit, d ≤ S.size) := fun _ => by omega
  have HS3 : Hid (∀ _ : Unit, bs S3 = (bs S).take d) := fun _ => by
    rw [hS3, hS, bs_mkS, bs_mkS, hd]
    exact (ldg_take R).symm
  have HB3 : Hid (∀ _ : Unit, bs S3 = ldg R) := fun _ => by rw [hS3, bs_mkS]
  obtain ⟨Q, hQ⟩ : ∃ Q, Q = mkS [57, 57] := ⟨_, rfl⟩
  have HIQ : Hid (∀ W, Calls Tryd.prog 31 #[.int .i64 99] W fun e w' => e = .returned (.string Q) ∧ w' = W) := fun W => by
    rw [hQ]
    exact itoa_any 99 (by omega) (by omega) W
  have hqz : Q.size = 2 := by rw [hQ, mkS_size]; rfl
  have HDR : Hid (∀ _ : Unit, d = (ldg R).length) := fun _ => hd
  have HZ3 : Hid (∀ _ : Unit, S3.size = d ∧ Q.size = 2) := fun _ => ⟨z3, hqz⟩
  clear hr hS hS2 hS3 hd z1 z2 z3 hqz hdl hQ
  have hc : ¬ (S3.size : Int) > (Q.size : Int) := by have := HDR.out (); have hz3 := HZ3.out (); omega
  have HAT : Hid (∀ W, Calls Tryd.prog 35 #[.string S3] W fun e w' => e = .returned (.tuple #[.int .i64 v, .nilIface]) ∧ Below W.heap.size W w') := fun W => atoi_ok S3 v (by have := HDR.out (); have hz3 := HZ3.out (); omega) (by rw [HB3.out ()]; exact ha) W
  obtain ⟨V, hV⟩ : ∃ V, V = mkS (dig v) := ⟨_, rfl⟩
  have HI2 : Hid (∀ W, Calls Tryd.prog 31 #[.int .i64 v] W fun e w' => e = .returned (.string V) ∧ w' = W) := fun W => by rw [hV]; exact itoa_any v h0 h99 W
  have hv99 : decide (v > 99) = false := decide_eq_false (by omega)
  have hv99b : decide (99 < v) = false := decide_eq_false (by omega)
  have tk1 : Nat := 0
  have HVS : Hid (∀ _ : Unit, (V == S3) = false) := fun _ => eqs_no (fun he => hb (by have := congrArg bs he; rw [hV, bs_mkS, HB3.out ()] at this; exact this))
  clear hl ha hb hV h0 h99
  go_enter Tryd.func29, Tryd.ntmps29
  go_wp2_with fail
  refine wp_ends0 ?_
  refine anyH_startB (T := fun W => Mem w [g] W [(g, rdv R room, 53)]) (by kernel_rfl) hm ?_
  intro wc hbw hmw
  replace hm : Mem w [g] wc [(g, rdv R room, 53)] := hmw
  clear hbw hmw
  refine anyH_take 0 (v := .pointer (some ⟨g, 0, none⟩)) rfl (by kernel_rfl) (by kernel_rfl) (by kernel_rfl) rfl (fun W _ => by go_simp) hm ?_
  go_simp
  refine anyH_take 1 (v := .pointer (some ⟨g, 0, none⟩)) rfl (by kernel_rfl) (by kernel_rfl) (by kernel_rfl) rfl (fun W _ => by go_simp) hm ?_
  go_simp
  refine anyH_take 2 (v := .pointer (some ⟨g, 0, none⟩)) rfl (by kernel_rfl) (by kernel_rfl) (by kernel_rfl) rfl (fun W _ => by go_simp) hm ?_
  go_simp
  refine anyH_take 3 (v := .string S) rfl (by kernel_rfl) (by kernel_rfl) (by kernel_rfl) rfl (fun W hW => exec_ldx (.string S) ((Mem.cell hW 0 rfl 0).trans (HS0.out ())) rfl ag_str) hm ?_
  go_simp
  refine anyH_take 4 (v := .pointer (some ⟨g, 0, none⟩)) rfl (by kernel_rfl) (by kernel_rfl) (by kernel_rfl) rfl (fun W _ => by go_simp) hm ?_
  go_simp
  refine anyH_take 5 (v := .pointer (some ⟨g, 0, none⟩)) rfl (by kernel_rfl) (by kernel_rfl) (by kernel_rfl) rfl (fun W _ => by go_simp) hm ?_
  go_simp
  refine anyH_take 6 (v := .pointer (some ⟨g, 0, none⟩)) rfl (by kernel_rfl) (by kernel_rfl) (by kernel_rfl) rfl (fun W _ => by go_simp) hm ?_
  go_simp
  refine anyH_take 7 (v := .string S) rfl (by kernel_rfl) (by kernel_rfl) (by kernel_rfl) rfl (fun W hW => exec_ldx (.string S) ((Mem.cell hW 0 rfl 0).trans (HS0.out ())) rfl ag_str) hm ?_
  go_simp
  refine anyH_take 8 (v := .int .i64 (S.size : Int)) rfl (by kernel_rfl) (by kernel_rfl) (by kernel_rfl) rfl (fun W _ => by go_simp) hm ?_
  go_simp
  refine anyH_take 9 (v := .pointer (some ⟨g, 0, none⟩)) rfl (by kernel_rfl) (by kernel_rfl) (by kernel_rfl) rfl (fun W _ => by go_simp) hm ?_
  go_simp
  refine anyH_take 10 (v := .pointer (some ⟨g, 0, none⟩)) rfl (by kernel_rfl) (by kernel_rfl) (by kernel_rfl) rfl (fun W _ => by go_simp) hm ?_
  go_simp
  refine anyH_take 11 (v := .pointer (some ⟨g, 0, none⟩)) rfl (by kernel_rfl) (by kernel_rfl) (by kernel_rfl) rfl (fun W _ => by go_simp) hm ?_
  go_simp
  refine anyH_take 12 (v := .string S) rfl (by kernel_rfl) (by kernel_rfl) (by kernel_rfl) rfl (fun W hW => exec_ldx (.string S) ((Mem.cell hW 0 rfl 0).trans (HS0.out ())) rfl ag_str) hm ?_
  go_simp
  refine wpAnyH_all (rs := [13]) (by kernel_rfl) (by simp) ?_
  intro i hi
  simp only [List.mem_cons, List.not_mem_nil, or_false] at hi
  subst hi
  refine anyH_opW 13 rfl rfl ?_
  intro K hK
  go_wp2_with (go_at_call 34; refine (HTR.out _).mono ?_; rintro e w' ⟨he, hb⟩; subst he; replace hm := hm.call hb; clear hb)
  refine hK _ _ hm ?_
  clear hK K
  go_simp
  refine anyH_take 14 (v := .int .i64 (S2.size : Int)) rfl (by kernel_rfl) (by kernel_rfl) (by kernel_rfl) rfl (fun W _ => by go_simp) hm ?_
  go_simp
  refine anyH_take 15 (v := .int .i64 (d : Int)) rfl (by kernel_rfl) (by kernel_rfl) (by kernel_rfl) rfl (fun W _ => by first | (go_simp; done) | (go_simp; rw [HWR.out ()]) | (go_simp; exact HWR.out ()) | (go_simp; omega)) hm ?_
  go_simp
  refine anyH_take 16 (v := .string S3) rfl (by kernel_rfl) (by kernel_rfl) (by kernel_rfl) rfl (fun W _ => exec_shiS S S3 d (HDL.out ()) (HS3.out ()) rfl rfl) hm ?_
  go_simp
  refine anyH_take 17 (v := .string S3) rfl (by kernel_rfl) (by kernel_rfl) (by kernel_rfl) rfl (fun W _ => by go_simp) hm ?_
  go_simp
  refine wpAnyH_done (by kernel_rfl) ?_ _
  simp only [endsIn]
  go_wp2_with (first
    | (first | (clear tk1; go_at_call 31; go_must (refine (HIQ.out _).mono ?_); rintro e w' ⟨he, hw⟩; subst he; replace hw := hw.symm; subst hw) | (go_at_call 31; go_must (refine (HI2.out _).mono ?_); rintro e w' ⟨he, hw⟩; subst he; replace hw := hw.symm; subst hw))
    | (go_at_call 35; go_must (refine (HAT.out _).mono ?_); rintro e w' ⟨he, hb⟩; subst he; replace hm := hm.call hb; clear hb)
    | ((with_reducible refine at_opG (some 44) (.binOp .neq 9 (.tmp 42) (.tmp 43) 9) (some (6, false)) ?_); go_must (refine wpl_execG (.bool true) rfl (exec_neB V S3 false rfl rfl (HVS.out ())) ?_)))
  go_ret2
  exact ⟨rfl, hm.get 0 rfl, hm.toUpd⟩
set_option maxHeartbeats 4000000 in
set_option maxRecDepth 100000 in
theorem number_good (R : List UInt8) (room : Int) (g : Nat) (w : World) (hRl : R.length ≤ 100000) (v : Int) (hl : (ldg R).length ≤ 2) (ha : Lib.atoi (ldg R) = some v) (h0 : 0 ≤ v) (h99 : v ≤ 99) (hb : dig v = ldg R) (hr : Row w g (rdv R room) 53) :
    Calls Tryd.prog 29 #[.pointer (some ⟨g, 0, none⟩)] w fun e w' => e = .returned (.tuple #[.int .i64 v, .bool true]) ∧ Row w' g (rdv (R.drop (ldg R).length) room) 53 ∧ Upd g w w' := by
  have hm := Mem.enter hr
  obtain ⟨d, hd⟩ : ∃ d, d = (ldg R).length := ⟨_, rfl⟩
  have hdl : d ≤ R.length := by
    have := congrArg List.length (ldg_split R)
    rw [List.length_append, List.length_drop, ← hd] at this
    omega
  obtain ⟨S, hS⟩ : ∃ S, S = mkS R := ⟨_, rfl⟩
  obtain ⟨S2, hS2⟩ : ∃ S, S = mkS (R.drop d) := ⟨_, rfl⟩
  obtain ⟨S3, hS3⟩ : ∃ S, S = mkS (ldg R) := ⟨_, rfl⟩
  have z1 : S.size = R.length := by rw [hS, mkS_size]
  have z2 : S2.size = R.length - d := by rw [hS2, mkS_size, List.length_drop]
  have z3 : S3.size = d := by rw [hS3, mkS_size, hd]
  have HS0 : Hid (∀ _ : Unit, (rdv R room)[0]? = some (.string S)) := fun _ => by rw [hS]; rfl
  have HTR : Hid (∀ W, Calls Tryd.prog 34 #[.string S, .string ⟨#[48, 49, 50, 51, 52, 53, 54, 55, 56, 57]⟩] W fun e w' => e = .returned (.string S2) ∧ Below W.heap.size W w') := fun W => by
    have := trim_any S W
    rw [hS, bs_mkS, ← hd, ← hS2] at this
    rw [hS]
    exact this
  have HWR : Hid (∀ _ : Unit, IntKind.i64.wrap ((S.size : Int) - (S2.size : Int)) = (d : Int)) := fun _ => (wrapi _ (by omega) (by omega)).trans (by omega)
  have HDL : Hid (∀ _ : Unit, d ≤ S.size) := fun _ => by omega
  have HS3 : Hid (∀ _ : Unit, bs S3 = (bs S).take d) := fun _ => by
    rw [hS3, hS, bs_mkS, bs_mkS, hd]
    exact (ldg_take R).symm
  have HB3 : Hid (∀ _ : Unit, bs S3 = ldg R) := fun _ => by rw [hS3, bs_mkS]
  obtain ⟨Q, hQ⟩ : ∃ Q, Q = mkS [57, 57] := ⟨_, rfl⟩
  have HIQ : Hid (∀ W, Calls Tryd.prog 31 #[.int .i64 99] W fun e w' => e = .returned (.string Q) ∧ w' = W) := fun W => by
    rw [hQ]
    exact itoa_any 99 (by omega) (by omega) W
  have hqz : Q.size = 2 := by rw [hQ, mkS_size]; rfl
  have HDR : Hid (∀ _ : Unit, d = (ldg R).length) := fun _ => hd
  have HZ3 : Hid (∀ _ : Unit, S3.size = d ∧ Q.size = 2) := fun _ => ⟨z3, hqz⟩
  clear hr hS hS2 hS3 hd z1 z2 z3 hqz hdl hQ
  have hc : ¬ (S3.size : Int) > (Q.size : Int) := by have := HDR.out (); have hz3 := HZ3.out (); omega
  have HAT : Hid (∀ W, Calls Tryd.prog 35 #[.string S3] W fun e w' => e = .returned (.tuple #[.int .i64 v, .nilIface]) ∧ Below W.heap.size W w') := fun W => atoi_ok S3 v (by have := HDR.out (); have hz3 := HZ3.out (); omega) (by rw [HB3.out ()]; exact ha) W
  obtain ⟨V, hV⟩ : ∃ V, V = mkS (dig v) := ⟨_, rfl⟩
  have HI2 : Hid (∀ W, Calls Tryd.prog 31 #[.int .i64 v] W fun e w' => e = .returned (.string V) ∧ w' = W) := fun W => by rw [hV]; exact itoa_any v h0 h99 W
  have hv99 : decide (v > 99) = false := decide_eq_false (by omega)
  have hv99b : decide (99 < v) = false := decide_eq_false (by omega)
  have tk1 : Nat := 0
  have HVS : Hid (∀ _ : Unit, (V == S3) = true) := fun _ => by
    have : V = S3 := bs_inj (by rw [hV, bs_mkS, HB3.out (), hb])
    rw [this]; exact eqs_yes _
  have HSK : Hid (∀ W, Row W g (rdv R room) 53 → Calls Tryd.prog 33 #[.pointer (some ⟨g, 0, none⟩), .string S3] W fun e w' => e = .returned (.bool true) ∧ Row w' g (rdv (R.drop (ldg R).length) room) 53 ∧ Upd g W w') := fun W hW => by
    have hp : Lib.hasPrefix R (ldg R) = true := by
      have h9 := hp_of (ldg R) (R.drop (ldg R).length)
      rw [← ldg_split] at h9
      exact h9
    have h9 := skip_yes hp room g W hW
    rw [show mkS (ldg R) = S3 by rw [← HB3.out (), mkS_bs]] at h9
    exact h9
  clear hl ha hb hV h0 h99
  go_enter Tryd.func29, Tryd.ntmps29
  go_wp2_with fail
  refine wp_ends0 ?_
  refine anyH_startB (T := fun W => Mem w [g] W [(g, rdv R room, 53)]) (by kernel_rfl) hm ?_
  intro wc hbw hmw
  replace hm : Mem w [g] wc [(g, rdv R room, 53)] := hmw
  clear hbw hmw
  refine anyH_take 0 (v := .pointer (some ⟨g, 0, none⟩)) rfl (by kernel_rfl) (by kernel_rfl) (by kernel_rfl) rfl (fun W _ => by go_simp) hm ?_
  go_simp
  refine anyH_take 1 (v := .pointer (some ⟨g, 0, none⟩)) rfl (by kernel_rfl) (by kernel_rfl) (by kernel_rfl) rfl (fun W _ => by go_simp) hm ?_
  go_simp
  refine anyH_take 2 (v := .pointer (some ⟨g, 0, none⟩)) rfl (by kernel_rfl) (by kernel_rfl) (by kernel_rfl) rfl (fun W _ => by go_simp) hm ?_
  go_simp
  refine anyH_take 3 (v := .string S) rfl (by kernel_rfl) (by kernel_rfl) (by kernel_rfl) rfl (fun W hW => exec_ldx (.string S) ((Mem.cell hW 0 rfl 0).trans (HS0.out ())) rfl ag_str) hm ?_
  go_simp
  refine anyH_take 4 (v := .pointer (some ⟨g, 0, none⟩)) rfl (by kernel_rfl) (by kernel_rfl) (by kernel_rfl) rfl (fun W _ => by go_simp) hm ?_
  go_simp
  refine anyH_take 5 (v := .pointer (some ⟨g, 0, none⟩)) rfl (by kernel_rfl) (by kernel_rfl) (by kernel_rfl) rfl (fun W _ => by go_simp) hm ?_
  go_simp
  refine anyH_take 6 (v := .pointer (some ⟨g, 0, none⟩)) rfl (by kernel_rfl) (by kernel_rfl) (by kernel_rfl) rfl (fun W _ => by go_simp) hm ?_
  go_simp
  refine anyH_take 7 (v := .string S) rfl (by kernel_rfl) (by kernel_rfl) (by kernel_rfl) rfl (fun W hW => exec_ldx (.string S) ((Mem.cell hW 0 rfl 0).trans (HS0.out ())) rfl ag_str) hm ?_
  go_simp
  refine anyH_take 8 (v := .int .i64 (S.size : Int)) rfl (by kernel_rfl) (by kernel_rfl) (by kernel_rfl) rfl (fun W _ => by go_simp) hm ?_
  go_simp
  refine anyH_take 9 (v := .pointer (some ⟨g, 0, none⟩)) rfl (by kernel_rfl) (by kernel_rfl) (by kernel_rfl) rfl (fun W _ => by go_simp) hm ?_
  go_simp
  refine anyH_take 10 (v := .pointer (some ⟨g, 0, none⟩)) rfl (by kernel_rfl) (by kernel_rfl) (by kernel_rfl) rfl (fun W _ => by go_simp) hm ?_
  go_simp
  refine anyH_take 11 (v := .pointer (some ⟨g, 0, none⟩)) rfl (by kernel_rfl) (by kernel_rfl) (by kernel_rfl) rfl (fun W _ => by go_simp) hm ?_
  go_simp
  refine anyH_take 12 (v := .string S) rfl (by kernel_rfl) (by kernel_rfl) (by kernel_rfl) rfl (fun W hW => exec_ldx (.string S) ((Mem.cell hW 0 rfl 0).trans (HS0.out ())) rfl ag_str) hm ?_
  go_simp
  refine wpAnyH_all (rs := [13]) (by kernel_rfl) (by simp) ?_
  intro i hi
  simp only [List.mem_cons, List.not_mem_nil, or_false] at hi
  subst hi
  refine anyH_opW 13 rfl rfl ?_
  intro K hK
  go_wp2_with (go_at_call 34; refine (HTR.out _).mono ?_; rintro e w' ⟨he, hb⟩; subst he; replace hm := hm.call hb; clear hb)
  refine hK _ _ hm ?_
  clear hK K
  go_simp
  refine anyH_take 14 (v := .int .i64 (S2.size : Int)) rfl (by kernel_rfl) (by kernel_rfl) (by kernel_rfl) rfl (fun W _ => by go_simp) hm ?_
  go_simp
  refine anyH_take 15 (v := .int .i64 (d : Int)) rfl (by kernel_rfl) (by kernel_rfl) (by kernel_rfl) rfl (fun W _ => by first | (go_simp; done) | (go_simp; rw [HWR.out ()]) | (go_simp; exact HWR.out ()) | (go_simp; omega)) hm ?_
  go_simp
  refine anyH_take 16 (v := .string S3) rfl (by kernel_rfl) (by kernel_rfl) (by kernel_rfl) rfl (fun W _ => exec_shiS S S3 d (HDL.out ()) (HS3.out ()) rfl rfl) hm ?_
  go_simp
  refine anyH_take 17 (v := .string S3) rfl (by kernel_rfl) (by kernel_rfl) (by kernel_rfl) rfl (fun W _ => by go_simp) hm ?_
  go_simp
  refine wpAnyH_done (by kernel_rfl) ?_ _
  simp only [endsIn]
  go_wp2_with (first
    | (first | (clear tk1; go_at_call 31; go_must (refine (HIQ.out _).mono ?_); rintro e w' ⟨he, hw⟩; subst he; replace hw := hw.symm; subst hw) | (go_at_call 31; go_must (refine (HI2.out _).mono ?_); rintro e w' ⟨he, hw⟩; subst he; replace hw := hw.symm; subst hw))
    | (go_at_call 35; go_must (refine (HAT.out _).mono ?_); rintro e w' ⟨he, hb⟩; subst he; replace hm := hm.call hb; clear hb)
    | ((with_reducible refine at_opG (some 44) (.binOp .neq 9 (.tmp 42) (.tmp 43) 9) (some (6, false)) ?_); go_must (refine wpl_execG (.bool false) rfl (exec_neB V S3 true rfl rfl (HVS.out ())) ?_))
    | (go_at_call 33; go_must (refine (HSK.out _ (hm.get 0 rfl)).mono ?_); rintro e w9 ⟨he, hr, hu⟩; subst he; replace hm := hm.upd 0 rfl hu hr; clear hr hu))
  go_ret2
  exact ⟨rfl, hm.get 0 rfl, hm.toUpd⟩
set_option maxRecDepth 100000 in
theorem number_no {R : List UInt8} (h : numV (ldg R) = none) (room : Int) (g : Nat) (w : World) (hRl : R.length ≤ 100000) (hE : Esx w) (hg : 10 ≤ g) (hr : Row w g (rdv R room) 53) :
    Calls Tryd.prog 29 #[.pointer (some ⟨g, 0, none⟩)] w fun e w' => e = .returned (.tuple #[.int .i64 0, .bool false]) ∧ Row w' g (rdv R room) 53 ∧ Upd g w w' := by
  rcases num_cases (ldg R) (ldg_all R) with ⟨h1, _⟩ | ⟨h1, _⟩ | ⟨v, h1, h2, h3, h4, h5⟩
  · exact number_long R room g w hRl h1 hr
  · exact number_none R room g w hRl h1 hE hg hr
  · rcases h5 with ⟨_, h6⟩ | ⟨h5, _⟩
    · rw [h] at h6; cases h6
    · exact number_bad R room g w hRl v h1 h2 h3 h4 h5 hr
set_option maxRecDepth 100000 in
theorem number_yes {R : List UInt8} {n : Int} (h : numV (ldg R) = some n) (room : Int) (g : Nat) (w : World) (hRl : R.length ≤ 100000) (hr : Row w g (rdv R room) 53) :
    Calls Tryd.prog 29 #[.pointer (some ⟨g, 0, none⟩)] w fun e w' => e = .returned (.tuple #[.int .i64 n, .bool true]) ∧ Row w' g (rdv (R.drop (ldg R).length) room) 53 ∧ Upd g w w' := by
  rcases num_cases (ldg R) (ldg_all R) with ⟨_, h1⟩ | ⟨_, h1⟩ | ⟨v, h1, h2, h3, h4, h5⟩
  · rw [h] at h1; cases h1
  · rw [h] at h1; cases h1
  · rcases h5 with ⟨h5, h6⟩ | ⟨_, h6⟩
    · rw [h] at h6
      obtain rfl : n = v := Option.some.inj h6
      exact number_good R room g w hRl n h1 h2 h3 h4 h5 hr
    · rw [h] at h6; cases h6
end Go.Proofs.YtbiinchmbclmcaaDoor
