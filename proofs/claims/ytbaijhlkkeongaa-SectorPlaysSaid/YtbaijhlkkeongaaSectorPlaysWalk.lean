/- The walk of SectorPlays. -/
import Derived.Test.YtbaijhlkkeongaaSecPlAux
namespace Go.Proofs.Ytbaijhlkkeongaa
open Go Go.RowKit Go.Maps
set_option maxHeartbeats 1000000 in
set_option maxRecDepth 100000 in
theorem playsL_many (n : Int) (p : Option Addr) (len cap : Nat) (h : 60 < len) (w : World) :
    Calls Try.prog 3 #[.int .i64 n, .slice p len cap] w fun e w' => e = .returned (.bool true) ∧ Below w.heap.size w w' := by
  have hm := Mem.start w
  have h1 : (len : Int) > 60 := by omega
  go_enter Try.func3, Try.ntmps3
  go_wp2_with (go_at_call 4; refine (known6_any _).mono ?_; rintro e wk ⟨rfl, hbk⟩; replace hm := hm.call hbk; clear hbk)
  go_ret
  exact ⟨rfl, hm.below⟩
set_option maxHeartbeats 1000000 in
set_option maxRecDepth 100000 in
theorem playsL_big (n : Int) (p : Option Addr) (len cap : Nat) (h0 : len ≤ 60) (h : 20 < n) (w : World) :
    Calls Try.prog 3 #[.int .i64 n, .slice p len cap] w fun e w' => e = .returned (.bool true) ∧ Below w.heap.size w w' := by
  have hm := Mem.start w
  have h1 : ¬ ((len : Int) > 60) := by omega
  have h2 : n > 20 := by omega
  go_enter Try.func3, Try.ntmps3
  go_wp2_with (go_at_call 4; refine (known6_any _).mono ?_; rintro e wk ⟨rfl, hbk⟩; replace hm := hm.call hbk; clear hbk)
  go_ret
  exact ⟨rfl, hm.below⟩
set_option maxHeartbeats 8000000 in
set_option maxRecDepth 100000 in
theorem playsL_run (n : Int) (p : Option Addr) (len cap b0 o0 : Nat) (X : Nat → Stp) (hl0 : len ≤ 60) (hn0 : n ≤ 20) (w : World) (hp : 0 < len → p = some ⟨b0, o0, none⟩) (hX : ∀ i, i < len → (∀ j u, (X i).row[j]? = some u → w.cell? ⟨b0, o0 + i * 5 + j, none⟩ = some u) ∧ (X i).Good w) :
    Calls Try.prog 3 #[.int .i64 n, .slice p len cap] w fun e w' => e = .returned (.bool true) ∧ Below w.heap.size w w' := by
  have hm := Mem.start w
  have h1 : ¬ ((len : Int) > 60) := by omega
  have h2 : ¬ (n > 20) := by omega
  have HP : Hid (0 < len → p = some ⟨b0, o0, none⟩) := hp
  have HX : Hid (∀ i, i < len → (∀ j u, (X i).row[j]? = some u → w.cell? ⟨b0, o0 + i * 5 + j, none⟩ = some u) ∧ (X i).Good w) := hX
  clear hp hX
  go_enter Try.func3, Try.ntmps3
  go_wp2_with (go_at_call 4; refine (known6_any _).mono ?_; rintro e wk ⟨rfl, hbk⟩; replace hm := hm.call hbk; clear hbk)
  go_at_call 5
  refine (new_any n _).mono ?_
  rintro e wn ⟨g, rfl, mb, kv, hd, hf, hb⟩
  obtain ⟨d0, hd0⟩ : ∃ x, x = Dk.new (clampK n) := ⟨_, rfl⟩
  rw [← hd0] at hd
  have HIN0 : Hid (d0.In 0) := by rw [hd0]; exact in_new _
  have HD0 : Hid (∀ _ : Unit, Dk.new (clampK n) = d0) := fun _ => hd0.symm
  have SS : Hid (Sd w wn g mb kv d0 []) := Sd.startR hm hb hd hf
  clear hd hf hb hm hd0
  go_wp2_with fail
  go_at_call 6
  refine (newR_any n _).mono ?_
  rintro e w2 ⟨q, rfl, a, b, c, hr, hf, hb⟩
  rw [HD0.out ()] at hr
  have ST : Hid (Pl w w2 g mb kv q a b c d0 d0 []) := Pl.start SS.out hb hr hf
  clear hr hf hb SS HD0
  go_wp2_with fail
  go_loopw [7] (fun vi wr => ∃ (i : Nat) (d : Dk), i ≤ len ∧ vi = .int .i64 (i : Int) ∧ d.In (i : Int) ∧ Pl w wr g mb kv q a b c d d []) (fun vi _ => len - (intOf vi).toNat)
  case atStart => exact ⟨0, d0, by omega, rfl, HIN0.out, ST.out⟩
  case round =>
    clear ST HIN0
    obtain ⟨i, d, hi, rfl, hin, st'⟩ := hrel
    have ST : Hid (Pl w wr g mb kv q a b c d d []) := st'
    have HIN : Hid (d.In (i : Int)) := hin
    have HOK : Hid d.Ok := st'.sd.dk.ok
    have HNU : Hid d.Num := hin.num (by omega)
    have HSN : Hid d.Sane := hin.sane
    clear st' hin
    by_cases hlt : i < len
    · have hlt2 : (i : Int) < (len : Int) := by omega
      have hpp := HP.out (by omega)
      subst hpp
      obtain ⟨x, hx⟩ : ∃ x, x = X i := ⟨_, rfl⟩
      have hXi := HX.out i hlt
      rw [← hx] at hXi
      obtain ⟨hcell, hg⟩ := hXi
      clear hx
      obtain ⟨wh, xi, pb, cb, bs, xa, pc, cc, cs⟩ := x
      obtain ⟨lb, hlb⟩ : ∃ l, l = bs.length := ⟨_, rfl⟩
      obtain ⟨lc, hlc⟩ : ∃ l, l = cs.length := ⟨_, rfl⟩
      have HSB : Hid (SlOld w (.slice pb lb cb) bs) := by rw [hlb]; exact hg.sb
      have HSC : Hid (SlOld w (.slice pc lc cc) cs) := by rw [hlc]; exact hg.sc
      have HBB : Hid (Bytes bs) := hg.bb
      have HBC : Hid (Bytes cs) := hg.bc
      have HXA : Hid (xa ≤ 9223372036854775807) := hg.hi
      have HC : Hid (∀ V, Mem w [] V [] → ∀ j u, ([.int .i64 wh, .int .i64 xi, .slice pb lb cb, .int .i64 xa, .slice pc lc cc] : List Value)[j]? = some u → V.cell? ⟨b0, o0 + i * 5 + j, none⟩ = some u) := fun V hV j u hu => by
        have h1 := hcell j u (by rw [hlb, hlc] at hu; exact hu)
        rw [hV.old (block_lt_of_cell h1) (by simp)]
        exact h1
      have HLB : Hid (∀ _ : Unit, bs.length = lb) := fun _ => hlb.symm
      clear hcell hg hlb hlc
      by_cases hb1 : (lb : Int) > 100
      · clear HNU HSN HOK HBB HBC
        go_wp2_with (first
          | ((with_reducible refine at_op (some 33) (.indexAddr 22 (.tmp 31) (.tmp 32)) ?_); go_must (refine wpl_execG (.pointer (some ⟨b0, o0 + i * 5, none⟩)) rfl (exec_ixS i rfl rfl rfl hlt) ?_))
          | ((with_reducible refine at_op (some 34) (.load 30 (.tmp 33)) ?_); go_must (refine wpl_execG (.agg (List.toArray [.int .i64 wh, .int .i64 xi, .slice pb lb cb, .int .i64 xa, .slice pc lc cc])) rfl (exec_ld5 (o0 + i * 5) [.int .i64 wh, .int .i64 xi, .slice pb lb cb, .int .i64 xa, .slice pc lc cc] rfl (HC.out _ (Pl.base ST.out)) rfl) ?_))
          | ((with_reducible refine at_op (some 8) (.alloc 30) ?_); go_must (refine wpl_alloc _ zero_stp (Mem.start _) ?_); intro w3 qs hq; have st' := Pl.took ST.out hq; clear hq; clear ST; have ST : Hid (Pl w w3 g mb kv q a b c d d [(qs, [.int .i64 0, .int .i64 0, .slice none 0 0, .int .i64 0, .slice none 0 0], 30)]) := st'; clear st')
          | ((with_reducible refine at_op none (.store 30 (.tmp 8) (.tmp 34)) ?_); go_must (refine wpl_stw 0 [.int .i64 wh, .int .i64 xi, .slice pb lb cb, .int .i64 xa, .slice pc lc cc] (Mem.enter ((Pl.mem ST.out).get 0 rfl)) rfl rfl rfl 5 sz_stp rfl rfl (by simp [Value.oneCell']) ?_); intro w4 hq; have st' := Pl.turned ST.out 0 rfl hq; clear hq; clear ST; have ST : Hid (Pl w w4 g mb kv q a b c d d [(qs, [.int .i64 wh, .int .i64 xi, .slice pb lb cb, .int .i64 xa, .slice pc lc cc], 30)]) := st'; clear st')
          | ((with_reducible refine at_op (some 36) (.load 28 (.tmp 35)) ?_); go_must (refine wpl_ldr 2 (.slice pb lb cb) ((Pl.mem ST.out).get 0 rfl) rfl ag_bs rfl ?_)))
        go_ret
        exact ⟨rfl, (Pl.mem ST.out).below⟩
      · by_cases hc1 : (lc : Int) > 60
        · clear HNU HSN HOK HBB HBC
          go_wp2_with (first
            | ((with_reducible refine at_op (some 33) (.indexAddr 22 (.tmp 31) (.tmp 32)) ?_); go_must (refine wpl_execG (.pointer (some ⟨b0, o0 + i * 5, none⟩)) rfl (exec_ixS i rfl rfl rfl hlt) ?_))
            | ((with_reducible refine at_op (some 34) (.load 30 (.tmp 33)) ?_); go_must (refine wpl_execG (.agg (List.toArray [.int .i64 wh, .int .i64 xi, .slice pb lb cb, .int .i64 xa, .slice pc lc cc])) rfl (exec_ld5 (o0 + i * 5) [.int .i64 wh, .int .i64 xi, .slice pb lb cb, .int .i64 xa, .slice pc lc cc] rfl (HC.out _ (Pl.base ST.out)) rfl) ?_))
            | ((with_reducible refine at_op (some 8) (.alloc 30) ?_); go_must (refine wpl_alloc _ zero_stp (Mem.start _) ?_); intro w3 qs hq; have st' := Pl.took ST.out hq; clear hq; clear ST; have ST : Hid (Pl w w3 g mb kv q a b c d d [(qs, [.int .i64 0, .int .i64 0, .slice none 0 0, .int .i64 0, .slice none 0 0], 30)]) := st'; clear st')
            | ((with_reducible refine at_op none (.store 30 (.tmp 8) (.tmp 34)) ?_); go_must (refine wpl_stw 0 [.int .i64 wh, .int .i64 xi, .slice pb lb cb, .int .i64 xa, .slice pc lc cc] (Mem.enter ((Pl.mem ST.out).get 0 rfl)) rfl rfl rfl 5 sz_stp rfl rfl (by simp [Value.oneCell']) ?_); intro w4 hq; have st' := Pl.turned ST.out 0 rfl hq; clear hq; clear ST; have ST : Hid (Pl w w4 g mb kv q a b c d d [(qs, [.int .i64 wh, .int .i64 xi, .slice pb lb cb, .int .i64 xa, .slice pc lc cc], 30)]) := st'; clear st')
            | ((with_reducible refine at_op (some 36) (.load 28 (.tmp 35)) ?_); go_must (refine wpl_ldr 2 (.slice pb lb cb) ((Pl.mem ST.out).get 0 rfl) rfl ag_bs rfl ?_))
            | ((with_reducible refine at_opG (some 41) (.load 28 (.tmp 40)) (some (4, false)) ?_); go_must (refine wpl_execG (.slice pc lc cc) rfl (exec_ldrG 4 (.slice pc lc cc) ((Pl.mem ST.out).get 0 rfl) rfl ag_bs rfl) ?_)))
          go_ret
          exact ⟨rfl, (Pl.mem ST.out).below⟩
        · by_cases hw2 : wh ≤ 2
          · skip
            obtain ⟨d7, hd7⟩ : ∃ x, x = d.write xi bs := ⟨_, rfl⟩
            have HD7 : Hid (∀ _ : Unit, d.write xi bs = d7) := fun _ => hd7.symm
            have HOK7 : Hid d7.Ok := by rw [hd7]; exact Dk.write_ok HOK.out HBB.out
            have HIN7 : Hid (d7.In ((i : Int) + 1)) := by rw [hd7]; exact HIN.out.write xi bs
            obtain ⟨im, him⟩ : ∃ x, x = flatK d7.kept d7.n := ⟨_, rfl⟩
            have HIM : Hid (∀ _ : Unit, flatK d7.kept d7.n = im) := fun _ => him.symm
            obtain ⟨il, hil⟩ : ∃ x, x = im.length := ⟨_, rfl⟩
            have HIL : Hid (∀ _ : Unit, im.length = il) := fun _ => hil.symm
            clear hd7 him hil
            obtain ⟨cd, hcd⟩ : ∃ x, x = d.wcode xi bs := ⟨_, rfl⟩
            have HCD : Hid (∀ _ : Unit, d.wcode xi bs = cd) := fun _ => hcd.symm
            clear hcd
            go_wp2_with (first
              | ((with_reducible refine at_op (some 33) (.indexAddr 22 (.tmp 31) (.tmp 32)) ?_); go_must (refine wpl_execG (.pointer (some ⟨b0, o0 + i * 5, none⟩)) rfl (exec_ixS i rfl rfl rfl hlt) ?_))
              | ((with_reducible refine at_op (some 34) (.load 30 (.tmp 33)) ?_); go_must (refine wpl_execG (.agg (List.toArray [.int .i64 wh, .int .i64 xi, .slice pb lb cb, .int .i64 xa, .slice pc lc cc])) rfl (exec_ld5 (o0 + i * 5) [.int .i64 wh, .int .i64 xi, .slice pb lb cb, .int .i64 xa, .slice pc lc cc] rfl (HC.out _ (Pl.base ST.out)) rfl) ?_))
              | ((with_reducible refine at_op (some 8) (.alloc 30) ?_); go_must (refine wpl_alloc _ zero_stp (Mem.start _) ?_); intro w3 qs hq; have st' := Pl.took ST.out hq; clear hq; clear ST; have ST : Hid (Pl w w3 g mb kv q a b c d d [(qs, [.int .i64 0, .int .i64 0, .slice none 0 0, .int .i64 0, .slice none 0 0], 30)]) := st'; clear st')
              | ((with_reducible refine at_op none (.store 30 (.tmp 8) (.tmp 34)) ?_); go_must (refine wpl_stw 0 [.int .i64 wh, .int .i64 xi, .slice pb lb cb, .int .i64 xa, .slice pc lc cc] (Mem.enter ((Pl.mem ST.out).get 0 rfl)) rfl rfl rfl 5 sz_stp rfl rfl (by simp [Value.oneCell']) ?_); intro w4 hq; have st' := Pl.turned ST.out 0 rfl hq; clear hq; clear ST; have ST : Hid (Pl w w4 g mb kv q a b c d d [(qs, [.int .i64 wh, .int .i64 xi, .slice pb lb cb, .int .i64 xa, .slice pc lc cc], 30)]) := st'; clear st')
              | ((with_reducible refine at_op (some 36) (.load 28 (.tmp 35)) ?_); go_must (refine wpl_ldr 2 (.slice pb lb cb) ((Pl.mem ST.out).get 0 rfl) rfl ag_bs rfl ?_))
              | ((with_reducible refine at_opG (some 41) (.load 28 (.tmp 40)) (some (4, false)) ?_); go_must (refine wpl_execG (.slice pc lc cc) rfl (exec_ldrG 4 (.slice pc lc cc) ((Pl.mem ST.out).get 0 rfl) rfl ag_bs rfl) ?_))
              | ((with_reducible refine at_op (some 55) (.load 3 (.tmp 54)) ?_); go_must (refine wpl_ldr 0 (.int .i64 wh) ((Pl.mem ST.out).get 0 rfl) rfl ag_int rfl ?_))
              | ((with_reducible refine at_op (some 72) (.load 3 (.tmp 71)) ?_); go_must (refine wpl_ldr 0 (.int .i64 wh) ((Pl.mem ST.out).get 0 rfl) rfl ag_int rfl ?_))
              | ((with_reducible refine at_op (some 80) (.load 3 (.tmp 79)) ?_); go_must (refine wpl_ldr 0 (.int .i64 wh) ((Pl.mem ST.out).get 0 rfl) rfl ag_int rfl ?_)))
            refine wp_ends0 ?_
            refine anyH_startP (T := fun V => Mem w [] V [(qs, [.int .i64 wh, .int .i64 xi, .slice pb lb cb, .int .i64 xa, .slice pc lc cc], 30)]) (by kernel_rfl) ST.out ?_
            clear ST
            intro w5 st'
            have hm := Pl.mem st'
            have ST : Hid (Pl w w5 g mb kv q a b c d d [(qs, [.int .i64 wh, .int .i64 xi, .slice pb lb cb, .int .i64 xa, .slice pc lc cc], 30)]) := st'
            clear st'
            refine anyH_takeG 0 (v := .pointer (some ⟨g, 0, none⟩)) rfl (by kernel_rfl) (by kernel_rfl) (by kernel_rfl) rfl (fun V _ => by go_simp) hm ?_
            go_simp
            refine anyH_takeG 1 (v := .pointer (some ⟨qs, 1, none⟩)) rfl (by kernel_rfl) (by kernel_rfl) (by kernel_rfl) rfl (fun V _ => by go_simp) hm ?_
            go_simp
            refine anyH_takeG 2 (v := .int .i64 xi) rfl (by kernel_rfl) (by kernel_rfl) (by kernel_rfl) rfl (fun V hV => exec_ldrG 1 (.int .i64 xi) (hV.get 0 rfl) rfl ag_int rfl) hm ?_
            go_simp
            refine anyH_takeG 3 (v := .pointer (some ⟨qs, 2, none⟩)) rfl (by kernel_rfl) (by kernel_rfl) (by kernel_rfl) rfl (fun V _ => by go_simp) hm ?_
            go_simp
            refine anyH_takeG 4 (v := .slice pb lb cb) rfl (by kernel_rfl) (by kernel_rfl) (by kernel_rfl) rfl (fun V hV => exec_ldrG 2 (.slice pb lb cb) (hV.get 0 rfl) rfl ag_bs rfl) hm ?_
            go_simp
            refine anyH_takeG 7 (v := .pointer (some ⟨q, 0, none⟩)) rfl (by kernel_rfl) (by kernel_rfl) (by kernel_rfl) rfl (fun V _ => by go_simp) hm ?_
            go_simp
            refine anyH_takeG 8 (v := .pointer (some ⟨qs, 1, none⟩)) rfl (by kernel_rfl) (by kernel_rfl) (by kernel_rfl) rfl (fun V _ => by go_simp) hm ?_
            go_simp
            refine anyH_takeG 9 (v := .int .i64 xi) rfl (by kernel_rfl) (by kernel_rfl) (by kernel_rfl) rfl (fun V hV => exec_ldrG 1 (.int .i64 xi) (hV.get 0 rfl) rfl ag_int rfl) hm ?_
            go_simp
            refine anyH_takeG 10 (v := .pointer (some ⟨qs, 2, none⟩)) rfl (by kernel_rfl) (by kernel_rfl) (by kernel_rfl) rfl (fun V _ => by go_simp) hm ?_
            go_simp
            refine anyH_takeG 11 (v := .slice pb lb cb) rfl (by kernel_rfl) (by kernel_rfl) (by kernel_rfl) rfl (fun V hV => exec_ldrG 2 (.slice pb lb cb) (hV.get 0 rfl) rfl ag_bs rfl) hm ?_
            go_simp
            refine wpAnyH_all (rs := [5]) (by kernel_rfl) (by simp) ?_
            intro i' hi'
            simp only [List.mem_cons, List.not_mem_nil, or_false] at hi'
            subst hi'
            refine anyH_opW 5 rfl rfl ?_
            intro K hK
            refine wpl_appN rfl bs rfl rfl (HLB.out ()).symm (SlOld.src0 (SlOld.mem HSB.out (Pl.base ST.out))).2.2 (by rw [HLB.out ()]; omega) ?_
            intro v6 w6 ho6 hb6
            have HS6 : Hid (SlA w6 (foot g mb kv) v6 bs) := OwnB.slF ho6 (DkAt.lt (Pl.dk ST.out))
            have st' := Pl.below ST.out hb6
            clear ST hm
            have ST : Hid (Pl w w6 g mb kv q a b c d d [(qs, [.int .i64 wh, .int .i64 xi, .slice pb lb cb, .int .i64 xa, .slice pc lc cc], 30)]) := st'
            clear st'
            have hm := Pl.mem ST.out
            clear ho6 hb6
            refine wpList_nil ?_
            refine hK _ _ hm ?_
            clear hK K
            go_simp
            refine wpAnyH_all (rs := [6]) (by kernel_rfl) (by simp) ?_
            intro i' hi'
            simp only [List.mem_cons, List.not_mem_nil, or_false] at hi'
            subst hi'
            refine anyH_opW 6 rfl rfl ?_
            intro K hK
            go_wp2_with (go_at_call 7; refine (write_any g mb kv d xi bs _ HBB.out HNU.out _ (Pl.dk ST.out) HS6.out).mono ?_; rintro e w7 ⟨he, hd7, hu7⟩; rw [HCD.out ()] at he; subst he)
            have st' := Pl.congr (Pl.turnD ST.out hd7 hu7) (HD7.out ()) rfl
            clear ST hm
            have ST : Hid (Pl w w7 g mb kv q a b c d7 d [(qs, [.int .i64 wh, .int .i64 xi, .slice pb lb cb, .int .i64 xa, .slice pc lc cc], 30)]) := st'
            clear st'
            have hm := Pl.mem ST.out
            clear hd7 hu7 HS6
            refine hK _ _ hm ?_
            clear hK K
            go_simp
            refine wpAnyH_all (rs := [12]) (by kernel_rfl) (by simp) ?_
            intro i' hi'
            simp only [List.mem_cons, List.not_mem_nil, or_false] at hi'
            subst hi'
            refine anyH_opW 12 rfl rfl ?_
            intro K hK
            go_wp2_with (go_at_call 8; refine (writeR_any q a b c d xi bs _ HOK.out HNU.out HSN.out _ (Pl.rf ST.out) (Pl.slA ST.out HSB.out).2).mono ?_; rintro e w8 ⟨he, hr8, hu8⟩; rw [HCD.out ()] at he; subst he)
            have st' := Pl.congr (Pl.turnR ST.out hr8 hu8) rfl (HD7.out ())
            clear ST hm
            have ST : Hid (Pl w w8 g mb kv q a b c d7 d7 [(qs, [.int .i64 wh, .int .i64 xi, .slice pb lb cb, .int .i64 xa, .slice pc lc cc], 30)]) := st'
            clear st'
            have hm := Pl.mem ST.out
            clear hr8 hu8
            refine hK _ _ hm ?_
            clear hK K
            go_simp
            refine anyH_takeG 13 (v := .int .i64 cd) rfl (by kernel_rfl) (by kernel_rfl) (by kernel_rfl) rfl (fun V _ => by go_simp) hm ?_
            go_simp
            refine anyH_takeG 14 (v := .int .i64 cd) rfl (by kernel_rfl) (by kernel_rfl) (by kernel_rfl) rfl (fun V _ => by go_simp) hm ?_
            go_simp
            refine wpAnyH_done (by kernel_rfl) ?_ _
            simp only [endsIn]
            go_wp2_with fail
            refine wp_ends0 ?_
            refine anyH_startP (T := fun V => Mem w [] V [(qs, [.int .i64 wh, .int .i64 xi, .slice pb lb cb, .int .i64 xa, .slice pc lc cc], 30)]) (by kernel_rfl) ST.out ?_
            clear ST
            intro w9 st'
            have hm := Pl.mem st'
            have ST : Hid (Pl w w9 g mb kv q a b c d7 d7 [(qs, [.int .i64 wh, .int .i64 xi, .slice pb lb cb, .int .i64 xa, .slice pc lc cc], 30)]) := st'
            clear st'
            refine anyH_takeG 0 (v := .int .i64 cd) rfl (by kernel_rfl) (by kernel_rfl) (by kernel_rfl) rfl (fun V _ => by go_simp) hm ?_
            go_simp
            refine anyH_takeG 1 (v := .int .i64 cd) rfl (by kernel_rfl) (by kernel_rfl) (by kernel_rfl) rfl (fun V _ => by go_simp) hm ?_
            go_simp
            refine anyH_takeG 2 (v := .bool false) rfl (by kernel_rfl) (by kernel_rfl) (by kernel_rfl) rfl (fun V _ => by go_simp) hm ?_
            go_simp
            refine anyH_takeG 3 (v := .bool false) rfl (by kernel_rfl) (by kernel_rfl) (by kernel_rfl) rfl (fun V _ => by go_simp) hm ?_
            go_simp
            refine anyH_takeG 4 (v := .pointer (some ⟨g, 0, none⟩)) rfl (by kernel_rfl) (by kernel_rfl) (by kernel_rfl) rfl (fun V _ => by go_simp) hm ?_
            go_simp
            refine anyH_takeG 5 (v := .pointer (some ⟨q, 0, none⟩)) rfl (by kernel_rfl) (by kernel_rfl) (by kernel_rfl) rfl (fun V _ => by go_simp) hm ?_
            go_simp
            refine anyH_takeG 6 (v := .pointer (some ⟨qs, 1, none⟩)) rfl (by kernel_rfl) (by kernel_rfl) (by kernel_rfl) rfl (fun V _ => by go_simp) hm ?_
            go_simp
            refine anyH_takeG 7 (v := .int .i64 xi) rfl (by kernel_rfl) (by kernel_rfl) (by kernel_rfl) rfl (fun V hV => exec_ldrG 1 (.int .i64 xi) (hV.get 0 rfl) rfl ag_int rfl) hm ?_
            go_simp
            refine wpAnyH_all (rs := [8]) (by kernel_rfl) (by simp) ?_
            intro i' hi'
            simp only [List.mem_cons, List.not_mem_nil, or_false] at hi'
            subst hi'
            refine anyH_opW 8 rfl rfl ?_
            intro K hK
            go_wp2_with (go_at_call 15; refine (alike_any g mb q a b c kv d7 xi _ (Pl.dk ST.out) (Pl.rf ST.out)).mono ?_; rintro e w10 ⟨rfl, hb⟩)
            have st' := Pl.below ST.out hb
            clear ST hm
            have ST : Hid (Pl w w10 g mb kv q a b c d7 d7 [(qs, [.int .i64 wh, .int .i64 xi, .slice pb lb cb, .int .i64 xa, .slice pc lc cc], 30)]) := st'
            clear st'
            have hm := Pl.mem ST.out
            clear hb
            refine hK _ _ hm ?_
            clear hK K
            go_simp
            refine anyH_takeG 9 (v := .bool false) rfl (by kernel_rfl) (by kernel_rfl) (by kernel_rfl) rfl (fun V _ => by go_simp) hm ?_
            go_simp
            refine anyH_takeG 10 (v := .bool false) rfl (by kernel_rfl) (by kernel_rfl) (by kernel_rfl) rfl (fun V _ => by go_simp) hm ?_
            go_simp
            refine anyH_takeG 11 (v := .bool false) rfl (by kernel_rfl) (by kernel_rfl) (by kernel_rfl) rfl (fun V _ => by go_simp) hm ?_
            go_simp
            refine anyH_takeG 12 (v := .pointer (some ⟨g, 0, none⟩)) rfl (by kernel_rfl) (by kernel_rfl) (by kernel_rfl) rfl (fun V _ => by go_simp) hm ?_
            go_simp
            refine anyH_takeG 15 (v := .pointer (some ⟨q, 0, none⟩)) rfl (by kernel_rfl) (by kernel_rfl) (by kernel_rfl) rfl (fun V _ => by go_simp) hm ?_
            go_simp
            refine wpAnyH_all (rs := [13]) (by kernel_rfl) (by simp) ?_
            intro i' hi'
            simp only [List.mem_cons, List.not_mem_nil, or_false] at hi'
            subst hi'
            refine anyH_opW 13 rfl rfl ?_
            intro K hK
            go_wp2_with (go_at_call 16; refine (image_any g mb kv d7 _ (Pl.dk ST.out)).mono ?_; rintro e w11 ⟨v1, rfl, ho1, hb⟩)
            rw [HIM.out ()] at ho1
            have hs1 : SlOld w11 v1 im := ho1.old
            obtain ⟨p1, c1, hv1, _⟩ := hs1.len
            rw [HIL.out ()] at hv1
            subst hv1
            have st' := Pl.below ST.out hb
            clear ST hm
            have ST : Hid (Pl w w11 g mb kv q a b c d7 d7 [(qs, [.int .i64 wh, .int .i64 xi, .slice pb lb cb, .int .i64 xa, .slice pc lc cc], 30)]) := st'
            clear st'
            have hm := Pl.mem ST.out
            clear hb ho1
            refine hK _ _ hm ?_
            clear hK K
            go_simp
            refine anyH_more (fun V => Mem w [] V [(qs, [.int .i64 wh, .int .i64 xi, .slice pb lb cb, .int .i64 xa, .slice pc lc cc], 30)] ∧ SlOld V (.slice p1 il c1) im) (fun V h => h.1) _ _ _ _ ?_
            replace hm := And.intro hm hs1
            clear hs1
            refine anyH_takeG 14 (v := .string (strOf im)) rfl (by kernel_rfl) (by kernel_rfl) (by kernel_rfl) rfl (fun V hV => exec_tostr un_bs un_u8 un_strT im rfl hV.2) hm ?_
            go_simp
            refine wpAnyH_all (rs := [16]) (by kernel_rfl) (by simp) ?_
            intro i' hi'
            simp only [List.mem_cons, List.not_mem_nil, or_false] at hi'
            subst hi'
            refine anyH_opW 16 rfl rfl ?_
            intro K hK
            go_wp2_with (go_at_call 17; refine (imageR_any q a b c d7 HOK7.out _ (Pl.rf ST.out)).mono ?_; rintro e w12 ⟨v2, rfl, ho2, hb⟩)
            rw [HIM.out ()] at ho2
            have hs2 : SlOld w12 v2 im := ho2.old
            obtain ⟨p2, c2, hv2, _⟩ := hs2.len
            rw [HIL.out ()] at hv2
            subst hv2
            have hs1 := SlOld.below hm.2 hb
            have HS2 : Hid (SlOld w12 (.slice p2 il c2) im) := hs2
            have st' := Pl.below ST.out hb
            clear ST hm
            have ST : Hid (Pl w w12 g mb kv q a b c d7 d7 [(qs, [.int .i64 wh, .int .i64 xi, .slice pb lb cb, .int .i64 xa, .slice pc lc cc], 30)]) := st'
            clear st'
            have hm := Pl.mem ST.out
            replace hm := And.intro hm hs1
            clear hb ho2 hs1 hs2
            refine hK _ _ hm ?_
            clear hK K
            go_simp
            refine wpAnyH_all (rs := [17]) (by kernel_rfl) (by simp) ?_
            intro i' hi'
            simp only [List.mem_cons, List.not_mem_nil, or_false] at hi'
            subst hi'
            refine anyH_opW 17 rfl rfl ?_
            intro K hK
            refine wpl_execG (.string (strOf im)) rfl (exec_tostr un_bs un_u8 un_strT im rfl HS2.out) ?_
            refine wpList_nil ?_
            refine hK _ _ hm ?_
            clear hK K
            go_simp
            refine anyH_takeG 18 (v := .bool false) rfl (by kernel_rfl) (by kernel_rfl) (by kernel_rfl) rfl (fun V _ => exec_nes (strOf im) (strOf im) true rfl rfl (beq_self_str _)) hm ?_
            go_simp
            refine anyH_takeG 19 (v := .bool false) rfl (by kernel_rfl) (by kernel_rfl) (by kernel_rfl) rfl (fun V _ => by go_simp) hm ?_
            go_simp
            refine wpAnyH_done (by kernel_rfl) ?_ _
            simp only [endsIn]
            go_wp2_with fail
            go_roundw
            case rel => exact ⟨i + 1, d7, by omega, by go_num, by have h := HIN7.out; simpa using h, Pl.tail ST.out⟩
            case measure => simp [intOf]; omega
          · by_cases hw3 : wh = 3
            · subst hw3
              obtain ⟨d7, hd7⟩ : ∃ x, x = d.flush := ⟨_, rfl⟩
              have HD7 : Hid (∀ _ : Unit, d.flush = d7) := fun _ => hd7.symm
              have HOK7 : Hid d7.Ok := by rw [hd7]; exact flush_ok7 HOK.out
              have HIN7 : Hid (d7.In ((i : Int) + 1)) := by rw [hd7]; exact HIN.out.flush
              obtain ⟨im, him⟩ : ∃ x, x = flatK d7.kept d7.n := ⟨_, rfl⟩
              have HIM : Hid (∀ _ : Unit, flatK d7.kept d7.n = im) := fun _ => him.symm
              obtain ⟨il, hil⟩ : ∃ x, x = im.length := ⟨_, rfl⟩
              have HIL : Hid (∀ _ : Unit, im.length = il) := fun _ => hil.symm
              clear hd7 him hil
              obtain ⟨cd, hcd⟩ : ∃ x, x = d.fcode := ⟨_, rfl⟩
              have HCD : Hid (∀ _ : Unit, d.fcode = cd) := fun _ => hcd.symm
              clear hcd
              go_wp2_with (first
                | ((with_reducible refine at_op (some 33) (.indexAddr 22 (.tmp 31) (.tmp 32)) ?_); go_must (refine wpl_execG (.pointer (some ⟨b0, o0 + i * 5, none⟩)) rfl (exec_ixS i rfl rfl rfl hlt) ?_))
                | ((with_reducible refine at_op (some 34) (.load 30 (.tmp 33)) ?_); go_must (refine wpl_execG (.agg (List.toArray [.int .i64 3, .int .i64 xi, .slice pb lb cb, .int .i64 xa, .slice pc lc cc])) rfl (exec_ld5 (o0 + i * 5) [.int .i64 3, .int .i64 xi, .slice pb lb cb, .int .i64 xa, .slice pc lc cc] rfl (HC.out _ (Pl.base ST.out)) rfl) ?_))
                | ((with_reducible refine at_op (some 8) (.alloc 30) ?_); go_must (refine wpl_alloc _ zero_stp (Mem.start _) ?_); intro w3 qs hq; have st' := Pl.took ST.out hq; clear hq; clear ST; have ST : Hid (Pl w w3 g mb kv q a b c d d [(qs, [.int .i64 0, .int .i64 0, .slice none 0 0, .int .i64 0, .slice none 0 0], 30)]) := st'; clear st')
                | ((with_reducible refine at_op none (.store 30 (.tmp 8) (.tmp 34)) ?_); go_must (refine wpl_stw 0 [.int .i64 3, .int .i64 xi, .slice pb lb cb, .int .i64 xa, .slice pc lc cc] (Mem.enter ((Pl.mem ST.out).get 0 rfl)) rfl rfl rfl 5 sz_stp rfl rfl (by simp [Value.oneCell']) ?_); intro w4 hq; have st' := Pl.turned ST.out 0 rfl hq; clear hq; clear ST; have ST : Hid (Pl w w4 g mb kv q a b c d d [(qs, [.int .i64 3, .int .i64 xi, .slice pb lb cb, .int .i64 xa, .slice pc lc cc], 30)]) := st'; clear st')
                | ((with_reducible refine at_op (some 36) (.load 28 (.tmp 35)) ?_); go_must (refine wpl_ldr 2 (.slice pb lb cb) ((Pl.mem ST.out).get 0 rfl) rfl ag_bs rfl ?_))
                | ((with_reducible refine at_opG (some 41) (.load 28 (.tmp 40)) (some (4, false)) ?_); go_must (refine wpl_execG (.slice pc lc cc) rfl (exec_ldrG 4 (.slice pc lc cc) ((Pl.mem ST.out).get 0 rfl) rfl ag_bs rfl) ?_))
                | ((with_reducible refine at_op (some 55) (.load 3 (.tmp 54)) ?_); go_must (refine wpl_ldr 0 (.int .i64 3) ((Pl.mem ST.out).get 0 rfl) rfl ag_int rfl ?_))
                | ((with_reducible refine at_op (some 72) (.load 3 (.tmp 71)) ?_); go_must (refine wpl_ldr 0 (.int .i64 3) ((Pl.mem ST.out).get 0 rfl) rfl ag_int rfl ?_))
                | ((with_reducible refine at_op (some 80) (.load 3 (.tmp 79)) ?_); go_must (refine wpl_ldr 0 (.int .i64 3) ((Pl.mem ST.out).get 0 rfl) rfl ag_int rfl ?_)))
              go_at_call 9
              refine (flush_any g mb kv d HNU.out _ (Pl.dk ST.out)).mono ?_
              rintro e w7 ⟨he, hd7, hu7⟩
              rw [HCD.out ()] at he
              subst he
              have st' := Pl.congr (Pl.turnD ST.out hd7 hu7) (HD7.out ()) rfl
              clear ST hd7 hu7
              have ST : Hid (Pl w w7 g mb kv q a b c d7 d [(qs, [.int .i64 3, .int .i64 xi, .slice pb lb cb, .int .i64 xa, .slice pc lc cc], 30)]) := st'
              clear st'
              go_wp2_with fail
              go_at_call 10
              refine (flushR_any q a b c d HOK.out HNU.out HSN.out _ (Pl.rf ST.out)).mono ?_
              rintro e w8 ⟨he, hr8, hu8⟩
              rw [HCD.out ()] at he
              subst he
              have st' := Pl.congr (Pl.turnR ST.out hr8 hu8) rfl (HD7.out ())
              clear ST hr8 hu8
              have ST : Hid (Pl w w8 g mb kv q a b c d7 d7 [(qs, [.int .i64 3, .int .i64 xi, .slice pb lb cb, .int .i64 xa, .slice pc lc cc], 30)]) := st'
              clear st'
              go_wp2_with fail
              refine wp_ends0 ?_
              refine anyH_startP (T := fun V => Mem w [] V [(qs, [.int .i64 3, .int .i64 xi, .slice pb lb cb, .int .i64 xa, .slice pc lc cc], 30)]) (by kernel_rfl) ST.out ?_
              clear ST
              intro w9 st'
              have hm := Pl.mem st'
              have ST : Hid (Pl w w9 g mb kv q a b c d7 d7 [(qs, [.int .i64 3, .int .i64 xi, .slice pb lb cb, .int .i64 xa, .slice pc lc cc], 30)]) := st'
              clear st'
              refine anyH_takeG 0 (v := .int .i64 cd) rfl (by kernel_rfl) (by kernel_rfl) (by kernel_rfl) rfl (fun V _ => by go_simp) hm ?_
              go_simp
              refine anyH_takeG 1 (v := .int .i64 cd) rfl (by kernel_rfl) (by kernel_rfl) (by kernel_rfl) rfl (fun V _ => by go_simp) hm ?_
              go_simp
              refine anyH_takeG 2 (v := .bool false) rfl (by kernel_rfl) (by kernel_rfl) (by kernel_rfl) rfl (fun V _ => by go_simp) hm ?_
              go_simp
              refine anyH_takeG 3 (v := .bool false) rfl (by kernel_rfl) (by kernel_rfl) (by kernel_rfl) rfl (fun V _ => by go_simp) hm ?_
              go_simp
              refine anyH_takeG 4 (v := .pointer (some ⟨g, 0, none⟩)) rfl (by kernel_rfl) (by kernel_rfl) (by kernel_rfl) rfl (fun V _ => by go_simp) hm ?_
              go_simp
              refine anyH_takeG 5 (v := .pointer (some ⟨q, 0, none⟩)) rfl (by kernel_rfl) (by kernel_rfl) (by kernel_rfl) rfl (fun V _ => by go_simp) hm ?_
              go_simp
              refine anyH_takeG 6 (v := .pointer (some ⟨qs, 1, none⟩)) rfl (by kernel_rfl) (by kernel_rfl) (by kernel_rfl) rfl (fun V _ => by go_simp) hm ?_
              go_simp
              refine anyH_takeG 7 (v := .int .i64 xi) rfl (by kernel_rfl) (by kernel_rfl) (by kernel_rfl) rfl (fun V hV => exec_ldrG 1 (.int .i64 xi) (hV.get 0 rfl) rfl ag_int rfl) hm ?_
              go_simp
              refine wpAnyH_all (rs := [8]) (by kernel_rfl) (by simp) ?_
              intro i' hi'
              simp only [List.mem_cons, List.not_mem_nil, or_false] at hi'
              subst hi'
              refine anyH_opW 8 rfl rfl ?_
              intro K hK
              go_wp2_with (go_at_call 15; refine (alike_any g mb q a b c kv d7 xi _ (Pl.dk ST.out) (Pl.rf ST.out)).mono ?_; rintro e w10 ⟨rfl, hb⟩)
              have st' := Pl.below ST.out hb
              clear ST hm
              have ST : Hid (Pl w w10 g mb kv q a b c d7 d7 [(qs, [.int .i64 3, .int .i64 xi, .slice pb lb cb, .int .i64 xa, .slice pc lc cc], 30)]) := st'
              clear st'
              have hm := Pl.mem ST.out
              clear hb
              refine hK _ _ hm ?_
              clear hK K
              go_simp
              refine anyH_takeG 9 (v := .bool false) rfl (by kernel_rfl) (by kernel_rfl) (by kernel_rfl) rfl (fun V _ => by go_simp) hm ?_
              go_simp
              refine anyH_takeG 10 (v := .bool false) rfl (by kernel_rfl) (by kernel_rfl) (by kernel_rfl) rfl (fun V _ => by go_simp) hm ?_
              go_simp
              refine anyH_takeG 11 (v := .bool false) rfl (by kernel_rfl) (by kernel_rfl) (by kernel_rfl) rfl (fun V _ => by go_simp) hm ?_
              go_simp
              refine anyH_takeG 12 (v := .pointer (some ⟨g, 0, none⟩)) rfl (by kernel_rfl) (by kernel_rfl) (by kernel_rfl) rfl (fun V _ => by go_simp) hm ?_
              go_simp
              refine anyH_takeG 15 (v := .pointer (some ⟨q, 0, none⟩)) rfl (by kernel_rfl) (by kernel_rfl) (by kernel_rfl) rfl (fun V _ => by go_simp) hm ?_
              go_simp
              refine wpAnyH_all (rs := [13]) (by kernel_rfl) (by simp) ?_
              intro i' hi'
              simp only [List.mem_cons, List.not_mem_nil, or_false] at hi'
              subst hi'
              refine anyH_opW 13 rfl rfl ?_
              intro K hK
              go_wp2_with (go_at_call 16; refine (image_any g mb kv d7 _ (Pl.dk ST.out)).mono ?_; rintro e w11 ⟨v1, rfl, ho1, hb⟩)
              rw [HIM.out ()] at ho1
              have hs1 : SlOld w11 v1 im := ho1.old
              obtain ⟨p1, c1, hv1, _⟩ := hs1.len
              rw [HIL.out ()] at hv1
              subst hv1
              have st' := Pl.below ST.out hb
              clear ST hm
              have ST : Hid (Pl w w11 g mb kv q a b c d7 d7 [(qs, [.int .i64 3, .int .i64 xi, .slice pb lb cb, .int .i64 xa, .slice pc lc cc], 30)]) := st'
              clear st'
              have hm := Pl.mem ST.out
              clear hb ho1
              refine hK _ _ hm ?_
              clear hK K
              go_simp
              refine anyH_more (fun V => Mem w [] V [(qs, [.int .i64 3, .int .i64 xi, .slice pb lb cb, .int .i64 xa, .slice pc lc cc], 30)] ∧ SlOld V (.slice p1 il c1) im) (fun V h => h.1) _ _ _ _ ?_
              replace hm := And.intro hm hs1
              clear hs1
              refine anyH_takeG 14 (v := .string (strOf im)) rfl (by kernel_rfl) (by kernel_rfl) (by kernel_rfl) rfl (fun V hV => exec_tostr un_bs un_u8 un_strT im rfl hV.2) hm ?_
              go_simp
              refine wpAnyH_all (rs := [16]) (by kernel_rfl) (by simp) ?_
              intro i' hi'
              simp only [List.mem_cons, List.not_mem_nil, or_false] at hi'
              subst hi'
              refine anyH_opW 16 rfl rfl ?_
              intro K hK
              go_wp2_with (go_at_call 17; refine (imageR_any q a b c d7 HOK7.out _ (Pl.rf ST.out)).mono ?_; rintro e w12 ⟨v2, rfl, ho2, hb⟩)
              rw [HIM.out ()] at ho2
              have hs2 : SlOld w12 v2 im := ho2.old
              obtain ⟨p2, c2, hv2, _⟩ := hs2.len
              rw [HIL.out ()] at hv2
              subst hv2
              have hs1 := SlOld.below hm.2 hb
              have HS2 : Hid (SlOld w12 (.slice p2 il c2) im) := hs2
              have st' := Pl.below ST.out hb
              clear ST hm
              have ST : Hid (Pl w w12 g mb kv q a b c d7 d7 [(qs, [.int .i64 3, .int .i64 xi, .slice pb lb cb, .int .i64 xa, .slice pc lc cc], 30)]) := st'
              clear st'
              have hm := Pl.mem ST.out
              replace hm := And.intro hm hs1
              clear hb ho2 hs1 hs2
              refine hK _ _ hm ?_
              clear hK K
              go_simp
              refine wpAnyH_all (rs := [17]) (by kernel_rfl) (by simp) ?_
              intro i' hi'
              simp only [List.mem_cons, List.not_mem_nil, or_false] at hi'
              subst hi'
              refine anyH_opW 17 rfl rfl ?_
              intro K hK
              refine wpl_execG (.string (strOf im)) rfl (exec_tostr un_bs un_u8 un_strT im rfl HS2.out) ?_
              refine wpList_nil ?_
              refine hK _ _ hm ?_
              clear hK K
              go_simp
              refine anyH_takeG 18 (v := .bool false) rfl (by kernel_rfl) (by kernel_rfl) (by kernel_rfl) rfl (fun V _ => exec_nes (strOf im) (strOf im) true rfl rfl (beq_self_str _)) hm ?_
              go_simp
              refine anyH_takeG 19 (v := .bool false) rfl (by kernel_rfl) (by kernel_rfl) (by kernel_rfl) rfl (fun V _ => by go_simp) hm ?_
              go_simp
              refine wpAnyH_done (by kernel_rfl) ?_ _
              simp only [endsIn]
              go_wp2_with fail
              go_roundw
              case rel => exact ⟨i + 1, d7, by omega, by go_num, by have h := HIN7.out; simpa using h, Pl.tail ST.out⟩
              case measure => simp [intOf]; omega
            · by_cases hw4 : wh = 4
              · subst hw4
                obtain ⟨d7, hd7⟩ : ∃ x, x = d.power xa := ⟨_, rfl⟩
                have HD7 : Hid (∀ _ : Unit, d.power xa = d7) := fun _ => hd7.symm
                have HOK7 : Hid d7.Ok := by rw [hd7]; exact Dk.power_ok HOK.out xa
                have HIN7 : Hid (d7.In ((i : Int) + 1)) := by rw [hd7]; exact HIN.out.power xa HXA.out
                obtain ⟨im, him⟩ : ∃ x, x = flatK d7.kept d7.n := ⟨_, rfl⟩
                have HIM : Hid (∀ _ : Unit, flatK d7.kept d7.n = im) := fun _ => him.symm
                obtain ⟨il, hil⟩ : ∃ x, x = im.length := ⟨_, rfl⟩
                have HIL : Hid (∀ _ : Unit, im.length = il) := fun _ => hil.symm
                clear hd7 him hil
                go_wp2_with (first
                  | ((with_reducible refine at_op (some 33) (.indexAddr 22 (.tmp 31) (.tmp 32)) ?_); go_must (refine wpl_execG (.pointer (some ⟨b0, o0 + i * 5, none⟩)) rfl (exec_ixS i rfl rfl rfl hlt) ?_))
                  | ((with_reducible refine at_op (some 34) (.load 30 (.tmp 33)) ?_); go_must (refine wpl_execG (.agg (List.toArray [.int .i64 4, .int .i64 xi, .slice pb lb cb, .int .i64 xa, .slice pc lc cc])) rfl (exec_ld5 (o0 + i * 5) [.int .i64 4, .int .i64 xi, .slice pb lb cb, .int .i64 xa, .slice pc lc cc] rfl (HC.out _ (Pl.base ST.out)) rfl) ?_))
                  | ((with_reducible refine at_op (some 8) (.alloc 30) ?_); go_must (refine wpl_alloc _ zero_stp (Mem.start _) ?_); intro w3 qs hq; have st' := Pl.took ST.out hq; clear hq; clear ST; have ST : Hid (Pl w w3 g mb kv q a b c d d [(qs, [.int .i64 0, .int .i64 0, .slice none 0 0, .int .i64 0, .slice none 0 0], 30)]) := st'; clear st')
                  | ((with_reducible refine at_op none (.store 30 (.tmp 8) (.tmp 34)) ?_); go_must (refine wpl_stw 0 [.int .i64 4, .int .i64 xi, .slice pb lb cb, .int .i64 xa, .slice pc lc cc] (Mem.enter ((Pl.mem ST.out).get 0 rfl)) rfl rfl rfl 5 sz_stp rfl rfl (by simp [Value.oneCell']) ?_); intro w4 hq; have st' := Pl.turned ST.out 0 rfl hq; clear hq; clear ST; have ST : Hid (Pl w w4 g mb kv q a b c d d [(qs, [.int .i64 4, .int .i64 xi, .slice pb lb cb, .int .i64 xa, .slice pc lc cc], 30)]) := st'; clear st')
                  | ((with_reducible refine at_op (some 36) (.load 28 (.tmp 35)) ?_); go_must (refine wpl_ldr 2 (.slice pb lb cb) ((Pl.mem ST.out).get 0 rfl) rfl ag_bs rfl ?_))
                  | ((with_reducible refine at_opG (some 41) (.load 28 (.tmp 40)) (some (4, false)) ?_); go_must (refine wpl_execG (.slice pc lc cc) rfl (exec_ldrG 4 (.slice pc lc cc) ((Pl.mem ST.out).get 0 rfl) rfl ag_bs rfl) ?_))
                  | ((with_reducible refine at_op (some 55) (.load 3 (.tmp 54)) ?_); go_must (refine wpl_ldr 0 (.int .i64 4) ((Pl.mem ST.out).get 0 rfl) rfl ag_int rfl ?_))
                  | ((with_reducible refine at_op (some 72) (.load 3 (.tmp 71)) ?_); go_must (refine wpl_ldr 0 (.int .i64 4) ((Pl.mem ST.out).get 0 rfl) rfl ag_int rfl ?_))
                  | ((with_reducible refine at_op (some 80) (.load 3 (.tmp 79)) ?_); go_must (refine wpl_ldr 0 (.int .i64 4) ((Pl.mem ST.out).get 0 rfl) rfl ag_int rfl ?_))
                  | ((with_reducible refine at_op (some 84) (.load 3 (.tmp 83)) ?_); go_must (refine wpl_ldr 3 (.int .i64 xa) ((Pl.mem ST.out).get 0 rfl) rfl ag_int rfl ?_)))
                go_at_call 11
                refine (power_any g mb kv d xa _ (Pl.dk ST.out)).mono ?_
                rintro e w7 ⟨he, hd7, hu7⟩
                subst he
                have st' := Pl.congr (Pl.turnD ST.out hd7 hu7) (HD7.out ()) rfl
                clear ST hd7 hu7
                have ST : Hid (Pl w w7 g mb kv q a b c d7 d [(qs, [.int .i64 4, .int .i64 xi, .slice pb lb cb, .int .i64 xa, .slice pc lc cc], 30)]) := st'
                clear st'
                go_wp2_with (first
                  | ((with_reducible refine at_op (some 88) (.load 3 (.tmp 87)) ?_); go_must (refine wpl_ldr 3 (.int .i64 xa) ((Pl.mem ST.out).get 0 rfl) rfl ag_int rfl ?_)))
                go_at_call 12
                refine (powerR_any q a b c d xa _ (Pl.rf ST.out)).mono ?_
                rintro e w8 ⟨he, hr8, hu8⟩
                subst he
                have st' := Pl.congr (Pl.turnR ST.out hr8 hu8) rfl (HD7.out ())
                clear ST hr8 hu8
                have ST : Hid (Pl w w8 g mb kv q a b c d7 d7 [(qs, [.int .i64 4, .int .i64 xi, .slice pb lb cb, .int .i64 xa, .slice pc lc cc], 30)]) := st'
                clear st'
                go_wp2_with fail
                refine wp_ends0 ?_
                refine anyH_startP (T := fun V => Mem w [] V [(qs, [.int .i64 4, .int .i64 xi, .slice pb lb cb, .int .i64 xa, .slice pc lc cc], 30)]) (by kernel_rfl) ST.out ?_
                clear ST
                intro w9 st'
                have hm := Pl.mem st'
                have ST : Hid (Pl w w9 g mb kv q a b c d7 d7 [(qs, [.int .i64 4, .int .i64 xi, .slice pb lb cb, .int .i64 xa, .slice pc lc cc], 30)]) := st'
                clear st'
                refine anyH_takeG 0 (v := .int .i64 0) rfl (by kernel_rfl) (by kernel_rfl) (by kernel_rfl) rfl (fun V _ => by go_simp) hm ?_
                go_simp
                refine anyH_takeG 1 (v := .int .i64 0) rfl (by kernel_rfl) (by kernel_rfl) (by kernel_rfl) rfl (fun V _ => by go_simp) hm ?_
                go_simp
                refine anyH_takeG 2 (v := .bool false) rfl (by kernel_rfl) (by kernel_rfl) (by kernel_rfl) rfl (fun V _ => by go_simp) hm ?_
                go_simp
                refine anyH_takeG 3 (v := .bool false) rfl (by kernel_rfl) (by kernel_rfl) (by kernel_rfl) rfl (fun V _ => by go_simp) hm ?_
                go_simp
                refine anyH_takeG 4 (v := .pointer (some ⟨g, 0, none⟩)) rfl (by kernel_rfl) (by kernel_rfl) (by kernel_rfl) rfl (fun V _ => by go_simp) hm ?_
                go_simp
                refine anyH_takeG 5 (v := .pointer (some ⟨q, 0, none⟩)) rfl (by kernel_rfl) (by kernel_rfl) (by kernel_rfl) rfl (fun V _ => by go_simp) hm ?_
                go_simp
                refine anyH_takeG 6 (v := .pointer (some ⟨qs, 1, none⟩)) rfl (by kernel_rfl) (by kernel_rfl) (by kernel_rfl) rfl (fun V _ => by go_simp) hm ?_
                go_simp
                refine anyH_takeG 7 (v := .int .i64 xi) rfl (by kernel_rfl) (by kernel_rfl) (by kernel_rfl) rfl (fun V hV => exec_ldrG 1 (.int .i64 xi) (hV.get 0 rfl) rfl ag_int rfl) hm ?_
                go_simp
                refine wpAnyH_all (rs := [8]) (by kernel_rfl) (by simp) ?_
                intro i' hi'
                simp only [List.mem_cons, List.not_mem_nil, or_false] at hi'
                subst hi'
                refine anyH_opW 8 rfl rfl ?_
                intro K hK
                go_wp2_with (go_at_call 15; refine (alike_any g mb q a b c kv d7 xi _ (Pl.dk ST.out) (Pl.rf ST.out)).mono ?_; rintro e w10 ⟨rfl, hb⟩)
                have st' := Pl.below ST.out hb
                clear ST hm
                have ST : Hid (Pl w w10 g mb kv q a b c d7 d7 [(qs, [.int .i64 4, .int .i64 xi, .slice pb lb cb, .int .i64 xa, .slice pc lc cc], 30)]) := st'
                clear st'
                have hm := Pl.mem ST.out
                clear hb
                refine hK _ _ hm ?_
                clear hK K
                go_simp
                refine anyH_takeG 9 (v := .bool false) rfl (by kernel_rfl) (by kernel_rfl) (by kernel_rfl) rfl (fun V _ => by go_simp) hm ?_
                go_simp
                refine anyH_takeG 10 (v := .bool false) rfl (by kernel_rfl) (by kernel_rfl) (by kernel_rfl) rfl (fun V _ => by go_simp) hm ?_
                go_simp
                refine anyH_takeG 11 (v := .bool false) rfl (by kernel_rfl) (by kernel_rfl) (by kernel_rfl) rfl (fun V _ => by go_simp) hm ?_
                go_simp
                refine anyH_takeG 12 (v := .pointer (some ⟨g, 0, none⟩)) rfl (by kernel_rfl) (by kernel_rfl) (by kernel_rfl) rfl (fun V _ => by go_simp) hm ?_
                go_simp
                refine anyH_takeG 15 (v := .pointer (some ⟨q, 0, none⟩)) rfl (by kernel_rfl) (by kernel_rfl) (by kernel_rfl) rfl (fun V _ => by go_simp) hm ?_
                go_simp
                refine wpAnyH_all (rs := [13]) (by kernel_rfl) (by simp) ?_
                intro i' hi'
                simp only [List.mem_cons, List.not_mem_nil, or_false] at hi'
                subst hi'
                refine anyH_opW 13 rfl rfl ?_
                intro K hK
                go_wp2_with (go_at_call 16; refine (image_any g mb kv d7 _ (Pl.dk ST.out)).mono ?_; rintro e w11 ⟨v1, rfl, ho1, hb⟩)
                rw [HIM.out ()] at ho1
                have hs1 : SlOld w11 v1 im := ho1.old
                obtain ⟨p1, c1, hv1, _⟩ := hs1.len
                rw [HIL.out ()] at hv1
                subst hv1
                have st' := Pl.below ST.out hb
                clear ST hm
                have ST : Hid (Pl w w11 g mb kv q a b c d7 d7 [(qs, [.int .i64 4, .int .i64 xi, .slice pb lb cb, .int .i64 xa, .slice pc lc cc], 30)]) := st'
                clear st'
                have hm := Pl.mem ST.out
                clear hb ho1
                refine hK _ _ hm ?_
                clear hK K
                go_simp
                refine anyH_more (fun V => Mem w [] V [(qs, [.int .i64 4, .int .i64 xi, .slice pb lb cb, .int .i64 xa, .slice pc lc cc], 30)] ∧ SlOld V (.slice p1 il c1) im) (fun V h => h.1) _ _ _ _ ?_
                replace hm := And.intro hm hs1
                clear hs1
                refine anyH_takeG 14 (v := .string (strOf im)) rfl (by kernel_rfl) (by kernel_rfl) (by kernel_rfl) rfl (fun V hV => exec_tostr un_bs un_u8 un_strT im rfl hV.2) hm ?_
                go_simp
                refine wpAnyH_all (rs := [16]) (by kernel_rfl) (by simp) ?_
                intro i' hi'
                simp only [List.mem_cons, List.not_mem_nil, or_false] at hi'
                subst hi'
                refine anyH_opW 16 rfl rfl ?_
                intro K hK
                go_wp2_with (go_at_call 17; refine (imageR_any q a b c d7 HOK7.out _ (Pl.rf ST.out)).mono ?_; rintro e w12 ⟨v2, rfl, ho2, hb⟩)
                rw [HIM.out ()] at ho2
                have hs2 : SlOld w12 v2 im := ho2.old
                obtain ⟨p2, c2, hv2, _⟩ := hs2.len
                rw [HIL.out ()] at hv2
                subst hv2
                have hs1 := SlOld.below hm.2 hb
                have HS2 : Hid (SlOld w12 (.slice p2 il c2) im) := hs2
                have st' := Pl.below ST.out hb
                clear ST hm
                have ST : Hid (Pl w w12 g mb kv q a b c d7 d7 [(qs, [.int .i64 4, .int .i64 xi, .slice pb lb cb, .int .i64 xa, .slice pc lc cc], 30)]) := st'
                clear st'
                have hm := Pl.mem ST.out
                replace hm := And.intro hm hs1
                clear hb ho2 hs1 hs2
                refine hK _ _ hm ?_
                clear hK K
                go_simp
                refine wpAnyH_all (rs := [17]) (by kernel_rfl) (by simp) ?_
                intro i' hi'
                simp only [List.mem_cons, List.not_mem_nil, or_false] at hi'
                subst hi'
                refine anyH_opW 17 rfl rfl ?_
                intro K hK
                refine wpl_execG (.string (strOf im)) rfl (exec_tostr un_bs un_u8 un_strT im rfl HS2.out) ?_
                refine wpList_nil ?_
                refine hK _ _ hm ?_
                clear hK K
                go_simp
                refine anyH_takeG 18 (v := .bool false) rfl (by kernel_rfl) (by kernel_rfl) (by kernel_rfl) rfl (fun V _ => exec_nes (strOf im) (strOf im) true rfl rfl (beq_self_str _)) hm ?_
                go_simp
                refine anyH_takeG 19 (v := .bool false) rfl (by kernel_rfl) (by kernel_rfl) (by kernel_rfl) rfl (fun V _ => by go_simp) hm ?_
                go_simp
                refine wpAnyH_done (by kernel_rfl) ?_ _
                simp only [endsIn]
                go_wp2_with fail
                go_roundw
                case rel => exact ⟨i + 1, d7, by omega, by go_num, by have h := HIN7.out; simpa using h, Pl.tail ST.out⟩
                case measure => simp [intOf]; omega
              · skip
                obtain ⟨d7, hd7⟩ : ∃ x, x = d.crash cs := ⟨_, rfl⟩
                have HD7 : Hid (∀ _ : Unit, d.crash cs = d7) := fun _ => hd7.symm
                have HOK7 : Hid d7.Ok := by rw [hd7]; exact Dk.crash_ok HOK.out cs
                have HIN7 : Hid (d7.In ((i : Int) + 1)) := by rw [hd7]; exact HIN.out.crash cs
                obtain ⟨im, him⟩ : ∃ x, x = flatK d7.kept d7.n := ⟨_, rfl⟩
                have HIM : Hid (∀ _ : Unit, flatK d7.kept d7.n = im) := fun _ => him.symm
                obtain ⟨il, hil⟩ : ∃ x, x = im.length := ⟨_, rfl⟩
                have HIL : Hid (∀ _ : Unit, im.length = il) := fun _ => hil.symm
                clear hd7 him hil
                go_wp2_with (first
                  | ((with_reducible refine at_op (some 33) (.indexAddr 22 (.tmp 31) (.tmp 32)) ?_); go_must (refine wpl_execG (.pointer (some ⟨b0, o0 + i * 5, none⟩)) rfl (exec_ixS i rfl rfl rfl hlt) ?_))
                  | ((with_reducible refine at_op (some 34) (.load 30 (.tmp 33)) ?_); go_must (refine wpl_execG (.agg (List.toArray [.int .i64 wh, .int .i64 xi, .slice pb lb cb, .int .i64 xa, .slice pc lc cc])) rfl (exec_ld5 (o0 + i * 5) [.int .i64 wh, .int .i64 xi, .slice pb lb cb, .int .i64 xa, .slice pc lc cc] rfl (HC.out _ (Pl.base ST.out)) rfl) ?_))
                  | ((with_reducible refine at_op (some 8) (.alloc 30) ?_); go_must (refine wpl_alloc _ zero_stp (Mem.start _) ?_); intro w3 qs hq; have st' := Pl.took ST.out hq; clear hq; clear ST; have ST : Hid (Pl w w3 g mb kv q a b c d d [(qs, [.int .i64 0, .int .i64 0, .slice none 0 0, .int .i64 0, .slice none 0 0], 30)]) := st'; clear st')
                  | ((with_reducible refine at_op none (.store 30 (.tmp 8) (.tmp 34)) ?_); go_must (refine wpl_stw 0 [.int .i64 wh, .int .i64 xi, .slice pb lb cb, .int .i64 xa, .slice pc lc cc] (Mem.enter ((Pl.mem ST.out).get 0 rfl)) rfl rfl rfl 5 sz_stp rfl rfl (by simp [Value.oneCell']) ?_); intro w4 hq; have st' := Pl.turned ST.out 0 rfl hq; clear hq; clear ST; have ST : Hid (Pl w w4 g mb kv q a b c d d [(qs, [.int .i64 wh, .int .i64 xi, .slice pb lb cb, .int .i64 xa, .slice pc lc cc], 30)]) := st'; clear st')
                  | ((with_reducible refine at_op (some 36) (.load 28 (.tmp 35)) ?_); go_must (refine wpl_ldr 2 (.slice pb lb cb) ((Pl.mem ST.out).get 0 rfl) rfl ag_bs rfl ?_))
                  | ((with_reducible refine at_opG (some 41) (.load 28 (.tmp 40)) (some (4, false)) ?_); go_must (refine wpl_execG (.slice pc lc cc) rfl (exec_ldrG 4 (.slice pc lc cc) ((Pl.mem ST.out).get 0 rfl) rfl ag_bs rfl) ?_))
                  | ((with_reducible refine at_op (some 55) (.load 3 (.tmp 54)) ?_); go_must (refine wpl_ldr 0 (.int .i64 wh) ((Pl.mem ST.out).get 0 rfl) rfl ag_int rfl ?_))
                  | ((with_reducible refine at_op (some 72) (.load 3 (.tmp 71)) ?_); go_must (refine wpl_ldr 0 (.int .i64 wh) ((Pl.mem ST.out).get 0 rfl) rfl ag_int rfl ?_))
                  | ((with_reducible refine at_op (some 80) (.load 3 (.tmp 79)) ?_); go_must (refine wpl_ldr 0 (.int .i64 wh) ((Pl.mem ST.out).get 0 rfl) rfl ag_int rfl ?_))
                  | ((with_reducible refine at_op (some 47) (.load 28 (.tmp 46)) ?_); go_must (refine wpl_ldr 4 (.slice pc lc cc) ((Pl.mem ST.out).get 0 rfl) rfl ag_bs rfl ?_)))
                go_at_call 13
                refine (crash_any g mb kv d cs _ HBC.out _ (Pl.dk ST.out) (Pl.slA ST.out HSC.out).1).mono ?_
                rintro e w7 ⟨he, hd7, hu7⟩
                subst he
                have st' := Pl.congr (Pl.turnD ST.out hd7 hu7) (HD7.out ()) rfl
                clear ST hd7 hu7
                have ST : Hid (Pl w w7 g mb kv q a b c d7 d [(qs, [.int .i64 wh, .int .i64 xi, .slice pb lb cb, .int .i64 xa, .slice pc lc cc], 30)]) := st'
                clear st'
                go_wp2_with (first
                  | ((with_reducible refine at_op (some 51) (.load 28 (.tmp 50)) ?_); go_must (refine wpl_ldr 4 (.slice pc lc cc) ((Pl.mem ST.out).get 0 rfl) rfl ag_bs rfl ?_)))
                go_at_call 14
                refine (crashR_any q a b c d cs _ HBC.out HOK.out _ (Pl.rf ST.out) (Pl.slA ST.out HSC.out).2).mono ?_
                rintro e w8 ⟨he, hr8, hu8⟩
                subst he
                have st' := Pl.congr (Pl.turnR ST.out hr8 hu8) rfl (HD7.out ())
                clear ST hr8 hu8
                have ST : Hid (Pl w w8 g mb kv q a b c d7 d7 [(qs, [.int .i64 wh, .int .i64 xi, .slice pb lb cb, .int .i64 xa, .slice pc lc cc], 30)]) := st'
                clear st'
                go_wp2_with fail
                refine wp_ends0 ?_
                refine anyH_startP (T := fun V => Mem w [] V [(qs, [.int .i64 wh, .int .i64 xi, .slice pb lb cb, .int .i64 xa, .slice pc lc cc], 30)]) (by kernel_rfl) ST.out ?_
                clear ST
                intro w9 st'
                have hm := Pl.mem st'
                have ST : Hid (Pl w w9 g mb kv q a b c d7 d7 [(qs, [.int .i64 wh, .int .i64 xi, .slice pb lb cb, .int .i64 xa, .slice pc lc cc], 30)]) := st'
                clear st'
                refine anyH_takeG 0 (v := .int .i64 0) rfl (by kernel_rfl) (by kernel_rfl) (by kernel_rfl) rfl (fun V _ => by go_simp) hm ?_
                go_simp
                refine anyH_takeG 1 (v := .int .i64 0) rfl (by kernel_rfl) (by kernel_rfl) (by kernel_rfl) rfl (fun V _ => by go_simp) hm ?_
                go_simp
                refine anyH_takeG 2 (v := .bool false) rfl (by kernel_rfl) (by kernel_rfl) (by kernel_rfl) rfl (fun V _ => by go_simp) hm ?_
                go_simp
                refine anyH_takeG 3 (v := .bool false) rfl (by kernel_rfl) (by kernel_rfl) (by kernel_rfl) rfl (fun V _ => by go_simp) hm ?_
                go_simp
                refine anyH_takeG 4 (v := .pointer (some ⟨g, 0, none⟩)) rfl (by kernel_rfl) (by kernel_rfl) (by kernel_rfl) rfl (fun V _ => by go_simp) hm ?_
                go_simp
                refine anyH_takeG 5 (v := .pointer (some ⟨q, 0, none⟩)) rfl (by kernel_rfl) (by kernel_rfl) (by kernel_rfl) rfl (fun V _ => by go_simp) hm ?_
                go_simp
                refine anyH_takeG 6 (v := .pointer (some ⟨qs, 1, none⟩)) rfl (by kernel_rfl) (by kernel_rfl) (by kernel_rfl) rfl (fun V _ => by go_simp) hm ?_
                go_simp
                refine anyH_takeG 7 (v := .int .i64 xi) rfl (by kernel_rfl) (by kernel_rfl) (by kernel_rfl) rfl (fun V hV => exec_ldrG 1 (.int .i64 xi) (hV.get 0 rfl) rfl ag_int rfl) hm ?_
                go_simp
                refine wpAnyH_all (rs := [8]) (by kernel_rfl) (by simp) ?_
                intro i' hi'
                simp only [List.mem_cons, List.not_mem_nil, or_false] at hi'
                subst hi'
                refine anyH_opW 8 rfl rfl ?_
                intro K hK
                go_wp2_with (go_at_call 15; refine (alike_any g mb q a b c kv d7 xi _ (Pl.dk ST.out) (Pl.rf ST.out)).mono ?_; rintro e w10 ⟨rfl, hb⟩)
                have st' := Pl.below ST.out hb
                clear ST hm
                have ST : Hid (Pl w w10 g mb kv q a b c d7 d7 [(qs, [.int .i64 wh, .int .i64 xi, .slice pb lb cb, .int .i64 xa, .slice pc lc cc], 30)]) := st'
                clear st'
                have hm := Pl.mem ST.out
                clear hb
                refine hK _ _ hm ?_
                clear hK K
                go_simp
                refine anyH_takeG 9 (v := .bool false) rfl (by kernel_rfl) (by kernel_rfl) (by kernel_rfl) rfl (fun V _ => by go_simp) hm ?_
                go_simp
                refine anyH_takeG 10 (v := .bool false) rfl (by kernel_rfl) (by kernel_rfl) (by kernel_rfl) rfl (fun V _ => by go_simp) hm ?_
                go_simp
                refine anyH_takeG 11 (v := .bool false) rfl (by kernel_rfl) (by kernel_rfl) (by kernel_rfl) rfl (fun V _ => by go_simp) hm ?_
                go_simp
                refine anyH_takeG 12 (v := .pointer (some ⟨g, 0, none⟩)) rfl (by kernel_rfl) (by kernel_rfl) (by kernel_rfl) rfl (fun V _ => by go_simp) hm ?_
                go_simp
                refine anyH_takeG 15 (v := .pointer (some ⟨q, 0, none⟩)) rfl (by kernel_rfl) (by kernel_rfl) (by kernel_rfl) rfl (fun V _ => by go_simp) hm ?_
                go_simp
                refine wpAnyH_all (rs := [13]) (by kernel_rfl) (by simp) ?_
                intro i' hi'
                simp only [List.mem_cons, List.not_mem_nil, or_false] at hi'
                subst hi'
                refine anyH_opW 13 rfl rfl ?_
                intro K hK
                go_wp2_with (go_at_call 16; refine (image_any g mb kv d7 _ (Pl.dk ST.out)).mono ?_; rintro e w11 ⟨v1, rfl, ho1, hb⟩)
                rw [HIM.out ()] at ho1
                have hs1 : SlOld w11 v1 im := ho1.old
                obtain ⟨p1, c1, hv1, _⟩ := hs1.len
                rw [HIL.out ()] at hv1
                subst hv1
                have st' := Pl.below ST.out hb
                clear ST hm
                have ST : Hid (Pl w w11 g mb kv q a b c d7 d7 [(qs, [.int .i64 wh, .int .i64 xi, .slice pb lb cb, .int .i64 xa, .slice pc lc cc], 30)]) := st'
                clear st'
                have hm := Pl.mem ST.out
                clear hb ho1
                refine hK _ _ hm ?_
                clear hK K
                go_simp
                refine anyH_more (fun V => Mem w [] V [(qs, [.int .i64 wh, .int .i64 xi, .slice pb lb cb, .int .i64 xa, .slice pc lc cc], 30)] ∧ SlOld V (.slice p1 il c1) im) (fun V h => h.1) _ _ _ _ ?_
                replace hm := And.intro hm hs1
                clear hs1
                refine anyH_takeG 14 (v := .string (strOf im)) rfl (by kernel_rfl) (by kernel_rfl) (by kernel_rfl) rfl (fun V hV => exec_tostr un_bs un_u8 un_strT im rfl hV.2) hm ?_
                go_simp
                refine wpAnyH_all (rs := [16]) (by kernel_rfl) (by simp) ?_
                intro i' hi'
                simp only [List.mem_cons, List.not_mem_nil, or_false] at hi'
                subst hi'
                refine anyH_opW 16 rfl rfl ?_
                intro K hK
                go_wp2_with (go_at_call 17; refine (imageR_any q a b c d7 HOK7.out _ (Pl.rf ST.out)).mono ?_; rintro e w12 ⟨v2, rfl, ho2, hb⟩)
                rw [HIM.out ()] at ho2
                have hs2 : SlOld w12 v2 im := ho2.old
                obtain ⟨p2, c2, hv2, _⟩ := hs2.len
                rw [HIL.out ()] at hv2
                subst hv2
                have hs1 := SlOld.below hm.2 hb
                have HS2 : Hid (SlOld w12 (.slice p2 il c2) im) := hs2
                have st' := Pl.below ST.out hb
                clear ST hm
                have ST : Hid (Pl w w12 g mb kv q a b c d7 d7 [(qs, [.int .i64 wh, .int .i64 xi, .slice pb lb cb, .int .i64 xa, .slice pc lc cc], 30)]) := st'
                clear st'
                have hm := Pl.mem ST.out
                replace hm := And.intro hm hs1
                clear hb ho2 hs1 hs2
                refine hK _ _ hm ?_
                clear hK K
                go_simp
                refine wpAnyH_all (rs := [17]) (by kernel_rfl) (by simp) ?_
                intro i' hi'
                simp only [List.mem_cons, List.not_mem_nil, or_false] at hi'
                subst hi'
                refine anyH_opW 17 rfl rfl ?_
                intro K hK
                refine wpl_execG (.string (strOf im)) rfl (exec_tostr un_bs un_u8 un_strT im rfl HS2.out) ?_
                refine wpList_nil ?_
                refine hK _ _ hm ?_
                clear hK K
                go_simp
                refine anyH_takeG 18 (v := .bool false) rfl (by kernel_rfl) (by kernel_rfl) (by kernel_rfl) rfl (fun V _ => exec_nes (strOf im) (strOf im) true rfl rfl (beq_self_str _)) hm ?_
                go_simp
                refine anyH_takeG 19 (v := .bool false) rfl (by kernel_rfl) (by kernel_rfl) (by kernel_rfl) rfl (fun V _ => by go_simp) hm ?_
                go_simp
                refine wpAnyH_done (by kernel_rfl) ?_ _
                simp only [endsIn]
                go_wp2_with fail
                go_roundw
                case rel => exact ⟨i + 1, d7, by omega, by go_num, by have h := HIN7.out; simpa using h, Pl.tail ST.out⟩
                case measure => simp [intOf]; omega
    · have hlt2 : ¬ ((i : Int) < (len : Int)) := by omega
      go_wp2_with fail
      go_at_call 18
      refine (copy_any g mb kv d _ (Pl.dk ST.out)).mono ?_
      rintro e w3 ⟨g2, m2, v2, rfl, hd3, hf3, hb3⟩
      have HD3 : Hid (DkAt w3 g2 m2 v2 d) := hd3
      have HF : Hid (∀ k ∈ foot g2 m2 v2, wr.heap.size ≤ k) := hf3
      have HB3 : Hid (Below wr.heap.size wr w3) := hb3
      clear hd3 hf3 hb3
      go_wp2_with (first
        | ((with_reducible refine at_op (some 114) (.convert 28 28 (.tmp 113)) ?_); go_must (refine wpl_cvA [122, 122] rfl un_bs un_u8 rfl rfl (foot g2 m2 v2) (DkAt.lt HD3.out) ?_); intro w4 ql hb4 hs4; have HD4 : Hid (DkAt w4 g2 m2 v2 d) := DkAt.below HD3.out hb4; have HS4 : Hid (SlA w4 (foot g2 m2 v2) (.slice (some ⟨ql, 0, none⟩) 2 2) [122, 122]) := hs4; have HB4 : Hid (Below wr.heap.size wr w4) := HB3.out.trans (hb4.mono HB3.out.size); clear hb4 hs4 HD3 HB3))
      go_at_call 7
      refine (write_any g2 m2 v2 d 0 [122, 122] _ (by unfold Bytes; decide) HNU.out _ HD4.out HS4.out).mono ?_
      rintro e w5 ⟨he, hd5, hu5⟩
      obtain ⟨c5, hc5⟩ : ∃ x, x = d.wcode 0 [122, 122] := ⟨_, rfl⟩
      rw [← hc5] at he
      obtain ⟨d5, hd5E⟩ : ∃ x, x = d.write 0 [122, 122] := ⟨_, rfl⟩
      rw [← hd5E] at hd5
      have HD5 : Hid (DkAt w5 g2 m2 v2 d5) := hd5
      have HB5 : Hid (Below wr.heap.size wr w5) := below_updS HB4.out (Nat.le_refl _) hu5 HF.out
      subst he
      clear hc5 hd5E hd5 hu5 HD4 HS4 HB4
      go_wp2_with (first
        | ((with_reducible refine at_op (some 117) (.buildSlice 28 1 #[(0, .const (.int .u8 255))]) ?_); go_must (refine wpl_bsl1 rfl (.int .u8 0) (.int .u8 255) un_bs info_u8 rfl rfl rfl (Mem.start _) ?_); intro w6 q6 hb6 hq6; have HD6 : Hid (DkAt w6 g2 m2 v2 d5) := DkAt.below HD5.out hb6; have HS6 : Hid (SlA w6 (foot g2 m2 v2) (.slice (some ⟨q6, 0, none⟩) 1 1) [255]) := SlA.of_row (hq6.get 0 rfl) 1 rfl (fun hk => by have h1 := DkAt.lt HD5.out _ hk; have h2 := hq6.fresh _ (List.mem_cons_self ..); simp at h2; omega) 1 (Nat.le_refl _); have HB6 : Hid (Below wr.heap.size wr w6) := HB5.out.trans (hb6.mono HB5.out.size); clear hb6 hq6 HD5 HB5))
      go_at_call 13
      refine (crash_any g2 m2 v2 d5 [255] _ (by unfold Bytes; decide) _ HD6.out HS6.out).mono ?_
      rintro e w7 ⟨he, hd7, hu7⟩
      have hb7 := below_updS HB6.out (Nat.le_refl _) hu7 HF.out
      have st' := Pl.below ST.out hb7
      subst he
      clear hd7 hu7 HD6 HS6 HB6 hb7 ST
      have ST : Hid (Pl w w7 g mb kv q a b c d d []) := st'
      clear st'
      go_wp2_with fail
      go_at_call 15
      refine (alike_any g mb q a b c kv d 0 _ (Pl.dk ST.out) (Pl.rf ST.out)).mono ?_
      rintro e w8 ⟨he, hb8⟩
      have hb9 := ((Pl.mem ST.out).call hb8).below
      subst he
      clear hb8 ST
      go_wp2_with fail
      go_ret
      exact ⟨rfl, hb9⟩
set_option maxRecDepth 100000 in
theorem sectorPlays_walk (n : Int) (p : Option Addr) (len cap b0 o0 : Nat) (X : Nat → Stp) (w : World) (hp : 0 < len → p = some ⟨b0, o0, none⟩) (hX : ∀ i, i < len → (∀ j u, (X i).row[j]? = some u → w.cell? ⟨b0, o0 + i * 5 + j, none⟩ = some u) ∧ (X i).Good w) :
    Calls Try.prog 3 #[.int .i64 n, .slice p len cap] w fun e w' => e = .returned (.bool true) ∧ Below w.heap.size w w' := by
  by_cases h1 : len ≤ 60
  · by_cases h2 : n ≤ 20
    · exact playsL_run n p len cap b0 o0 X h1 h2 w hp hX
    · exact playsL_big n p len cap h1 (by omega) w
  · exact playsL_many n p len cap (by omega) w
end Go.Proofs.Ytbaijhlkkeongaa
