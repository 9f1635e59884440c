/- Package term: what Parts hands out: each part lies apart from all others. -/
import Derived.Test.YtbiinchmbclmcaaDoorTmPair
namespace Go.Proofs.YtbiinchmbclmcaaDoor
open Go Go.RowKit Go.Maps
set_option maxRecDepth 100000 in
theorem CX.below {base : Nat} {w w' : World} {v : Value} {l : List Tm} {cs : List Value} {xs : List Nat} (h : CX base w v l cs xs) (hb : Below w.heap.size w w') : CX base w' v l cs xs := by
  obtain ⟨ys, hx, hn, hy⟩ := h
  exact ⟨ys, hx.keep (fun t _ => KX.keep t) (fun b hb' => hb.block b (hy b hb').2.1), hn, fun b hb' => ⟨(hy b hb').1, Nat.lt_of_lt_of_le (hy b hb').2.1 hb.size, (hy b hb').2.2⟩⟩
set_option maxRecDepth 100000 in
theorem CX.updO {base g : Nat} {w w' : World} {v : Value} {l : List Tm} {cs : List Value} {xs : List Nat} (h : CX base w v l cs xs) (hu : Upd g w w') (hg : some g = v.ownBlock) : CX base w' v l cs xs := by
  obtain ⟨ys, hx, hn, hy⟩ := h
  exact ⟨ys, hx.keep (fun t _ => KX.keep t) (fun b hb => hu.block b (hy b hb).2.1 (fun he => (hy b hb).2.2.1 (by rw [he]; exact hg))), hn, fun b hb => ⟨(hy b hb).1, Nat.lt_of_lt_of_le (hy b hb).2.1 hu.size, (hy b hb).2.2⟩⟩
set_option maxRecDepth 100000 in
theorem CX.len {base : Nat} {w : World} {v : Value} {l : List Tm} {cs : List Value} {xs : List Nat} (h : CX base w v l cs xs) : cs.length = l.length * 3 := by
  obtain ⟨ys, hx, _⟩ := h
  exact (hx.tc (F := fun _ => True) (fun t _ => KX.ks t) (fun _ _ => trivial)).len
set_option maxRecDepth 100000 in
theorem CX.push1 {base n lo hi : Nat} {xs : List Nat} {w w1 w' : World} {v v' s : Value} {cs : List Value} {l : List Tm} {x : Tm} (htc : CX base w v l cs xs) (hb1 : Below w.heap.size w w1) (ho : w.ownsRow base 24 3 v n cs) (hs : UX lo hi w1 s x.l) (hlo : w.heap.size ≤ lo) (hhi : hi ≤ w1.heap.size) (hbase : base ≤ w.heap.size)
    (hg9 : w1.grownBy w' v.ownBlock) (hl9 : v'.ownBlock = v.ownBlock ∨ v'.ownBlock = some w1.heap.size) (hg3 : ∀ y ∈ xs, y < w.heap.size) : CX base w' v' (l ++ [x]) (cs ++ tcs x s) xs := by
  obtain ⟨ys, hx, hn, hy⟩ := htc
  obtain ⟨zs, hz, hzn, hzb⟩ := hs
  have own_lt : ∀ b, some b = v.ownBlock → b < w.heap.size := fun b he => (own_block ho he.symm).2
  have s1 := hb1.size
  have s3 := hg9.size
  have ky : ∀ b ∈ ys, w'.heap[b]? = w.heap[b]? := fun b hb => by
    have h1 := (hy b hb).2.1
    rw [hg9.block b (by omega) (hy b hb).2.2.1, hb1.block b h1]
  have hnz : ∀ b ∈ zs, some b ≠ v.ownBlock := fun b hb he => by
    have h1 := own_lt b he
    have h2 := (hzb b hb).1
    omega
  have kz : ∀ b ∈ zs, w'.heap[b]? = w1.heap[b]? := fun b hb => by
    have h1 := (hzb b hb).2
    rw [hg9.block b (by omega) (hnz b hb)]
  have hne9 : ∀ b, b < w1.heap.size → some b ≠ v.ownBlock → some b ≠ v'.ownBlock := fun b h1 h2 => by
    rcases hl9 with h | h
    · rw [h]; exact h2
    · rw [h]; intro he; have := Option.some.inj he; omega
  refine ⟨ys ++ zs, (hx.keep (fun t _ => KX.keep t) ky).snoc ((KX_iff x s zs).2 (hz.keep kz)), List.nodup_append.2 ⟨hn, hzn, fun a ha b hb he => ?_⟩, fun b hb => ?_⟩
  · have h1 := (hy a ha).2.1
    have h2 := (hzb b hb).1
    omega
  · rcases List.mem_append.1 hb with hb' | hb'
    · have h1 := (hy b hb').2.1
      exact ⟨(hy b hb').1, by omega, hne9 b (by omega) (hy b hb').2.2.1, (hy b hb').2.2.2⟩
    · have h1 := hzb b hb'
      exact ⟨by omega, by omega, hne9 b (by omega) (hnz b hb'), fun hm => by have := hg3 b hm; omega⟩
structure PsX (w0 w : World) (pb m : Nat) (A B : List Tm) (v : Value) (cs : List Value) : Prop where
  bel : Below w0.heap.size w0 w
  pnew : w0.heap.size ≤ pb
  mnew : w0.heap.size ≤ m
  row : Row w pb [.map (some m), v] 40
  own : w.ownsRow w0.heap.size 24 3 v B.length cs
  tc : CX w0.heap.size w v B cs [pb, m]
  map : ∃ q, q ≤ A.length ∧ KM Tryd.prog 9 w m q (had A)
set_option maxRecDepth 100000 in
theorem PsX.below {w0 w w' : World} {pb m : Nat} {A B : List Tm} {v : Value} {cs : List Value} (h : PsX w0 w pb m A B v cs) (hb : Below w.heap.size w w') : PsX w0 w' pb m A B v cs := by
  obtain ⟨q, hq, hk⟩ := h.map
  exact ⟨h.bel.trans (hb.mono h.bel.size), h.pnew, h.mnew, h.row.below' hb, own_below h.own hb, h.tc.below hb, ⟨q, hq, hk.below hb⟩⟩
set_option maxRecDepth 100000 in
theorem PsX.ne {w0 w : World} {pb m : Nat} {A B : List Tm} {v : Value} {cs : List Value} (h : PsX w0 w pb m A B v cs) : some pb ≠ v.ownBlock := row_ne_own h.own h.row (by decide)
set_option maxRecDepth 100000 in
theorem PsX.mlt {w0 w : World} {pb m : Nat} {A B : List Tm} {v : Value} {cs : List Value} (h : PsX w0 w pb m A B v cs) : m < w.heap.size := by obtain ⟨q, _, hk⟩ := h.map; exact hk.lt
set_option maxRecDepth 100000 in
theorem PsX.mne {w0 w : World} {pb m : Nat} {A B : List Tm} {v : Value} {cs : List Value} (h : PsX w0 w pb m A B v cs) : some m ≠ v.ownBlock := by
  obtain ⟨q, _, hk⟩ := h.map
  obtain ⟨es, c, hm⟩ := hk.isMap
  exact own_ne_map h.own hm
set_option maxRecDepth 100000 in
theorem PsX.put {w0 w w' : World} {pb m : Nat} {A B : List Tm} {v : Value} {cs : List Value} {t : Tm} {q : Nat} (h : PsX w0 w pb m A B v cs) (hq : q ≤ A.length) (st : KM Tryd.prog 9 w' m (q + 1) (putK (had A) (.string (mkS (txt t))) unitV)) (hu : Upd m w w') : PsX w0 w' pb m (A ++ [t]) B v cs := by
  obtain ⟨q0, _, hk⟩ := h.map
  obtain ⟨es, c, hm⟩ := hk.isMap
  exact ⟨below_upd h.bel hu h.mnew h.bel.size, h.pnew, h.mnew, hu.row h.row (row_ne_map h.row hm), own_updN h.own hu h.mne, h.tc.upd hu (by simp), ⟨q + 1, by rw [List.length_append, List.length_singleton]; omega, st.same (had_put A t)⟩⟩
structure PmX (w0 w : World) (pb m : Nat) (A B : List Tm) (t : Tm) (s v0 v : Value) (cs : List Value) (e q : Bool) : Prop where
  bel : Below w0.heap.size w0 w
  pnew : w0.heap.size ≤ pb
  mnew : w0.heap.size ≤ m
  row : Row w pb [.map (some m), if q then v else v0] 40
  own : w.ownsRow w0.heap.size 24 3 v (B.length + 1) (cs ++ if e then tcs t s else [.int .i64 0, .int .i64 0, .slice none 0 0])
  tc : CX w0.heap.size w v (B ++ [t]) (cs ++ tcs t s) [pb, m]
  len : cs.length = B.length * 3
  map : ∃ q, q ≤ A.length ∧ KM Tryd.prog 9 w m q (had A)
set_option maxRecDepth 100000 in
theorem PsX.push {w0 w w1 w' : World} {pb m : Nat} {A B : List Tm} {v v' : Value} {cs : List Value} {t : Tm} {s : Value} {lo hi : Nat} (h : PsX w0 w pb m A B v cs) (hb : Below w.heap.size w w1) (hs : UX lo hi w1 s t.l) (hlo : w.heap.size ≤ lo) (hhi : hi ≤ w1.heap.size)
    (ho : w'.ownsRow w0.heap.size 24 3 v' (B.length + 1) (cs ++ [.int .i64 0, .int .i64 0, .slice none 0 0])) (hg : w1.grownBy w' v.ownBlock) (hv : v'.ownBlock = v.ownBlock ∨ v'.ownBlock = some w1.heap.size) : PmX w0 w' pb m A B t s v v' cs false false := by
  have h1 := h.below hb
  obtain ⟨q, hq, hk⟩ := h1.map
  exact ⟨below_grown h1.bel h1.bel.size h1.own hg, h.pnew, h.mnew, row_grownN h1.row h1.ne hg, ho, h.tc.push1 hb h.own hs hlo hhi h.bel.size hg hv (fun x hx => by simp only [List.mem_cons, List.not_mem_nil, or_false] at hx; rcases hx with rfl | rfl; exact h.row.lt; exact h.mlt), h.tc.len, ⟨q, hq, hk.keep (hg.block m h1.mlt h1.mne)⟩⟩
set_option maxRecDepth 100000 in
theorem PmX.ne {w0 w : World} {pb m : Nat} {A B : List Tm} {t : Tm} {s v0 v : Value} {cs : List Value} {e q : Bool} (h : PmX w0 w pb m A B t s v0 v cs e q) : some pb ≠ v.ownBlock := row_ne_own h.own h.row (by decide)
set_option maxRecDepth 100000 in
theorem PmX.elt {w0 w w' : World} {pb m b c : Nat} {A B : List Tm} {t : Tm} {s v0 : Value} {cs : List Value} {q : Bool} (h : PmX w0 w pb m A B t s v0 (.slice (some ⟨b, 0, none⟩) (B.length + 1) c) cs false q) (hu : Upd b w w') (ho : w'.ownsRow w0.heap.size 24 3 (.slice (some ⟨b, 0, none⟩) (B.length + 1) c) (B.length + 1) (cs ++ tcs t s)) : PmX w0 w' pb m A B t s v0 (.slice (some ⟨b, 0, none⟩) (B.length + 1) c) cs true q := by
  obtain ⟨q', hq, hk⟩ := h.map
  obtain ⟨es, cc, hm⟩ := hk.isMap
  have hbl := own_block h.own (show (Value.slice (some ⟨b, 0, none⟩) (B.length + 1) c).ownBlock = some b from rfl)
  have hmb : m ≠ b := fun he => own_ne_map h.own hm (by rw [he]; rfl)
  exact ⟨below_upd h.bel hu hbl.1 h.bel.size, h.pnew, h.mnew, hu.row h.row (fun he => h.ne (by rw [he]; rfl)), ho, h.tc.updO hu rfl, h.len, ⟨q', hq, hk.upd hu (fun he => hmb he.symm)⟩⟩
set_option maxRecDepth 100000 in
theorem PmX.ptr {w0 w w' : World} {pb m : Nat} {A B : List Tm} {t : Tm} {s v0 v : Value} {cs : List Value} {e : Bool} (h : PmX w0 w pb m A B t s v0 v cs e false) (hu : Upd pb w w') (hr : Row w' pb [.map (some m), v] 40) : PmX w0 w' pb m A B t s v0 v cs e true := by
  obtain ⟨q', hq, hk⟩ := h.map
  obtain ⟨es, cc, hm⟩ := hk.isMap
  exact ⟨below_upd h.bel hu h.pnew h.bel.size, h.pnew, h.mnew, hr, own_updN h.own hu h.ne, h.tc.upd hu (by simp), h.len, ⟨q', hq, hk.upd hu (row_ne_map h.row hm)⟩⟩
set_option maxRecDepth 100000 in
theorem PmX.done {w0 w : World} {pb m : Nat} {A B : List Tm} {t : Tm} {s v0 v : Value} {cs : List Value} (h : PmX w0 w pb m A B t s v0 v cs true true) : PsX w0 w pb m A (B ++ [t]) v (cs ++ tcs t s) :=
  ⟨h.bel, h.pnew, h.mnew, h.row, by rw [List.length_append, List.length_singleton]; exact h.own, h.tc, h.map⟩
set_option maxRecDepth 100000 in
theorem look_yesX {w0 w : World} {pb m : Nat} {acc : List Tm} {v : Value} {cs : List Value} {t : Tm} (h : PsX w0 w pb m acc acc v cs) (hz : (txt t).length ≤ 10000) (hin : inL acc t = true) : (Instr.lookup 38 (.map (some m)) (.string (mkS (txt t))) true).run Tryd.prog w = .ok (.tuple #[unitV, .bool true]) w := by
  obtain ⟨q, _, hk⟩ := h.map
  obtain ⟨kl, hkl⟩ := str_of (mkS (txt t)) (by rw [mkS_size]; exact hz)
  exact hk.look str_key un_hmap (zero_unit w) hkl (had_yes hin)
set_option maxRecDepth 100000 in
theorem look_noX {w0 w : World} {pb m : Nat} {acc : List Tm} {v : Value} {cs : List Value} {t : Tm} (h : PsX w0 w pb m acc acc v cs) (hz : (txt t).length ≤ 10000) (hin : inL acc t = false) : (Instr.lookup 38 (.map (some m)) (.string (mkS (txt t))) true).run Tryd.prog w = .ok (.tuple #[unitV, .bool false]) w := by
  obtain ⟨q, _, hk⟩ := h.map
  obtain ⟨kl, hkl⟩ := str_of (mkS (txt t)) (by rw [mkS_size]; exact hz)
  exact hk.lookNo str_key un_hmap (zero_unit w) hkl (had_no hin)
set_option maxHeartbeats 2000000 in
set_option maxRecDepth 100000 in
theorem add_hadX (t : Tm) (p : Option Addr) (n cap : Nat) (w0 : World) (pb m : Nat) (v : Value) (cs : List Value) (acc : List Tm) (w : World) (hc : cnt t ≤ 100) (hok : okT t = true) (hs : SlT (fun b => b < w0.heap.size) w (.slice p n cap) t.l) (hps : PsX w0 w pb m acc acc v cs) (hin : inL acc t = true) :
    Calls Tryd.prog 16 #[.pointer (some ⟨pb, 0, none⟩), .agg (tcs t (.slice p n cap)).toArray] w fun e w' => e = .returned (.tuple #[]) ∧ PsX w0 w' pb m acc acc v cs := by
  have HPS : Hid (PsX w0 w pb m acc acc v cs) := hps
  have HTX : Hid (∀ W, Below w.heap.size w W → Calls Tryd.prog 23 #[.agg (tcs t (.slice p n cap)).toArray] W fun e w' => e = .returned (.string (mkS (txt t))) ∧ Below W.heap.size W w') := fun W hW => text_any t _ W hc hok (hs.below hW)
  have HTZ : Hid ((txt t).length ≤ 10000) := by show _ ≤ _; have := txt_len t hok; omega
  have HLK : Hid (∀ W, Below w.heap.size w W → (Instr.lookup 38 (.map (some m)) (.string (mkS (txt t))) true).run Tryd.prog W = .ok (.tuple #[unitV, .bool true]) W) := fun W hW => look_yesX (hps.below hW) HTZ.out hin
  have hm := Mem.start w
  clear hps hin hc hok hs
  go_enter Tryd.func16, Tryd.ntmps16
  go_wp2_with (first
    | ((with_reducible refine at_op (some 3) (.box 24 (.tmp 1)) ?_); go_must (refine wpl_box (tcs t (.slice p n cap)) rfl hm ?_); clear hm; intro w1 g3 hm)
    | ((with_reducible refine at_op (some 9) (.load 24 (.tmp 3)) ?_); go_must (refine wpl_ldw 0 hm rfl rfl _ Tryd.underlying24 rfl 3 sz_term rfl ?_))
    | (go_at_call 23; go_must (refine (HTX.out _ hm.below).mono ?_); rintro e w2 ⟨he, hb⟩; subst he; replace hm := hm.call hb; clear hb)
    | ((with_reducible refine at_op (some 15) (.load 38 (.tmp 14)) ?_); go_must (refine wpl_execG (.map (some m)) rfl (exec_ldx (.map (some m)) ((HPS.out.below hm.below).row.cell 0) rfl ag_hmap) ?_))
    | ((with_reducible refine at_op (some 17) (.lookup 38 (.tmp 15) (.tmp 16) true) ?_); go_must (refine wpl_execG (.tuple #[unitV, .bool true]) rfl (exec_look (HLK.out _ hm.below) rfl rfl) ?_))
    | ((with_reducible refine at_op (some 5) (.alloc 62) ?_); go_must (refine wpl_alloc _ zero_unit hm ?_); clear hm; intro w3 g5 hm)
    | ((with_reducible refine at_op none (.store 62 (.tmp 5) (.tmp 18)) ?_); go_must (refine wpl_stw 0 [] hm rfl rfl rfl 0 sz_unit rfl rfl (by intro v hv; cases hv) ?_); clear hm; intro w4 hm))
  refine bodyPost_ret (results_none rfl _ _ _) rfl ?_
  exact ⟨rfl, HPS.out.below hm.below⟩
set_option maxHeartbeats 16000000 in
set_option maxRecDepth 100000 in
theorem add_anyX (t : Tm) : ∀ (s : Value) (w0 : World) (pb m : Nat) (v : Value) (cs : List Value) (acc : List Tm) (w : World), cnt t ≤ 100 → okT t = true → acc.length + cnt t ≤ 200 → SlT (fun b => b < w0.heap.size) w s t.l → PsX w0 w pb m acc acc v cs →
    Calls Tryd.prog 16 #[.pointer (some ⟨pb, 0, none⟩), .agg (tcs t s).toArray] w fun e w' => e = .returned (.tuple #[]) ∧ ∃ v' cs', PsX w0 w' pb m (addP t acc) (addP t acc) v' cs' := by
  induction t using Tm.ind with
  | h t ih =>
  intro s w0 pb m v cs acc w hc hok hl hs hps
  obtain ⟨p, cap, rfl, hcap⟩ := hs.len
  obtain ⟨n, hnl⟩ : ∃ n, n = t.l.length := ⟨_, rfl⟩
  rw [← hnl] at hs ⊢
  cases hin : inL acc t with
  | true =>
    refine (add_hadX t p n cap w0 pb m v cs acc w hc hok hs hps hin).mono ?_
    rintro e w' ⟨he, h⟩
    refine ⟨he, v, cs, ?_⟩
    rw [addP_eq, hin, if_pos rfl]
    exact h
  | false =>
    obtain ⟨pv, cv, hvv, _⟩ := SlV.len (own_sl hps.own)
    have HVV : Hid (∀ _ : Unit, v = .slice pv acc.length cv) := fun _ => hvv
    clear hvv
    have HIH : Hid _ := ih
    have HN : Hid (∀ _ : Unit, n = t.l.length) := fun _ => hnl
    have HS : Hid (SlT (fun b => b < w0.heap.size) w (.slice p n cap) t.l) := hs
    have HSW : Hid (∀ W, Below w0.heap.size w0 W → SlT (fun b => b < w0.heap.size) W (.slice p n cap) t.l) := fun W hW => hs.keep (fun b hb => ⟨hb, fun o u h => by rw [World.cell?_of_block (w := w) ((hW.block b hb).trans (hps.bel.block b hb).symm)]; exact h⟩)
    have HC : Hid (cnt t ≤ 100) := hc
    have HOK : Hid (okT t = true) := hok
    have HLA : Hid (acc.length + cnt t ≤ 200) := hl
    have HR : Hid (∀ _ : Unit, addP t acc = addK t.l (acc ++ [t])) := fun _ => by rw [addP_eq, hin, if_neg (by decide)]
    have HCP : Hid (∀ W, Below w.heap.size w W → Calls Tryd.prog 26 #[.agg (tcs t (.slice p n cap)).toArray] W fun e w' => ∃ s', e = .returned (.agg (tcs t s').toArray) ∧ UX W.heap.size w'.heap.size w' s' t.l ∧ Below W.heap.size W w') := fun W hW => copiedX_any t _ W hc (hs.below hW)
    have hl4 : acc.length ≤ 100000 := by omega
    have hn100 : n < 100 := by
      have h1 := sum_ge (l := t.l) (k := t.l.length) (Nat.le_refl _)
      rw [List.take_length] at h1
      have h2 := cnt_eq t
      omega
    have HPS : Hid (PsX w0 w pb m acc acc v cs) := hps
    have HTX : Hid (∀ W, Below w.heap.size w W → Calls Tryd.prog 23 #[.agg (tcs t (.slice p n cap)).toArray] W fun e w' => e = .returned (.string (mkS (txt t))) ∧ Below W.heap.size W w') := fun W hW => text_any t _ W hc hok (hs.below hW)
    have HTZ : Hid ((txt t).length ≤ 10000) := by show _ ≤ _; have := txt_len t hok; omega
    have HLK : Hid (∀ W, Below w.heap.size w W → (Instr.lookup 38 (.map (some m)) (.string (mkS (txt t))) true).run Tryd.prog W = .ok (.tuple #[unitV, .bool false]) W) := fun W hW => look_noX (hps.below hW) HTZ.out hin
    have hm := Mem.start w
    clear ih hps hin hc hok hs hl hnl hcap
    go_enter Tryd.func16, Tryd.ntmps16
    go_wp2_with (first
      | ((with_reducible refine at_op (some 3) (.box 24 (.tmp 1)) ?_); go_must (refine wpl_box (tcs t (.slice p n cap)) rfl hm ?_); clear hm; intro w1 g3 hm)
      | ((with_reducible refine at_op (some 9) (.load 24 (.tmp 3)) ?_); go_must (refine wpl_ldw 0 hm rfl rfl _ Tryd.underlying24 rfl 3 sz_term rfl ?_))
      | (go_at_call 23; go_must (refine (HTX.out _ hm.below).mono ?_); rintro e w2 ⟨he, hb⟩; subst he; replace hm := hm.call hb; clear hb)
      | ((with_reducible refine at_op (some 15) (.load 38 (.tmp 14)) ?_); go_must (refine wpl_execG (.map (some m)) rfl (exec_ldx (.map (some m)) ((HPS.out.below hm.below).row.cell 0) rfl ag_hmap) ?_))
      | ((with_reducible refine at_op (some 17) (.lookup 38 (.tmp 15) (.tmp 16) true) ?_); go_must (refine wpl_execG (.tuple #[unitV, .bool false]) rfl (exec_look (HLK.out _ hm.below) rfl rfl) ?_))
      | ((with_reducible refine at_op (some 5) (.alloc 62) ?_); go_must (refine wpl_alloc _ zero_unit hm ?_); clear hm; intro w3 g5 hm)
      | ((with_reducible refine at_op none (.store 62 (.tmp 5) (.tmp 18)) ?_); go_must (refine wpl_stw 0 [] hm rfl rfl rfl 0 sz_unit rfl rfl (by intro v hv; cases hv) ?_); clear hm; intro w4 hm)
      | ((with_reducible refine at_op (some 24) (.load 38 (.tmp 23)) ?_); go_must (refine wpl_execG (.map (some m)) rfl (exec_ldx (.map (some m)) ((HPS.out.below hm.below).row.cell 0) rfl ag_hmap) ?_))
      | ((with_reducible refine at_op none (.mapUpdate 38 (.tmp 24) (.tmp 25) (.tmp 26)) ?_); have hps4 := HPS.out.below hm.below; obtain ⟨kl0, hkl0⟩ := str_of (mkS (txt t)) (by rw [mkS_size]; exact HTZ.out); obtain ⟨q4, hq4, hk4⟩ := hps4.map; go_must (refine wpl_kmPut hk4 str_key un_hmap (by omega) hkl0 rfl rfl rfl ?_); intro w5 st5 hu5; have HPS5 : Hid (PsX w0 w5 pb m (acc ++ [t]) acc v cs) := hps4.put hq4 st5 hu5; obtain ⟨es4, cc4, hmp4⟩ := hk4.isMap; have HR35 : Hid (Row w5 g3 (tcs t (.slice p n cap)) 24) := hu5.row (hm.get 1 rfl) (row_ne_map (hm.get 1 rfl) hmp4); have HNE3 : Hid (some g3 ≠ v.ownBlock) := fun he => (by have h1 := (own_block HPS.out.own he.symm).2; have h2 := hm.fresh (g3, _, _) (List.mem_cons_of_mem _ (List.mem_cons_self ..)); simp only [List.not_mem_nil, false_or] at h2; omega); have HN3P : Hid (g3 ≠ pb) := fun he => (by have h1 := HPS.out.row.lt; have h2 := hm.fresh (g3, _, _) (List.mem_cons_of_mem _ (List.mem_cons_self ..)); simp only [List.not_mem_nil, false_or] at h2; omega); have HCP5 : Hid (∀ W, Below w5.heap.size w5 W → Calls Tryd.prog 26 #[.agg (tcs t (.slice p n cap)).toArray] W fun e w' => ∃ s', e = .returned (.agg (tcs t s').toArray) ∧ UX W.heap.size w'.heap.size w' s' t.l ∧ Below W.heap.size W w') := fun W hW => copiedX_any t _ W HC.out (HSW.out W (HPS5.out.bel.trans (hW.mono HPS5.out.bel.size))); clear hm hps4 hk4 hq4 st5 hu5 hkl0 hmp4; have hm := Mem.start w5))
    refine wp_ends0 ?_
    refine anyC_start (T := fun W => Row W pb [.map (some m), v] 40 ∧ Row W g3 (tcs t (.slice p n cap)) 24) (T2 := fun _ => True) 8 (by kernel_rfl) hm ?_
    clear hm
    intro wc hm
    have hT : Row wc pb [.map (some m), v] 40 ∧ Row wc g3 (tcs t (.slice p n cap)) 24 := ⟨HPS5.out.row.below' hm.below, HR35.out.below' hm.below⟩
    have HBC : Hid (Below w5.heap.size w5 wc) := hm.below
    refine anyC_pure 0 (v := .pointer (some ⟨pb, 0, none⟩)) rfl (by kernel_rfl) (by kernel_rfl) (by kernel_rfl) rfl rfl (fun W _ => by go_simp) hT ?_
    go_simp
    refine anyC_pure 1 (v := .pointer (some ⟨pb, 0, none⟩)) rfl (by kernel_rfl) (by kernel_rfl) (by kernel_rfl) rfl rfl (fun W _ => by go_simp) hT ?_
    go_simp
    refine anyC_pure 2 (v := .pointer (some ⟨pb, 1, none⟩)) rfl (by kernel_rfl) (by kernel_rfl) (by kernel_rfl) rfl rfl (fun W _ => by go_simp) hT ?_
    go_simp
    refine anyC_load 3 (v := v) rfl (by kernel_rfl) (by kernel_rfl) (by kernel_rfl) rfl rfl (by kernel_rfl) rfl (fun W hW => exec_ldx v (hW.1.cell 1) rfl ag_terms) hT ?_
    go_simp
    refine anyC_load 4 (v := .agg (tcs t (.slice p n cap)).toArray) rfl (by kernel_rfl) (by kernel_rfl) (by kernel_rfl) rfl rfl (by kernel_rfl) rfl (fun W hW => exec_ldsG 0 (tcs t (.slice p n cap)) hW.2 rfl _ Tryd.underlying24 rfl 3 sz_term (Nat.le_refl _) rfl) hT ?_
    go_simp
    refine anyC_pure 6 (v := .int .i64 (acc.length : Int)) rfl (by kernel_rfl) (by kernel_rfl) (by kernel_rfl) rfl rfl (fun W _ => len_of un_terms (HVV.out ()) rfl) hT ?_
    go_simp
    refine anyC_all [5, 7] (by kernel_rfl) (by simp) ?_
    intro i hi
    simp only [List.mem_cons, List.not_mem_nil, or_false] at hi
    rcases hi with rfl | rfl
    · refine ⟨by decide, _, rfl, rfl, ?_⟩
      intro K hK
      go_wp2_with (go_at_call 26; refine (HCP5.out _ HBC.out).mono ?_; rintro e w6 ⟨s6, he, hs6, hb⟩; subst he; have HS6 : Hid (UX wc.heap.size w6.heap.size w6 s6 t.l) := hs6; obtain ⟨p6, c6, hv6, _⟩ := hs6.len; subst hv6; have hT6 : Row w6 pb [.map (some m), v] 40 ∧ Row w6 g3 (tcs t (.slice p n cap)) 24 := ⟨hT.1.below' hb, hT.2.below' hb⟩; have HB6 : Hid (Below wc.heap.size wc w6) := hb; clear hb hs6 hm hT)
      refine hK _ _ hT6 ?_
      clear hK K
      have hm := Mem.start w6
      go_simp
      refine anyC_one 7 (by kernel_rfl) rfl rfl rfl ?_
      intro K hK
      refine wpl_bslZ rfl hm ?_
      clear hm
      intro wz g7 hb7 hm
      have hTz : Row wz pb [.map (some m), v] 40 ∧ Row wz g3 (tcs t (.slice p n cap)) 24 := ⟨hT6.1.below' hb7, hT6.2.below' hb7⟩
      have HSS : Hid (UX wc.heap.size wz.heap.size wz (.slice p6 t.l.length c6) t.l) := (HS6.out.below hb7).weak (fun b hb => ⟨hb.1, Nat.lt_of_lt_of_le hb.2 hb7.size⟩)
      have HBZ : Hid (Below w5.heap.size w5 wz) := (HBC.out.trans (HB6.out.mono HBC.out.size)).trans (hb7.mono (Nat.le_trans HBC.out.size HB6.out.size))
      have HZR : Hid (Row wz g7 [.int .i64 0, .int .i64 0, .slice none 0 0] 24) := hm.get 0 rfl
      have HLO : Hid (w5.heap.size ≤ wc.heap.size) := HBC.out.size
      clear hT6 hb7 hm HS6 HB6
      refine wpList_nil ?_
      refine hK _ _ hTz ?_
      clear hK K
      go_simp
      refine anyC_turn (by kernel_rfl) rfl rfl ?_
      intro K hK
      refine wpl_appV (.agg [.int .i64 0, .int .i64 0, .slice none 0 0].toArray) 3 40 rfl un_terms made_term rfl (by omega) (by omega) (own_below HPS5.out.own HBZ.out) (Nat.le_trans HPS5.out.bel.size HBZ.out.size) rfl rfl HZR.out rfl (by intro v hv; simp only [List.mem_cons, List.not_mem_nil, or_false] at hv; rcases hv with rfl | rfl | rfl <;> rfl) hl4 ?_
      intro v9 w9 ho9 hg9 hl9
      have HPM : Hid (PmX w0 w9 pb m (acc ++ [t]) acc t (.slice p6 t.l.length c6) v v9 cs false false) := HPS5.out.push HBZ.out HSS.out HLO.out (Nat.le_refl _) ho9 hg9 hl9
      obtain ⟨b9, c9, hv9⟩ := own_form ho9
      subst hv9
      have HR39 : Hid (Row w9 g3 (tcs t (.slice p n cap)) 24) := row_grownN hTz.2 HNE3.out hg9
      have HN39 : Hid (g3 ≠ b9) := ne_blk HNE3.out hl9 hTz.2.lt
      clear ho9 hg9 hl9 hTz
      refine wpList_nil ?_
      refine hK _ _ trivial ?_
      clear hK K
      have hT : True := trivial
      go_simp
      refine anyH_take 9 (v := .pointer (some ⟨b9, acc.length * 3, none⟩)) rfl (by kernel_rfl) (by kernel_rfl) (by kernel_rfl) rfl (fun W _ => exec_ixT0 acc.length rfl rfl rfl (Nat.lt_succ_self _)) hT ?_
      go_simp
      refine anyH_take 11 (v := .pointer (some ⟨pb, 0, none⟩)) rfl (by kernel_rfl) (by kernel_rfl) (by kernel_rfl) rfl (fun W _ => by go_simp) hT ?_
      go_simp
      refine anyH_take 12 (v := .pointer (some ⟨pb, 1, none⟩)) rfl (by kernel_rfl) (by kernel_rfl) (by kernel_rfl) rfl (fun W _ => by go_simp) hT ?_
      go_simp
      refine wpAnyH_all (rs := [10, 13]) (by kernel_rfl) (by simp) ?_
      intro i hi
      simp only [List.mem_cons, List.not_mem_nil, or_false] at hi
      rcases hi with rfl | rfl
      · refine anyH_op 10 rfl rfl ?_
        intro K hK
        refine wpl_stOwn HPM.out.own HPM.out.len rfl rfl ?_
        intro w10 hu ho
        have HPM1 : Hid (PmX w0 w10 pb m (acc ++ [t]) acc t (.slice p6 t.l.length c6) v (.slice (some ⟨b9, 0, none⟩) (acc.length + 1) c9) cs true _) := HPM.out.elt hu ho
        have HR3w10 : Hid (Row w10 g3 (tcs t (.slice p n cap)) 24) := hu.row HR39.out HN39.out
        clear hu ho
        refine wpList_nil ?_
        refine hK _ _ trivial ?_
        clear hK K
        refine wpAnyH_all (rs := [13]) (by kernel_rfl) (by simp) ?_
        intro i hi
        simp only [List.mem_cons, List.not_mem_nil, or_false] at hi
        subst hi
        refine anyH_op 13 rfl rfl ?_
        intro K hK
        refine wpl_stcU 0 1 (.slice (some ⟨b9, 0, none⟩) (acc.length + 1) c9) (Mem.enter HPM1.out.row) rfl rfl rfl sz_terms (by show 1 < 2; omega) rfl rfl ?_
        intro w11 hu hm9
        have HPM2 : Hid (PmX w0 w11 pb m (acc ++ [t]) acc t (.slice p6 t.l.length c6) v (.slice (some ⟨b9, 0, none⟩) (acc.length + 1) c9) cs _ true) := HPM1.out.ptr hu (hm9.get 0 rfl)
        have HR3w11 : Hid (Row w11 g3 (tcs t (.slice p n cap)) 24) := hu.row HR3w10.out HN3P.out
        clear hu hm9
        refine wpList_nil ?_
        refine hK _ _ trivial ?_
        clear hK K
        refine wpAnyH_done (by kernel_rfl) ?_ _
        simp only [endsIn]
        have HPSZ : Hid (PsX w0 w11 pb m (acc ++ [t]) (acc ++ [t]) (.slice (some ⟨b9, 0, none⟩) (acc.length + 1) c9) (cs ++ tcs t (.slice p6 t.l.length c6))) := HPM2.out.done
        have hm := Mem.enter HR3w11.out
        clear HPM HPM1 HPM2 HR39 HR3w10
        go_wp2_with (first
          | ((with_reducible refine at_op (some 40) (.load 22 (.tmp 39)) ?_); go_must (refine wpl_execG (.slice p n cap) rfl (exec_ldx (.slice p n cap) (Mem.cell hm 0 rfl 2) rfl ag_terms) ?_)))
        clear hm
        go_loopw [42] (fun vi wr => ∃ (k : Nat) (vb : Value) (cs' : List Value), k ≤ n ∧ vi = .int .i64 (k : Int) ∧ Hid (PsX w0 wr pb m (addK (t.l.take k) (acc ++ [t])) (addK (t.l.take k) (acc ++ [t])) vb cs')) (fun vi _ => n - (intOf vi).toNat)
        case atStart => exact ⟨0, _, _, by omega, rfl, HPSZ.out⟩
        case round =>
          clear HPSZ
          obtain ⟨k, vb, cs', hk, rfl, HPK⟩ := hrel
          by_cases hlt : k < n
          · have hki : (k : Int) < (n : Int) := by omega
            obtain ⟨b, o, rfl⟩ := HS.out.at (show 0 < n by omega)
            obtain ⟨x, hx⟩ := get_of (HN.out ()) hlt
            obtain ⟨px, mx, cx, c0, c1, c2, hmx, hsx⟩ := (HSW.out wr HPK.out.bel).cells hx
            have HMX : Hid (x ∈ t.l) := List.mem_of_getElem? hx
            have HCX : Hid (cnt x ≤ 100) := by show _ ≤ _; have := cnt_lt HMX.out; have := HC.out; omega
            have HX2 : Hid (SlT (fun b => b < w0.heap.size) wr (.slice px mx cx) x.l) := hsx
            have HAK : Hid (∀ _ : Unit, addK (t.l.take (k + 1)) (acc ++ [t]) = addP x (addK (t.l.take k) (acc ++ [t]))) := fun _ => addK_snoc hx _
            have HLX : Hid ((addK (t.l.take k) (acc ++ [t])).length + cnt x ≤ 200) := by
              show _ ≤ _
              have h1 := addK_len (t.l.take k) (acc ++ [t])
              rw [List.length_append, List.length_singleton] at h1
              have h2 := sum_take hx
              have h3 := sum_all_le t.l (k + 1)
              have h4 := cnt_eq t
              have h5 := HLA.out
              omega
            have HCALL : Hid (∀ W, Below wr.heap.size wr W → Calls Tryd.prog 16 #[.pointer (some ⟨pb, 0, none⟩), .agg (tcs x (.slice px mx cx)).toArray] W fun e w' => e = .returned (.tuple #[]) ∧ ∃ v' cs', PsX w0 w' pb m (addP x (addK (t.l.take k) (acc ++ [t]))) (addP x (addK (t.l.take k) (acc ++ [t]))) v' cs') := fun W hW => HIH.out x HMX.out (.slice px mx cx) w0 pb m vb cs' _ W HCX.out (okT_kid HOK.out HMX.out) HLX.out (HX2.out.below hW) (HPK.out.below hW)
            have hm := Mem.start wr
            clear hsx hx hmx HX2
            go_wp2_with (first
              | ((with_reducible refine at_op (some 44) (.indexAddr 22 (.tmp 40) (.tmp 42)) ?_); go_must (refine wpl_execG (.pointer (some ⟨b, o + k * 3, none⟩)) rfl (exec_ixT k rfl rfl rfl hlt) ?_))
              | ((with_reducible refine at_op (some 45) (.load 24 (.tmp 44)) ?_); go_must (refine wpl_execG (.agg (tcs x (.slice px mx cx)).toArray) rfl (exec_ldT rfl c0 c1 c2) ?_))
              | ((with_reducible refine at_op (some 8) (.alloc 24) ?_); go_must (refine wpl_alloc _ zero_term hm ?_); clear hm; intro w12 g8 hm)
              | ((with_reducible refine at_op none (.store 24 (.tmp 8) (.tmp 45)) ?_); go_must (refine wpl_stw 0 (tcs x (.slice px mx cx)) hm rfl rfl rfl 3 sz_term rfl rfl (oneTcs _ _ _ _) ?_); clear hm; intro w13 hm)
              | ((with_reducible refine at_op (some 47) (.load 24 (.tmp 8)) ?_); go_must (refine wpl_ldw 0 hm rfl rfl _ Tryd.underlying24 rfl 3 sz_term rfl ?_))
              | (go_at_call 16; go_must (refine (HCALL.out _ hm.below).mono ?_); rintro e w14 ⟨he, vN, csN, hN⟩; subst he; have HPN : Hid (PsX w0 w14 pb m (addP x (addK (t.l.take k) (acc ++ [t]))) (addP x (addK (t.l.take k) (acc ++ [t]))) vN csN) := hN; clear hN))
            go_roundw
            case rel => exact ⟨k + 1, _, _, by omega, by go_num, by rw [HAK.out ()]; exact HPN.out⟩
            case measure => simp [intOf]; omega
          · have hkn : n = k := by omega
            subst hkn
            have hni : ¬ (n : Int) < (n : Int) := by omega
            have HTK : Hid (∀ _ : Unit, t.l.take n = t.l) := fun _ => by rw [HN.out (), List.take_length]
            go_wp2_with fail
            go_end0
            exact ⟨rfl, _, _, by rw [HR.out (), ← HTK.out ()]; exact HPK.out⟩
      · refine anyH_op 13 rfl rfl ?_
        intro K hK
        refine wpl_stcU 0 1 (.slice (some ⟨b9, 0, none⟩) (acc.length + 1) c9) (Mem.enter HPM.out.row) rfl rfl rfl sz_terms (by show 1 < 2; omega) rfl rfl ?_
        intro w10 hu hm9
        have HPM1 : Hid (PmX w0 w10 pb m (acc ++ [t]) acc t (.slice p6 t.l.length c6) v (.slice (some ⟨b9, 0, none⟩) (acc.length + 1) c9) cs _ true) := HPM.out.ptr hu (hm9.get 0 rfl)
        have HR3w10 : Hid (Row w10 g3 (tcs t (.slice p n cap)) 24) := hu.row HR39.out HN3P.out
        clear hu hm9
        refine wpList_nil ?_
        refine hK _ _ trivial ?_
        clear hK K
        refine wpAnyH_all (rs := [10]) (by kernel_rfl) (by simp) ?_
        intro i hi
        simp only [List.mem_cons, List.not_mem_nil, or_false] at hi
        subst hi
        refine anyH_op 10 rfl rfl ?_
        intro K hK
        refine wpl_stOwn HPM1.out.own HPM1.out.len rfl rfl ?_
        intro w11 hu ho
        have HPM2 : Hid (PmX w0 w11 pb m (acc ++ [t]) acc t (.slice p6 t.l.length c6) v (.slice (some ⟨b9, 0, none⟩) (acc.length + 1) c9) cs true _) := HPM1.out.elt hu ho
        have HR3w11 : Hid (Row w11 g3 (tcs t (.slice p n cap)) 24) := hu.row HR3w10.out HN39.out
        clear hu ho
        refine wpList_nil ?_
        refine hK _ _ trivial ?_
        clear hK K
        refine wpAnyH_done (by kernel_rfl) ?_ _
        simp only [endsIn]
        have HPSZ : Hid (PsX w0 w11 pb m (acc ++ [t]) (acc ++ [t]) (.slice (some ⟨b9, 0, none⟩) (acc.length + 1) c9) (cs ++ tcs t (.slice p6 t.l.length c6))) := HPM2.out.done
        have hm := Mem.enter HR3w11.out
        clear HPM HPM1 HPM2 HR39 HR3w10
        go_wp2_with (first
          | ((with_reducible refine at_op (some 40) (.load 22 (.tmp 39)) ?_); go_must (refine wpl_execG (.slice p n cap) rfl (exec_ldx (.slice p n cap) (Mem.cell hm 0 rfl 2) rfl ag_terms) ?_)))
        clear hm
        go_loopw [42] (fun vi wr => ∃ (k : Nat) (vb : Value) (cs' : List Value), k ≤ n ∧ vi = .int .i64 (k : Int) ∧ Hid (PsX w0 wr pb m (addK (t.l.take k) (acc ++ [t])) (addK (t.l.take k) (acc ++ [t])) vb cs')) (fun vi _ => n - (intOf vi).toNat)
        case atStart => exact ⟨0, _, _, by omega, rfl, HPSZ.out⟩
        case round =>
          clear HPSZ
          obtain ⟨k, vb, cs', hk, rfl, HPK⟩ := hrel
          by_cases hlt : k < n
          · have hki : (k : Int) < (n : Int) := by omega
            obtain ⟨b, o, rfl⟩ := HS.out.at (show 0 < n by omega)
            obtain ⟨x, hx⟩ := get_of (HN.out ()) hlt
            obtain ⟨px, mx, cx, c0, c1, c2, hmx, hsx⟩ := (HSW.out wr HPK.out.bel).cells hx
            have HMX : Hid (x ∈ t.l) := List.mem_of_getElem? hx
            have HCX : Hid (cnt x ≤ 100) := by show _ ≤ _; have := cnt_lt HMX.out; have := HC.out; omega
            have HX2 : Hid (SlT (fun b => b < w0.heap.size) wr (.slice px mx cx) x.l) := hsx
            have HAK : Hid (∀ _ : Unit, addK (t.l.take (k + 1)) (acc ++ [t]) = addP x (addK (t.l.take k) (acc ++ [t]))) := fun _ => addK_snoc hx _
            have HLX : Hid ((addK (t.l.take k) (acc ++ [t])).length + cnt x ≤ 200) := by
              show _ ≤ _
              have h1 := addK_len (t.l.take k) (acc ++ [t])
              rw [List.length_append, List.length_singleton] at h1
              have h2 := sum_take hx
              have h3 := sum_all_le t.l (k + 1)
              have h4 := cnt_eq t
              have h5 := HLA.out
              omega
            have HCALL : Hid (∀ W, Below wr.heap.size wr W → Calls Tryd.prog 16 #[.pointer (some ⟨pb, 0, none⟩), .agg (tcs x (.slice px mx cx)).toArray] W fun e w' => e = .returned (.tuple #[]) ∧ ∃ v' cs', PsX w0 w' pb m (addP x (addK (t.l.take k) (acc ++ [t]))) (addP x (addK (t.l.take k) (acc ++ [t]))) v' cs') := fun W hW => HIH.out x HMX.out (.slice px mx cx) w0 pb m vb cs' _ W HCX.out (okT_kid HOK.out HMX.out) HLX.out (HX2.out.below hW) (HPK.out.below hW)
            have hm := Mem.start wr
            clear hsx hx hmx HX2
            go_wp2_with (first
              | ((with_reducible refine at_op (some 44) (.indexAddr 22 (.tmp 40) (.tmp 42)) ?_); go_must (refine wpl_execG (.pointer (some ⟨b, o + k * 3, none⟩)) rfl (exec_ixT k rfl rfl rfl hlt) ?_))
              | ((with_reducible refine at_op (some 45) (.load 24 (.tmp 44)) ?_); go_must (refine wpl_execG (.agg (tcs x (.slice px mx cx)).toArray) rfl (exec_ldT rfl c0 c1 c2) ?_))
              | ((with_reducible refine at_op (some 8) (.alloc 24) ?_); go_must (refine wpl_alloc _ zero_term hm ?_); clear hm; intro w12 g8 hm)
              | ((with_reducible refine at_op none (.store 24 (.tmp 8) (.tmp 45)) ?_); go_must (refine wpl_stw 0 (tcs x (.slice px mx cx)) hm rfl rfl rfl 3 sz_term rfl rfl (oneTcs _ _ _ _) ?_); clear hm; intro w13 hm)
              | ((with_reducible refine at_op (some 47) (.load 24 (.tmp 8)) ?_); go_must (refine wpl_ldw 0 hm rfl rfl _ Tryd.underlying24 rfl 3 sz_term rfl ?_))
              | (go_at_call 16; go_must (refine (HCALL.out _ hm.below).mono ?_); rintro e w14 ⟨he, vN, csN, hN⟩; subst he; have HPN : Hid (PsX w0 w14 pb m (addP x (addK (t.l.take k) (acc ++ [t]))) (addP x (addK (t.l.take k) (acc ++ [t]))) vN csN) := hN; clear hN))
            go_roundw
            case rel => exact ⟨k + 1, _, _, by omega, by go_num, by rw [HAK.out ()]; exact HPN.out⟩
            case measure => simp [intOf]; omega
          · have hkn : n = k := by omega
            subst hkn
            have hni : ¬ (n : Int) < (n : Int) := by omega
            have HTK : Hid (∀ _ : Unit, t.l.take n = t.l) := fun _ => by rw [HN.out (), List.take_length]
            go_wp2_with fail
            go_end0
            exact ⟨rfl, _, _, by rw [HR.out (), ← HTK.out ()]; exact HPK.out⟩
    · refine ⟨by decide, _, rfl, rfl, ?_⟩
      intro K hK
      refine wpl_bslZ rfl hm ?_
      intro w6 g7 hb7 hm7
      have hT6 : Row w6 pb [.map (some m), v] 40 ∧ Row w6 g3 (tcs t (.slice p n cap)) 24 := ⟨hT.1.below' hb7, hT.2.below' hb7⟩
      have HB6 : Hid (Below w5.heap.size w5 w6) := HBC.out.trans (hb7.mono HBC.out.size)
      have HZ6 : Hid (Row w6 g7 [.int .i64 0, .int .i64 0, .slice none 0 0] 24) := hm7.get 0 rfl
      clear hT hb7 hm7 hm
      refine wpList_nil ?_
      refine hK _ _ hT6 ?_
      clear hK K
      go_simp
      refine anyC_one 5 (by kernel_rfl) rfl rfl rfl ?_
      intro K hK
      go_wp2_with (go_at_call 26; refine (HCP5.out _ HB6.out).mono ?_; rintro e wz ⟨s6, he, hs6, hb⟩; subst he; have HSS : Hid (UX w6.heap.size wz.heap.size wz s6 t.l) := hs6; obtain ⟨p6, c6, hv6, _⟩ := hs6.len; subst hv6; have hTz : Row wz pb [.map (some m), v] 40 ∧ Row wz g3 (tcs t (.slice p n cap)) 24 := ⟨hT6.1.below' hb, hT6.2.below' hb⟩; have HBZ : Hid (Below w5.heap.size w5 wz) := HB6.out.trans (hb.mono HB6.out.size); have HZR : Hid (Row wz g7 [.int .i64 0, .int .i64 0, .slice none 0 0] 24) := HZ6.out.below' hb; have HLO : Hid (w5.heap.size ≤ w6.heap.size) := HB6.out.size; clear hb hs6 hT6 HZ6)
      refine hK _ _ hTz ?_
      clear hK K
      go_simp
      refine anyC_turn (by kernel_rfl) rfl rfl ?_
      intro K hK
      refine wpl_appV (.agg [.int .i64 0, .int .i64 0, .slice none 0 0].toArray) 3 40 rfl un_terms made_term rfl (by omega) (by omega) (own_below HPS5.out.own HBZ.out) (Nat.le_trans HPS5.out.bel.size HBZ.out.size) rfl rfl HZR.out rfl (by intro v hv; simp only [List.mem_cons, List.not_mem_nil, or_false] at hv; rcases hv with rfl | rfl | rfl <;> rfl) hl4 ?_
      intro v9 w9 ho9 hg9 hl9
      have HPM : Hid (PmX w0 w9 pb m (acc ++ [t]) acc t (.slice p6 t.l.length c6) v v9 cs false false) := HPS5.out.push HBZ.out HSS.out HLO.out (Nat.le_refl _) ho9 hg9 hl9
      obtain ⟨b9, c9, hv9⟩ := own_form ho9
      subst hv9
      have HR39 : Hid (Row w9 g3 (tcs t (.slice p n cap)) 24) := row_grownN hTz.2 HNE3.out hg9
      have HN39 : Hid (g3 ≠ b9) := ne_blk HNE3.out hl9 hTz.2.lt
      clear ho9 hg9 hl9 hTz
      refine wpList_nil ?_
      refine hK _ _ trivial ?_
      clear hK K
      have hT : True := trivial
      go_simp
      refine anyH_take 9 (v := .pointer (some ⟨b9, acc.length * 3, none⟩)) rfl (by kernel_rfl) (by kernel_rfl) (by kernel_rfl) rfl (fun W _ => exec_ixT0 acc.length rfl rfl rfl (Nat.lt_succ_self _)) hT ?_
      go_simp
      refine anyH_take 11 (v := .pointer (some ⟨pb, 0, none⟩)) rfl (by kernel_rfl) (by kernel_rfl) (by kernel_rfl) rfl (fun W _ => by go_simp) hT ?_
      go_simp
      refine anyH_take 12 (v := .pointer (some ⟨pb, 1, none⟩)) rfl (by kernel_rfl) (by kernel_rfl) (by kernel_rfl) rfl (fun W _ => by go_simp) hT ?_
      go_simp
      refine wpAnyH_all (rs := [10, 13]) (by kernel_rfl) (by simp) ?_
      intro i hi
      simp only [List.mem_cons, List.not_mem_nil, or_false] at hi
      rcases hi with rfl | rfl
      · refine anyH_op 10 rfl rfl ?_
        intro K hK
        refine wpl_stOwn HPM.out.own HPM.out.len rfl rfl ?_
        intro w10 hu ho
        have HPM1 : Hid (PmX w0 w10 pb m (acc ++ [t]) acc t (.slice p6 t.l.length c6) v (.slice (some ⟨b9, 0, none⟩) (acc.length + 1) c9) cs true _) := HPM.out.elt hu ho
        have HR3w10 : Hid (Row w10 g3 (tcs t (.slice p n cap)) 24) := hu.row HR39.out HN39.out
        clear hu ho
        refine wpList_nil ?_
        refine hK _ _ trivial ?_
        clear hK K
        refine wpAnyH_all (rs := [13]) (by kernel_rfl) (by simp) ?_
        intro i hi
        simp only [List.mem_cons, List.not_mem_nil, or_false] at hi
        subst hi
        refine anyH_op 13 rfl rfl ?_
        intro K hK
        refine wpl_stcU 0 1 (.slice (some ⟨b9, 0, none⟩) (acc.length + 1) c9) (Mem.enter HPM1.out.row) rfl rfl rfl sz_terms (by show 1 < 2; omega) rfl rfl ?_
        intro w11 hu hm9
        have HPM2 : Hid (PmX w0 w11 pb m (acc ++ [t]) acc t (.slice p6 t.l.length c6) v (.slice (some ⟨b9, 0, none⟩) (acc.length + 1) c9) cs _ true) := HPM1.out.ptr hu (hm9.get 0 rfl)
        have HR3w11 : Hid (Row w11 g3 (tcs t (.slice p n cap)) 24) := hu.row HR3w10.out HN3P.out
        clear hu hm9
        refine wpList_nil ?_
        refine hK _ _ trivial ?_
        clear hK K
        refine wpAnyH_done (by kernel_rfl) ?_ _
        simp only [endsIn]
        have HPSZ : Hid (PsX w0 w11 pb m (acc ++ [t]) (acc ++ [t]) (.slice (some ⟨b9, 0, none⟩) (acc.length + 1) c9) (cs ++ tcs t (.slice p6 t.l.length c6))) := HPM2.out.done
        have hm := Mem.enter HR3w11.out
        clear HPM HPM1 HPM2 HR39 HR3w10
        go_wp2_with (first
          | ((with_reducible refine at_op (some 40) (.load 22 (.tmp 39)) ?_); go_must (refine wpl_execG (.slice p n cap) rfl (exec_ldx (.slice p n cap) (Mem.cell hm 0 rfl 2) rfl ag_terms) ?_)))
        clear hm
        go_loopw [42] (fun vi wr => ∃ (k : Nat) (vb : Value) (cs' : List Value), k ≤ n ∧ vi = .int .i64 (k : Int) ∧ Hid (PsX w0 wr pb m (addK (t.l.take k) (acc ++ [t])) (addK (t.l.take k) (acc ++ [t])) vb cs')) (fun vi _ => n - (intOf vi).toNat)
        case atStart => exact ⟨0, _, _, by omega, rfl, HPSZ.out⟩
        case round =>
          clear HPSZ
          obtain ⟨k, vb, cs', hk, rfl, HPK⟩ := hrel
          by_cases hlt : k < n
          · have hki : (k : Int) < (n : Int) := by omega
            obtain ⟨b, o, rfl⟩ := HS.out.at (show 0 < n by omega)
            obtain ⟨x, hx⟩ := get_of (HN.out ()) hlt
            obtain ⟨px, mx, cx, c0, c1, c2, hmx, hsx⟩ := (HSW.out wr HPK.out.bel).cells hx
            have HMX : Hid (x ∈ t.l) := List.mem_of_getElem? hx
            have HCX : Hid (cnt x ≤ 100) := by show _ ≤ _; have := cnt_lt HMX.out; have := HC.out; omega
            have HX2 : Hid (SlT (fun b => b < w0.heap.size) wr (.slice px mx cx) x.l) := hsx
            have HAK : Hid (∀ _ : Unit, addK (t.l.take (k + 1)) (acc ++ [t]) = addP x (addK (t.l.take k) (acc ++ [t]))) := fun _ => addK_snoc hx _
            have HLX : Hid ((addK (t.l.take k) (acc ++ [t])).length + cnt x ≤ 200) := by
              show _ ≤ _
              have h1 := addK_len (t.l.take k) (acc ++ [t])
              rw [List.length_append, List.length_singleton] at h1
              have h2 := sum_take hx
              have h3 := sum_all_le t.l (k + 1)
              have h4 := cnt_eq t
              have h5 := HLA.out
              omega
            have HCALL : Hid (∀ W, Below wr.heap.size wr W → Calls Tryd.prog 16 #[.pointer (some ⟨pb, 0, none⟩), .agg (tcs x (.slice px mx cx)).toArray] W fun e w' => e = .returned (.tuple #[]) ∧ ∃ v' cs', PsX w0 w' pb m (addP x (addK (t.l.take k) (acc ++ [t]))) (addP x (addK (t.l.take k) (acc ++ [t]))) v' cs') := fun W hW => HIH.out x HMX.out (.slice px mx cx) w0 pb m vb cs' _ W HCX.out (okT_kid HOK.out HMX.out) HLX.out (HX2.out.below hW) (HPK.out.below hW)
            have hm := Mem.start wr
            clear hsx hx hmx HX2
            go_wp2_with (first
              | ((with_reducible refine at_op (some 44) (.indexAddr 22 (.tmp 40) (.tmp 42)) ?_); go_must (refine wpl_execG (.pointer (some ⟨b, o + k * 3, none⟩)) rfl (exec_ixT k rfl rfl rfl hlt) ?_))
              | ((with_reducible refine at_op (some 45) (.load 24 (.tmp 44)) ?_); go_must (refine wpl_execG (.agg (tcs x (.slice px mx cx)).toArray) rfl (exec_ldT rfl c0 c1 c2) ?_))
              | ((with_reducible refine at_op (some 8) (.alloc 24) ?_); go_must (refine wpl_alloc _ zero_term hm ?_); clear hm; intro w12 g8 hm)
              | ((with_reducible refine at_op none (.store 24 (.tmp 8) (.tmp 45)) ?_); go_must (refine wpl_stw 0 (tcs x (.slice px mx cx)) hm rfl rfl rfl 3 sz_term rfl rfl (oneTcs _ _ _ _) ?_); clear hm; intro w13 hm)
              | ((with_reducible refine at_op (some 47) (.load 24 (.tmp 8)) ?_); go_must (refine wpl_ldw 0 hm rfl rfl _ Tryd.underlying24 rfl 3 sz_term rfl ?_))
              | (go_at_call 16; go_must (refine (HCALL.out _ hm.below).mono ?_); rintro e w14 ⟨he, vN, csN, hN⟩; subst he; have HPN : Hid (PsX w0 w14 pb m (addP x (addK (t.l.take k) (acc ++ [t]))) (addP x (addK (t.l.take k) (acc ++ [t]))) vN csN) := hN; clear hN))
            go_roundw
            case rel => exact ⟨k + 1, _, _, by omega, by go_num, by rw [HAK.out ()]; exact HPN.out⟩
            case measure => simp [intOf]; omega
          · have hkn : n = k := by omega
            subst hkn
            have hni : ¬ (n : Int) < (n : Int) := by omega
            have HTK : Hid (∀ _ : Unit, t.l.take n = t.l) := fun _ => by rw [HN.out (), List.take_length]
            go_wp2_with fail
            go_end0
            exact ⟨rfl, _, _, by rw [HR.out (), ← HTK.out ()]; exact HPK.out⟩
      · refine anyH_op 13 rfl rfl ?_
        intro K hK
        refine wpl_stcU 0 1 (.slice (some ⟨b9, 0, none⟩) (acc.length + 1) c9) (Mem.enter HPM.out.row) rfl rfl rfl sz_terms (by show 1 < 2; omega) rfl rfl ?_
        intro w10 hu hm9
        have HPM1 : Hid (PmX w0 w10 pb m (acc ++ [t]) acc t (.slice p6 t.l.length c6) v (.slice (some ⟨b9, 0, none⟩) (acc.length + 1) c9) cs _ true) := HPM.out.ptr hu (hm9.get 0 rfl)
        have HR3w10 : Hid (Row w10 g3 (tcs t (.slice p n cap)) 24) := hu.row HR39.out HN3P.out
        clear hu hm9
        refine wpList_nil ?_
        refine hK _ _ trivial ?_
        clear hK K
        refine wpAnyH_all (rs := [10]) (by kernel_rfl) (by simp) ?_
        intro i hi
        simp only [List.mem_cons, List.not_mem_nil, or_false] at hi
        subst hi
        refine anyH_op 10 rfl rfl ?_
        intro K hK
        refine wpl_stOwn HPM1.out.own HPM1.out.len rfl rfl ?_
        intro w11 hu ho
        have HPM2 : Hid (PmX w0 w11 pb m (acc ++ [t]) acc t (.slice p6 t.l.length c6) v (.slice (some ⟨b9, 0, none⟩) (acc.length + 1) c9) cs true _) := HPM1.out.elt hu ho
        have HR3w11 : Hid (Row w11 g3 (tcs t (.slice p n cap)) 24) := hu.row HR3w10.out HN39.out
        clear hu ho
        refine wpList_nil ?_
        refine hK _ _ trivial ?_
        clear hK K
        refine wpAnyH_done (by kernel_rfl) ?_ _
        simp only [endsIn]
        have HPSZ : Hid (PsX w0 w11 pb m (acc ++ [t]) (acc ++ [t]) (.slice (some ⟨b9, 0, none⟩) (acc.length + 1) c9) (cs ++ tcs t (.slice p6 t.l.length c6))) := HPM2.out.done
        have hm := Mem.enter HR3w11.out
        clear HPM HPM1 HPM2 HR39 HR3w10
        go_wp2_with (first
          | ((with_reducible refine at_op (some 40) (.load 22 (.tmp 39)) ?_); go_must (refine wpl_execG (.slice p n cap) rfl (exec_ldx (.slice p n cap) (Mem.cell hm 0 rfl 2) rfl ag_terms) ?_)))
        clear hm
        go_loopw [42] (fun vi wr => ∃ (k : Nat) (vb : Value) (cs' : List Value), k ≤ n ∧ vi = .int .i64 (k : Int) ∧ Hid (PsX w0 wr pb m (addK (t.l.take k) (acc ++ [t])) (addK (t.l.take k) (acc ++ [t])) vb cs')) (fun vi _ => n - (intOf vi).toNat)
        case atStart => exact ⟨0, _, _, by omega, rfl, HPSZ.out⟩
        case round =>
          clear HPSZ
          obtain ⟨k, vb, cs', hk, rfl, HPK⟩ := hrel
          by_cases hlt : k < n
          · have hki : (k : Int) < (n : Int) := by omega
            obtain ⟨b, o, rfl⟩ := HS.out.at (show 0 < n by omega)
            obtain ⟨x, hx⟩ := get_of (HN.out ()) hlt
            obtain ⟨px, mx, cx, c0, c1, c2, hmx, hsx⟩ := (HSW.out wr HPK.out.bel).cells hx
            have HMX : Hid (x ∈ t.l) := List.mem_of_getElem? hx
            have HCX : Hid (cnt x ≤ 100) := by show _ ≤ _; have := cnt_lt HMX.out; have := HC.out; omega
            have HX2 : Hid (SlT (fun b => b < w0.heap.size) wr (.slice px mx cx) x.l) := hsx
            have HAK : Hid (∀ _ : Unit, addK (t.l.take (k + 1)) (acc ++ [t]) = addP x (addK (t.l.take k) (acc ++ [t]))) := fun _ => addK_snoc hx _
            have HLX : Hid ((addK (t.l.take k) (acc ++ [t])).length + cnt x ≤ 200) := by
              show _ ≤ _
              have h1 := addK_len (t.l.take k) (acc ++ [t])
              rw [List.length_append, List.length_singleton] at h1
              have h2 := sum_take hx
              have h3 := sum_all_le t.l (k + 1)
              have h4 := cnt_eq t
              have h5 := HLA.out
              omega
            have HCALL : Hid (∀ W, Below wr.heap.size wr W → Calls Tryd.prog 16 #[.pointer (some ⟨pb, 0, none⟩), .agg (tcs x (.slice px mx cx)).toArray] W fun e w' => e = .returned (.tuple #[]) ∧ ∃ v' cs', PsX w0 w' pb m (addP x (addK (t.l.take k) (acc ++ [t]))) (addP x (addK (t.l.take k) (acc ++ [t]))) v' cs') := fun W hW => HIH.out x HMX.out (.slice px mx cx) w0 pb m vb cs' _ W HCX.out (okT_kid HOK.out HMX.out) HLX.out (HX2.out.below hW) (HPK.out.below hW)
            have hm := Mem.start wr
            clear hsx hx hmx HX2
            go_wp2_with (first
              | ((with_reducible refine at_op (some 44) (.indexAddr 22 (.tmp 40) (.tmp 42)) ?_); go_must (refine wpl_execG (.pointer (some ⟨b, o + k * 3, none⟩)) rfl (exec_ixT k rfl rfl rfl hlt) ?_))
              | ((with_reducible refine at_op (some 45) (.load 24 (.tmp 44)) ?_); go_must (refine wpl_execG (.agg (tcs x (.slice px mx cx)).toArray) rfl (exec_ldT rfl c0 c1 c2) ?_))
              | ((with_reducible refine at_op (some 8) (.alloc 24) ?_); go_must (refine wpl_alloc _ zero_term hm ?_); clear hm; intro w12 g8 hm)
              | ((with_reducible refine at_op none (.store 24 (.tmp 8) (.tmp 45)) ?_); go_must (refine wpl_stw 0 (tcs x (.slice px mx cx)) hm rfl rfl rfl 3 sz_term rfl rfl (oneTcs _ _ _ _) ?_); clear hm; intro w13 hm)
              | ((with_reducible refine at_op (some 47) (.load 24 (.tmp 8)) ?_); go_must (refine wpl_ldw 0 hm rfl rfl _ Tryd.underlying24 rfl 3 sz_term rfl ?_))
              | (go_at_call 16; go_must (refine (HCALL.out _ hm.below).mono ?_); rintro e w14 ⟨he, vN, csN, hN⟩; subst he; have HPN : Hid (PsX w0 w14 pb m (addP x (addK (t.l.take k) (acc ++ [t]))) (addP x (addK (t.l.take k) (acc ++ [t]))) vN csN) := hN; clear hN))
            go_roundw
            case rel => exact ⟨k + 1, _, _, by omega, by go_num, by rw [HAK.out ()]; exact HPN.out⟩
            case measure => simp [intOf]; omega
          · have hkn : n = k := by omega
            subst hkn
            have hni : ¬ (n : Int) < (n : Int) := by omega
            have HTK : Hid (∀ _ : Unit, t.l.take n = t.l) := fun _ => by rw [HN.out (), List.take_length]
            go_wp2_with fail
            go_end0
            exact ⟨rfl, _, _, by rw [HR.out (), ← HTK.out ()]; exact HPK.out⟩
set_option maxRecDepth 100000 in
theorem parts_startX {w2 w3 w4 w5 : World} {pb m : Nat} (hb3 : Below w2.heap.size w2 w3) (hb4 : Below w3.heap.size w3 w4) (hk : KM Tryd.prog 9 w4 m 0 (fun _ _ => False)) (hm : w2.heap.size ≤ m) (hp : w3.heap.size ≤ pb) (hr4 : Row w4 pb [.map none, .slice none 0 0] 40) (hu : Upd pb w4 w5) (hr : Row w5 pb [.map (some m), .slice none 0 0] 40) : PsX w2 w5 pb m [] [] (.slice none 0 0) [] := by
  have hpb : w2.heap.size ≤ pb := Nat.le_trans hb3.size hp
  have h5 : KM Tryd.prog 9 w5 m 0 (fun _ _ => False) := by
    obtain ⟨es, c, hme⟩ := hk.isMap
    exact hk.upd hu (row_ne_map hr4 hme)
  exact ⟨below_upd (hb3.trans (hb4.mono hb3.size)) hu hpb (Nat.le_trans hb3.size hb4.size), hpb, hm, hr, World.ownsRow_nil _ _ _ _, CX.nil, ⟨0, Nat.le_refl _, h5.same (fun k v => ⟨fun h => h.elim, fun h => by obtain ⟨_, x, hx, _⟩ := h; cases hx⟩)⟩⟩
set_option maxHeartbeats 2000000 in
set_option maxRecDepth 100000 in
theorem parts_yesX {F : Nat → Prop} (t : Tm) (s : Value) (w : World) (hi : isT t = true) (hs : SlT F w s t.l) :
    Calls Tryd.prog 8 #[.agg (tcs t s).toArray] w fun e w' => ∃ v, e = .returned v ∧ UX w.heap.size w'.heap.size w' v (partsT t) ∧ Below w.heap.size w w' := by
  have hm := Mem.start w
  have HS : Hid (SlT F w s t.l) := hs
  have hit := isT_iff.1 hi
  have HIT : Hid (cnt t ≤ 60 ∧ okT t = true) := hit
  have HIS : Hid (∀ W, Below w.heap.size w W → Calls Tryd.prog 7 #[.agg (tcs t s).toArray] W fun e w' => e = .returned (.bool true) ∧ Below W.heap.size W w') := fun W hW => by
    have := is_any t s W (HS.out.below hW)
    rw [hi] at this
    exact this
  clear hs hi hit
  go_enter Tryd.func8, Tryd.ntmps8
  go_wp2_with (first
    | ((with_reducible refine at_op (some 1) (.box 24 (.tmp 0)) ?_); go_must (refine wpl_box (tcs t s) rfl hm ?_); clear hm; intro w1 g1 hm)
    | ((with_reducible refine at_op (some 4) (.load 24 (.tmp 1)) ?_); go_must (refine wpl_ldw 0 hm rfl rfl _ Tryd.underlying24 rfl 3 sz_term rfl ?_))
    | (go_at_call 7; go_must (refine (HIS.out _ hm.below).mono ?_); rintro e w2 ⟨he, hb⟩; subst he; replace hm := hm.call hb; clear hb)
    | ((with_reducible refine at_op (some 7) (.makeMap 38 none) ?_); go_must (refine wpl_mkmap (Mem.start w2) ?_); intro w3 m hmap hnew hm3; have HKM : Hid (KM Tryd.prog 9 w3 m 0 (fun _ _ => False)) := KM.new hmap; have HMN : Hid (w2.heap.size ≤ m) := hnew; have HB3 : Hid (Below w2.heap.size w2 w3) := hm3.below; have HW2 : Hid (Below w.heap.size w w2) := hm.below; have HSO : Hid (∀ W, Below w2.heap.size w2 W → SlT (fun b => b < w2.heap.size) W s t.l) := fun W hW => parts_old (HS.out.below HW2.out) hW; have HG1 : Hid (Row w2 g1 (tcs t s) 24) := hm.get 0 rfl; clear hm; have hm := Mem.start w3; clear hmap hnew hm3)
    | ((with_reducible refine at_op (some 3) (.alloc 40) ?_); go_must (refine wpl_allocB _ zero_parts (Mem.start w3) ?_); intro w4 pb hb4 hp4 hm4; have HKM4 : Hid (KM Tryd.prog 9 w4 m 0 (fun _ _ => False)) := HKM.out.below hb4; have HB4 : Hid (Below w3.heap.size w3 w4) := hb4; have HPN : Hid (w3.heap.size ≤ pb) := hp4; have HRP : Hid (Row w4 pb [.map none, .slice none 0 0] 40) := hm4.get 0 rfl; clear hm; clear hb4 hp4 hm4)
    | ((with_reducible refine at_op none (.store 40 (.tmp 3) (.tmp 8)) ?_); go_must (refine wpl_stwU 0 [.map (some m), .slice none 0 0] (Mem.enter HRP.out) rfl rfl rfl 2 sz_parts rfl rfl (by intro v hv; simp only [List.mem_cons, List.not_mem_nil, or_false] at hv; rcases hv with rfl | rfl <;> rfl) ?_); intro w5 hu5 hm5; have HPS : Hid (PsX w2 w5 pb m [] [] (.slice none 0 0) []) := parts_startX HB3.out HB4.out HKM4.out HMN.out HPN.out HRP.out hu5 (hm5.get 0 rfl); have HR1 : Hid (Row w5 g1 (tcs t s) 24) := hu5.row ((HG1.out.below' HB3.out).below' HB4.out) (fun he => (by have h1 := HG1.out.lt; have h2 := HPN.out; have h3 := HB3.out.size; omega)); clear hm5 hu5; have hm := Mem.enter HR1.out)
    | ((with_reducible refine at_op (some 9) (.load 24 (.tmp 1)) ?_); go_must (refine wpl_ldw 0 hm rfl rfl _ Tryd.underlying24 rfl 3 sz_term rfl ?_))
    | (go_at_call 16; go_must (refine (add_anyX t s w2 pb m (.slice none 0 0) [] [] _ (Nat.le_trans HIT.out.1 (by omega)) HIT.out.2 (by have h9 := HIT.out.1; simp; omega) (HSO.out _ HPS.out.bel) HPS.out).mono ?_); rintro e w6 ⟨he, v6, cs6, hps6⟩; subst he; have HPS6 : Hid (PsX w2 w6 pb m (partsT t) (partsT t) v6 cs6) := hps6; clear hps6)
    | ((with_reducible refine at_op (some 12) (.load 22 (.tmp 11)) ?_); go_must (refine wpl_execG v6 rfl (exec_ldx v6 (HPS6.out.row.cell 1) rfl ag_terms) ?_)))
  go_ret
  refine ⟨v6, rfl, ?_, HW2.out.trans (HPS6.out.bel.mono HW2.out.size)⟩
  exact (endX HPS6.out.own rfl HPS6.out.tc).weak (fun b hb => ⟨Nat.le_trans HW2.out.size hb.1, hb.2⟩)
end Go.Proofs.YtbiinchmbclmcaaDoor
