/- Package term: which parts there are; what gathers them. -/
import Derived.StringKeys
import Derived.Test.YtbiinchmbclmcaaDoorTmCopy
import Derived.Test.YtbiinchmbclmcaaDoorKeyMap
namespace Go.Proofs.YtbiinchmbclmcaaDoor
open Go Go.RowKit Go.Maps
def inL (acc : List Tm) (t : Tm) : Bool := acc.any fun x => decide (txt x = txt t)
def addF (t : Tm) (r : List (List Tm → List Tm)) (acc : List Tm) : List Tm := if inL acc t then acc else r.foldl (fun a g => g a) (acc ++ [t])
def addP : Tm → List Tm → List Tm := foldT addF
def addK (l : List Tm) (acc : List Tm) : List Tm := l.foldl (fun a x => addP x a) acc
set_option maxRecDepth 100000 in
theorem addP_eq (t : Tm) (acc : List Tm) : addP t acc = if inL acc t then acc else addK t.l (acc ++ [t]) := by
  unfold addP
  rw [foldT_eq]
  show (if inL acc t then acc else (t.l.map addP).foldl (fun a g => g a) (acc ++ [t])) = _
  rw [List.foldl_map]
  rfl
set_option maxRecDepth 100000 in
theorem addK_snoc {l : List Tm} {k : Nat} {x : Tm} (hx : l[k]? = some x) (acc : List Tm) : addK (l.take (k + 1)) acc = addP x (addK (l.take k) acc) := by
  rw [List.take_add_one, hx]
  simp [addK]
set_option maxRecDepth 100000 in
theorem addK_cons (x : Tm) (l acc : List Tm) : addK (x :: l) acc = addK l (addP x acc) := rfl
set_option maxRecDepth 100000 in
theorem addP_len (t : Tm) : ∀ acc, (addP t acc).length ≤ acc.length + cnt t := by
  induction t using Tm.ind with
  | h t ih =>
    have key : ∀ (l : List Tm), (∀ x ∈ l, ∀ acc, (addP x acc).length ≤ acc.length + cnt x) → ∀ acc, (addK l acc).length ≤ acc.length + (l.map cnt).sum := by
      intro l
      induction l with
      | nil => intro _ acc; exact Nat.le_refl _
      | cons x l ih2 =>
        intro h acc
        rw [addK_cons]
        have h1 := ih2 (fun y hy => h y (List.mem_cons_of_mem _ hy)) (addP x acc)
        have h2 := h x (List.mem_cons_self ..) acc
        simp only [List.map_cons, List.sum_cons]
        omega
    intro acc
    rw [addP_eq]
    split
    · omega
    · have := key t.l ih (acc ++ [t])
      rw [List.length_append, List.length_singleton] at this
      rw [cnt_eq]
      omega
set_option maxRecDepth 100000 in
theorem addK_len (l : List Tm) : ∀ acc, (addK l acc).length ≤ acc.length + (l.map cnt).sum := by
  induction l with
  | nil => intro acc; exact Nat.le_refl _
  | cons x l ih =>
    intro acc
    rw [addK_cons]
    have h1 := ih (addP x acc)
    have h2 := addP_len x acc
    simp only [List.map_cons, List.sum_cons]
    omega
set_option maxRecDepth 100000 in
theorem addP_ok (t : Tm) : okT t = true → ∀ acc, (∀ x ∈ acc, okT x = true) → ∀ x ∈ addP t acc, okT x = true := by
  induction t using Tm.ind with
  | h t ih =>
    intro ho
    have key : ∀ (l : List Tm), (∀ x ∈ l, x ∈ t.l) → ∀ acc, (∀ x ∈ acc, okT x = true) → ∀ x ∈ addK l acc, okT x = true := by
      intro l
      induction l with
      | nil => intro _ acc h; exact h
      | cons y l ih2 =>
        intro hs acc h
        rw [addK_cons]
        have hy := hs y (List.mem_cons_self ..)
        exact ih2 (fun z hz => hs z (List.mem_cons_of_mem _ hz)) _ (ih y hy (okT_kid ho hy) acc h)
    intro acc h
    rw [addP_eq]
    split
    · exact h
    · refine key t.l (fun x hx => hx) _ (fun x hx => ?_)
      rcases List.mem_append.1 hx with hx | hx
      · exact h x hx
      · rw [List.mem_singleton.1 hx]; exact ho
def partsT (t : Tm) : List Tm := addP t []
def unitV : Value := .agg [].toArray
def had (acc : List Tm) : Value → Value → Prop := fun x v => v = unitV ∧ ∃ t ∈ acc, x = .string (mkS (txt t))
set_option maxRecDepth 100000 in
theorem had_put (acc : List Tm) (t : Tm) (x v : Value) : putK (had acc) (.string (mkS (txt t))) unitV x v ↔ had (acc ++ [t]) x v := by
  constructor
  · rintro (⟨rfl, rfl⟩ | ⟨_, rfl, u, hu, rfl⟩)
    · exact ⟨rfl, t, by simp, rfl⟩
    · exact ⟨rfl, u, by simp [hu], rfl⟩
  · rintro ⟨rfl, u, hu, rfl⟩
    by_cases he : Value.string (mkS (txt u)) = .string (mkS (txt t))
    · exact Or.inl ⟨he, rfl⟩
    · refine Or.inr ⟨he, rfl, u, ?_, rfl⟩
      rcases List.mem_append.1 hu with h | h
      · exact h
      · rw [List.mem_singleton.1 h] at he; exact absurd rfl he
set_option maxRecDepth 100000 in
theorem had_yes {acc : List Tm} {t : Tm} (h : inL acc t = true) : had acc (.string (mkS (txt t))) unitV := by
  obtain ⟨x, hx, he⟩ := List.any_eq_true.1 h
  exact ⟨rfl, x, hx, by rw [of_decide_eq_true he]⟩
set_option maxRecDepth 100000 in
theorem had_no {acc : List Tm} {t : Tm} (h : inL acc t = false) (v : Value) : ¬ had acc (.string (mkS (txt t))) v := by
  rintro ⟨_, x, hx, he⟩
  have h1 := List.any_eq_false.1 h x hx
  simp only [Value.string.injEq] at he
  exact h1 (decide_eq_true (mkS_inj he).symm)
set_option maxRecDepth 100000 in
theorem str_key : Keyed Tryd.prog 9 := string_keyed un_strT
set_option maxRecDepth 100000 in
theorem un_hmap : Tryd.prog.underlying 38 = some (.map 9 62) := Tryd.underlying38
set_option maxRecDepth 100000 in
theorem zero_unit : ∀ w, (zeroValue 62).run Tryd.prog w = .ok (.agg [].toArray) w := (zero_of_info (show (Tryd.prog.info? 62).map (fun i => (i.zero, i.size)) = some (some (.agg [].toArray), 0) by kernel_rfl)).1
set_option maxRecDepth 100000 in
theorem sz_unit : (Tryd.prog.info? 62).map (·.size) = some 0 := by kernel_rfl
set_option maxRecDepth 100000 in
theorem str_of (s : ByteArray) (h : s.size ≤ 10000) : ∃ kl, keyOf Tryd.prog 9 (.string s) = some kl := ⟨_, Go.WideMaps.keyOf_string_mk un_strT (by unfold maxLen; omega)⟩
set_option maxRecDepth 100000 in
theorem ag_hmap : ∀ w, (isAgg 38).run Tryd.prog w = .ok false w := by intro w; simp [go_sem]
set_option maxRecDepth 100000 in
theorem sz_hmap : (Tryd.prog.info? 38).map (·.size) = some 1 := by kernel_rfl
/-- What gathers parts: its map knows A, its list holds B. -/
structure Ps (w0 w : World) (pb m : Nat) (A B : List Tm) (v : Value) (cs : List Value) : Prop where
  bel : Below w0.heap.size w0 w
  pnew : w0.heap.size ≤ pb
  mnew : w0.heap.size ≤ m
  row : Row w pb [.map (some m), v] 40
  own : w.ownsRow w0.heap.size 24 3 v B.length cs
  tc : TC (FX w0.heap.size w v [pb, m]) w B cs
  map : ∃ q, q ≤ A.length ∧ KM Tryd.prog 9 w m q (had A)
set_option maxRecDepth 100000 in
theorem Ps.below {w0 w w' : World} {pb m : Nat} {A B : List Tm} {v : Value} {cs : List Value} (h : Ps w0 w pb m A B v cs) (hb : Below w.heap.size w w') : Ps w0 w' pb m A B v cs := by
  obtain ⟨q, hq, hk⟩ := h.map
  exact ⟨h.bel.trans (hb.mono h.bel.size), h.pnew, h.mnew, h.row.below' hb, own_below h.own hb, h.tc.keeps (fx_below hb), ⟨q, hq, hk.below hb⟩⟩
set_option maxRecDepth 100000 in
theorem Ps.ne {w0 w : World} {pb m : Nat} {A B : List Tm} {v : Value} {cs : List Value} (h : Ps w0 w pb m A B v cs) : some pb ≠ v.ownBlock := row_ne_own h.own h.row (by decide)
set_option maxRecDepth 100000 in
theorem Ps.mlt {w0 w : World} {pb m : Nat} {A B : List Tm} {v : Value} {cs : List Value} (h : Ps w0 w pb m A B v cs) : m < w.heap.size := by obtain ⟨q, _, hk⟩ := h.map; exact hk.lt
set_option maxRecDepth 100000 in
theorem own_ne_map {w : World} {base m : Nat} {e : TypeId} {K : Nat} {v : Value} {n : Nat} {cs : List Value} {es : Array MapEntry} {c : Nat} (ho : w.ownsRow base e K v n cs) (hm : w.heap[m]? = some (.map es c)) : some m ≠ v.ownBlock := by
  intro hc
  obtain ⟨_, h2⟩ := ho
  rcases h2 with ⟨rfl, _⟩ | ⟨q, cap, cur, rfl, hb, hh, _⟩
  · cases hc
  · have : m = q := by simpa [Value.ownBlock] using hc
    subst this
    rw [hm] at hh; cases hh
set_option maxRecDepth 100000 in
theorem Ps.mne {w0 w : World} {pb m : Nat} {A B : List Tm} {v : Value} {cs : List Value} (h : Ps w0 w pb m A B v cs) : some m ≠ v.ownBlock := by
  obtain ⟨q, _, hk⟩ := h.map
  obtain ⟨es, c, hm⟩ := hk.isMap
  exact own_ne_map h.own hm
set_option maxRecDepth 100000 in
theorem Ps.put {w0 w w' : World} {pb m : Nat} {A B : List Tm} {v : Value} {cs : List Value} {t : Tm} {q : Nat} (h : Ps w0 w pb m A B v cs) (hq : q ≤ A.length) (st : KM Tryd.prog 9 w' m (q + 1) (putK (had A) (.string (mkS (txt t))) unitV)) (hu : Upd m w w') : Ps w0 w' pb m (A ++ [t]) B v cs := by
  obtain ⟨q0, _, hk⟩ := h.map
  obtain ⟨es, c, hm⟩ := hk.isMap
  exact ⟨below_upd h.bel hu h.mnew h.bel.size, h.pnew, h.mnew, hu.row h.row (row_ne_map h.row hm), own_updN h.own hu h.mne, h.tc.keeps (fx_upd hu (Or.inl (by simp))), ⟨q + 1, by rw [List.length_append, List.length_singleton]; omega, st.same (had_put A t)⟩⟩
/-- On the way of one more part: appended as nothing, then set; the list's place told. -/
structure Pm (w0 w : World) (pb m : Nat) (A B : List Tm) (t : Tm) (s v0 v : Value) (cs : List Value) (e q : Bool) : Prop where
  bel : Below w0.heap.size w0 w
  pnew : w0.heap.size ≤ pb
  mnew : w0.heap.size ≤ m
  row : Row w pb [.map (some m), if q then v else v0] 40
  own : w.ownsRow w0.heap.size 24 3 v (B.length + 1) (cs ++ if e then tcs t s else [.int .i64 0, .int .i64 0, .slice none 0 0])
  tc : TC (FX w0.heap.size w v [pb, m]) w (B ++ [t]) (cs ++ tcs t s)
  len : cs.length = B.length * 3
  map : ∃ q, q ≤ A.length ∧ KM Tryd.prog 9 w m q (had A)
set_option maxRecDepth 100000 in
theorem Ps.push {w0 w w1 w' : World} {pb m : Nat} {A B : List Tm} {v v' : Value} {cs : List Value} {t : Tm} {s : Value} {lo hi : Nat} (h : Ps w0 w pb m A B v cs) (hb : Below w.heap.size w w1) (hs : SlT (FN lo hi) w1 s t.l) (hlo : w.heap.size ≤ lo) (hhi : hi ≤ w1.heap.size)
    (ho : w'.ownsRow w0.heap.size 24 3 v' (B.length + 1) (cs ++ [.int .i64 0, .int .i64 0, .slice none 0 0])) (hg : w1.grownBy w' v.ownBlock) (hv : v'.ownBlock = v.ownBlock ∨ v'.ownBlock = some w1.heap.size) : Pm w0 w' pb m A B t s v v' cs false false := by
  have h1 := h.below hb
  obtain ⟨q, hq, hk⟩ := h1.map
  have k2 : SlT (FX w0.heap.size w1 v [pb, m]) w1 s t.l := hs.weak (fx_of h.own (Nat.le_trans h.bel.size hlo) hlo hhi (fun x hx => by
    simp only [List.mem_cons, List.not_mem_nil, or_false] at hx
    rcases hx with rfl | rfl
    · exact Nat.lt_of_lt_of_le h.row.lt hlo
    · exact Nat.lt_of_lt_of_le h.mlt hlo))
  exact ⟨below_grown h1.bel h1.bel.size h1.own hg, h.pnew, h.mnew, row_grownN h1.row h1.ne hg, ho, (h1.tc.snoc ((KS_iff t s).2 k2)).keeps (fx_push hg hv), h.tc.len, ⟨q, hq, hk.keep (hg.block m h1.mlt h1.mne)⟩⟩
set_option maxRecDepth 100000 in
theorem Pm.ne {w0 w : World} {pb m : Nat} {A B : List Tm} {t : Tm} {s v0 v : Value} {cs : List Value} {e q : Bool} (h : Pm w0 w pb m A B t s v0 v cs e q) : some pb ≠ v.ownBlock := row_ne_own h.own h.row (by decide)
set_option maxRecDepth 100000 in
theorem Pm.elt {w0 w w' : World} {pb m b c : Nat} {A B : List Tm} {t : Tm} {s v0 : Value} {cs : List Value} {q : Bool} (h : Pm w0 w pb m A B t s v0 (.slice (some ⟨b, 0, none⟩) (B.length + 1) c) cs false q) (hu : Upd b w w') (ho : w'.ownsRow w0.heap.size 24 3 (.slice (some ⟨b, 0, none⟩) (B.length + 1) c) (B.length + 1) (cs ++ tcs t s)) : Pm w0 w' pb m A B t s v0 (.slice (some ⟨b, 0, none⟩) (B.length + 1) c) cs true q := by
  obtain ⟨q', hq, hk⟩ := h.map
  obtain ⟨es, cc, hm⟩ := hk.isMap
  have hbl := own_block h.own (show (Value.slice (some ⟨b, 0, none⟩) (B.length + 1) c).ownBlock = some b from rfl)
  have hmb : m ≠ b := fun he => own_ne_map h.own hm (by rw [he]; rfl)
  exact ⟨below_upd h.bel hu hbl.1 h.bel.size, h.pnew, h.mnew, hu.row h.row (fun he => h.ne (by rw [he]; rfl)), ho, h.tc.keeps (fx_upd hu (Or.inr rfl)), h.len, ⟨q', hq, hk.upd hu (fun he => hmb he.symm)⟩⟩
set_option maxRecDepth 100000 in
theorem Pm.ptr {w0 w w' : World} {pb m : Nat} {A B : List Tm} {t : Tm} {s v0 v : Value} {cs : List Value} {e : Bool} (h : Pm w0 w pb m A B t s v0 v cs e false) (hu : Upd pb w w') (hr : Row w' pb [.map (some m), v] 40) : Pm w0 w' pb m A B t s v0 v cs e true := by
  obtain ⟨q', hq, hk⟩ := h.map
  obtain ⟨es, cc, hm⟩ := hk.isMap
  exact ⟨below_upd h.bel hu h.pnew h.bel.size, h.pnew, h.mnew, hr, own_updN h.own hu h.ne, h.tc.keeps (fx_upd hu (Or.inl (by simp))), h.len, ⟨q', hq, hk.upd hu (row_ne_map h.row hm)⟩⟩
set_option maxRecDepth 100000 in
theorem Pm.done {w0 w : World} {pb m : Nat} {A B : List Tm} {t : Tm} {s v0 v : Value} {cs : List Value} (h : Pm w0 w pb m A B t s v0 v cs true true) : Ps w0 w pb m A (B ++ [t]) v (cs ++ tcs t s) :=
  ⟨h.bel, h.pnew, h.mnew, h.row, by rw [List.length_append, List.length_singleton]; exact h.own, h.tc, h.map⟩
section
variable {ops : Array Oper} {rest : List Oper} {a : Act} {w w0 : World} {Q : Exit → Act → World → Prop} {dst : Option Tmp} {typ : TypeId} {pos : String} {aft : Array Edge} {gd : Option (Nat × Bool)}
set_option maxRecDepth 100000 in
theorem exec_ixT0 {x ix : Operand} {b n cap : Nat} (i : Nat) {ii : Int} (hx : a.eval x = .slice (some ⟨b, 0, none⟩) n cap) (hix : a.eval ix = .int .i64 ii) (hii : ii = (i : Int)) (hi : i < n) :
    (execOp a.eval { dst := dst, op := .indexAddr 22 x ix, type := typ, pos := pos, after := aft, guard := gd }).run Tryd.prog w = .ok (.value (.pointer (some ⟨b, i * 3, none⟩))) w := by
  have h := exec_ixT (dst := dst) (typ := typ) (pos := pos) (aft := aft) (gd := gd) (w := w) i hx hix hii hi
  rw [Nat.zero_add] at h
  exact h
set_option maxRecDepth 100000 in
/-- The last element of an own slice is set. -/
theorem wpl_stOwn {x y : Operand} {base n b cap : Nat} {cs : List Value} {t : Tm} {p : Option Addr} {mm c : Nat} (ho : w.ownsRow base 24 3 (.slice (some ⟨b, 0, none⟩) (n + 1) cap) (n + 1) (cs ++ [.int .i64 0, .int .i64 0, .slice none 0 0])) (hcs : cs.length = n * 3) (hx : a.eval x = .pointer (some ⟨b, n * 3, none⟩)) (hy : a.eval y = .agg (tcs t (.slice p mm c)).toArray)
    (h : ∀ w', Upd b w w' → w'.ownsRow base 24 3 (.slice (some ⟨b, 0, none⟩) (n + 1) cap) (n + 1) (cs ++ tcs t (.slice p mm c)) → wpList Tryd.prog ops Q rest a w') :
    wpList Tryd.prog ops Q ({ dst := none, op := .store 24 x y, type := typ, pos := pos, after := aft, guard := none } :: rest) a w := by
  obtain ⟨hl, h2⟩ := ho
  rcases h2 with ⟨h3, _⟩ | ⟨g, cap', cur, hv, hb, hh, hn, hmx, hsz, htk⟩
  · cases h3
  · simp only [Value.slice.injEq, Option.some.injEq, Addr.mk.injEq] at hv
    obtain ⟨⟨rfl, _, _⟩, _, rfl⟩ := hv
    have hr : Row w b cur.toList 24 := by unfold Row; rw [hh]
    have hcl : cur.toList.length = cap * 3 := by rw [Array.length_toList]; exact hsz
    have hlen : n * 3 + 3 ≤ cur.toList.length := by rw [hcl]; omega
    refine wpList_plain rfl fun K hK => ?_
    have hh2 := hK _ _ (h _ (Upd.setRow b w (splice cur.toList (n * 3) (tcs t (.slice p mm c))).toArray) ⟨by rw [List.length_append, hcs, tcs_len]; omega, Or.inr ⟨b, cap, (splice cur.toList (n * 3) (tcs t (.slice p mm c))).toArray, rfl, hb, hr.setRow _, hn, hmx, by
        simp only [splice, List.size_toArray, List.length_append, List.length_take, List.length_drop, hcl, tcs_len]
        omega, by
        have e1 : cur.toList.take (n * 3) = cs := by
          have := congrArg (List.take (n * 3)) htk
          rw [List.take_take, Nat.min_eq_left (by omega), ← hcs, List.take_left] at this
          rw [← hcs]; exact this
        simp only [splice, e1]
        rw [List.take_append, List.take_of_length_le (by omega), show (n + 1) * 3 - cs.length = 3 by omega, List.take_append, List.take_of_length_le (by rw [tcs_len]; exact Nat.le_refl _), tcs_len]
        simp⟩⟩)
    unfold Oper.wp execOp
    simp only [hx, hy, Instr.storeAt, Instr.sureAddr, Sem.run_bind, Sem.run_pure, Result.andThen_ok, run_storeVar_seg w b (n * 3) 24 24 cur.toList (tcs t (.slice p mm c)) hr (by rw [sz_term]; rfl) (by rw [tcs_len]; exact hlen) (oneTcs _ _ _ _)]
    exact hh2
end
end Go.Proofs.YtbiinchmbclmcaaDoor
