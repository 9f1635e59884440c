/- Calls of a disk's methods out of a caller that holds the disk and rows of its own. -/
import Derived.Test.YtbaijhlkkeongaaSecCrash
import Derived.Lib.SlBytesConst
namespace Go.Proofs.Ytbaijhlkkeongaa
open Go Go.RowKit Go.Maps
section
variable {ops : Array Oper} {rest : List Oper} {a : Act} {w w0 w' : World} {Q : Exit → Act → World → Prop} {dst : Option Tmp} {typ : TypeId} {pos : String} {aft : Array Edge} {gd : Option (Nat × Bool)} {S : List Nat} {rows : List (Nat × List Value × TypeId)} {g mb : Nat} {kv : Value} {d d' : Dk} {P : Program}
set_option maxRecDepth 100000 in
theorem Sd.took (st : Sd w0 w g mb kv d rows) {q : Nat} {l : List Value} {t : TypeId} (hq : Mem w [] w' [(q, l, t)]) : Sd w0 w' g mb kv d ((q, l, t) :: rows) :=
  st.row hq.below (hq.get 0 rfl) (by have := hq.fresh _ (List.mem_cons_self ..); simpa using this)
set_option maxRecDepth 100000 in
theorem Sd.turned (st : Sd w0 w g mb kv d rows) (i : Nat) {q : Nat} {l l' : List Value} {t : TypeId} (hi : rows[i]? = some (q, l, t)) (hq : Mem w [q] w' [(q, l', t)]) : Sd w0 w' g mb kv d (rows.set i (q, l', t)) := st.upd i hi hq.toUpd (hq.get 0 rfl)
set_option maxRecDepth 100000 in
theorem Sd.start {w1 : World} (hb : Below w.heap.size w w1) (hd : DkAt w1 g mb kv d) (hf : ∀ q ∈ foot g mb kv, w.heap.size ≤ q) : Sd w w1 g mb kv d [] := ⟨(Mem.start w).call hb, hd, hf, by simp⟩
set_option maxRecDepth 100000 in
theorem Sd.startR {w1 : World} (hm : Mem w0 [] w rows) (hb : Below w.heap.size w w1) (hd : DkAt w1 g mb kv d) (hf : ∀ q ∈ foot g mb kv, w.heap.size ≤ q) : Sd w0 w1 g mb kv d rows :=
  ⟨hm.call hb, hd, fun q hq => Nat.le_trans hm.size (hf q hq), fun r hr hk => by have := hf _ hk; have := (hm.row r hr).lt; omega⟩
set_option maxRecDepth 100000 in
theorem Sd.congr (st : Sd w0 w g mb kv d rows) (h : d = d') : Sd w0 w g mb kv d' rows := h ▸ st
set_option maxRecDepth 100000 in
theorem Sd.notin (st : Sd w0 w g mb kv d rows) (i : Nat) {q : Nat} {l : List Value} {t : TypeId} (hi : rows[i]? = some (q, l, t)) : q ∉ foot g mb kv := st.apart _ (List.mem_of_getElem? hi)
set_option maxRecDepth 100000 in
theorem Sd.sl (st : Sd w0 w g mb kv d rows) (i : Nat) {q : Nat} {cs : List Int} {t : TypeId} (hi : rows[i]? = some (q, u8s cs, t)) (n cap : Nat) (hn : n = cs.length) (hc : n ≤ cap) : SlA w (foot g mb kv) (.slice (some ⟨q, 0, none⟩) n cap) cs :=
  SlA.of_row (st.mem.get i hi) n hn (st.notin i hi) cap hc
set_option maxRecDepth 100000 in
theorem Sd.old (st : Sd w0 w g mb kv d rows) {v : Value} {cs : List Int} (h : SlOld w0 v cs) : SlA w (foot g mb kv) v cs := SlA.of_old h st.mem st.new
set_option maxRecDepth 100000 in
/-- A constant string's bytes, in a row that has just come. -/
theorem wpl_cvA {t e : TypeId} {x : Operand} (cs : List Int) (hw : Region.wanted { dst := dst, op := .convert t t x, type := typ, pos := pos, after := aft, guard := gd } (yielded ops a.tmps) = true) (ht : P.underlying t = some (.slice e)) (he : P.underlying e = some (.int .u8)) {n : Nat} (hx : a.eval x = .slice (some ⟨w.heap.size, 0, none⟩) n n) (hn : n = cs.length) (L : List Nat) (hL : ∀ k ∈ L, k < w.heap.size)
    (h : ∀ w' q, Below w.heap.size w w' → SlA w' L (.slice (some ⟨q, 0, none⟩) n n) cs → wpList P ops Q rest (a.put dst (.slice (some ⟨q, 0, none⟩) n n)) w') :
    wpList P ops Q ({ dst := dst, op := .convert t t x, type := typ, pos := pos, after := aft, guard := gd } :: rest) a (w.alloc (.cells (u8s cs).toArray e)) := by
  subst hn
  have hb : Below w.heap.size w (w.alloc (.cells (u8s cs).toArray e ((u8s cs).toArray.size, (u8s cs).toArray.size + 1))) := (Below.refl _ _).alloc (Nat.le_refl _) _
  refine wpList_step fun K hK => ?_
  rw [if_pos hw]
  have hh := hK _ _ (h _ w.heap.size hb ⟨_, _, rfl, Nat.le_refl _, fun _ => ⟨w.heap.size, 0, rfl, fun hk => by have := hL _ hk; omega, Seg.newO w cs e _⟩⟩)
  unfold Oper.wp execOp
  simp only [hx, Lib.run_convert_bytes_const (P := P) w t e (u8s cs).toArray cs.length cs.length ht he, Sem.run_bind, Sem.run_pure, Result.andThen_ok]
  exact hh
end
section
variable {w0 w : World} {g mb : Nat} {kv : Value} {d : Dk} {rows : List (Nat × List Value × TypeId)}
set_option maxRecDepth 100000 in
theorem write_ok (st : Sd w0 w g mb kv d rows) (i : Int) (bs : List Int) (v : Value) (h0 : 0 ≤ i) (h1 : i < d.n) (ho : d.step.off = false) (hl : bs.length ≤ 64) (hbb : Bytes bs) (hnu : d.Num) (hs : SlA w (foot g mb kv) v bs) :
    Calls Try.prog 7 #[.pointer (some ⟨g, 0, none⟩), .int .i64 i, v] w fun e w' => e = .returned (.int .i64 0) ∧ Sd w0 w' g mb kv (d.step.put i.toNat (over (d.now i.toNat) bs)) rows := by
  obtain ⟨k, rfl⟩ : ∃ k : Nat, i = (k : Int) := ⟨i.toNat, by omega⟩
  refine (write_good g mb kv d k bs v ho (by omega) hl hbb hnu w st.dk hs).mono ?_
  rintro e w' ⟨rfl, h1, h2⟩
  exact ⟨rfl, st.turn h1 h2⟩
set_option maxRecDepth 100000 in
theorem write_st (st : Sd w0 w g mb kv d rows) (i : Int) (bs : List Int) (v : Value) (hbb : Bytes bs) (hnu : d.Num) (hs : SlA w (foot g mb kv) v bs) :
    Calls Try.prog 7 #[.pointer (some ⟨g, 0, none⟩), .int .i64 i, v] w fun e w' => e = .returned (.int .i64 (d.wcode i bs)) ∧ Sd w0 w' g mb kv (d.write i bs) rows := by
  refine (write_any g mb kv d i bs v hbb hnu w st.dk hs).mono ?_
  rintro e w' ⟨rfl, h1, h2⟩
  exact ⟨rfl, st.turn h1 h2⟩
set_option maxRecDepth 100000 in
theorem flush_st (st : Sd w0 w g mb kv d rows) (hnu : d.Num) :
    Calls Try.prog 9 #[.pointer (some ⟨g, 0, none⟩)] w fun e w' => e = .returned (.int .i64 d.fcode) ∧ Sd w0 w' g mb kv d.flush rows := by
  refine (flush_any g mb kv d hnu w st.dk).mono ?_
  rintro e w' ⟨rfl, h1, h2⟩
  exact ⟨rfl, st.turn h1 h2⟩
set_option maxRecDepth 100000 in
theorem flush_ok (st : Sd w0 w g mb kv d rows) (ho : d.step.off = false) (hnu : d.Num) :
    Calls Try.prog 9 #[.pointer (some ⟨g, 0, none⟩)] w fun e w' => e = .returned (.int .i64 0) ∧ Sd w0 w' g mb kv d.step.flushed rows := by
  refine (flush_good g mb kv d ho hnu w st.dk).mono ?_
  rintro e w' ⟨rfl, h1, h2⟩
  exact ⟨rfl, st.turn h1 h2⟩
set_option maxRecDepth 100000 in
theorem power_st (st : Sd w0 w g mb kv d rows) (a : Int) :
    Calls Try.prog 11 #[.pointer (some ⟨g, 0, none⟩), .int .i64 a] w fun e w' => e = .returned (.tuple #[]) ∧ Sd w0 w' g mb kv (d.power a) rows := by
  refine (power_any g mb kv d a w st.dk).mono ?_
  rintro e w' ⟨rfl, h1, h2⟩
  exact ⟨rfl, st.turn h1 h2⟩
set_option maxRecDepth 100000 in
theorem crash_st (st : Sd w0 w g mb kv d rows) (cs : List Int) (vc : Value) (hcb : Bytes cs) (hs : SlA w (foot g mb kv) vc cs) :
    Calls Try.prog 13 #[.pointer (some ⟨g, 0, none⟩), vc] w fun e w' => e = .returned (.tuple #[]) ∧ Sd w0 w' g mb kv (d.crash cs) rows := by
  refine (crash_any g mb kv d cs vc hcb w st.dk hs).mono ?_
  rintro e w' ⟨rfl, h1, h2⟩
  exact ⟨rfl, st.turn h1 h2⟩
set_option maxRecDepth 100000 in
theorem read_ok (st : Sd w0 w g mb kv d rows) (i : Int) (h0 : 0 ≤ i) (h1 : i < d.n) (ho : d.off = false) :
    Calls Try.prog 20 #[.pointer (some ⟨g, 0, none⟩), .int .i64 i] w fun e w' => ∃ q, e = .returned (.tuple #[.slice (some ⟨q, 0, none⟩) 64 64, .int .i64 0]) ∧ Sd w0 w' g mb kv d ((q, u8s (d.now i.toNat), 54) :: rows) := by
  obtain ⟨k, rfl⟩ : ∃ k : Nat, i = (k : Int) := ⟨i.toNat, by omega⟩
  refine (read_good g mb kv d k ho (by omega) w st.dk).mono ?_
  rintro e w' ⟨q, rfl, h1, h2, h3⟩
  exact ⟨q, rfl, st.row h3 h2 h1⟩
set_option maxRecDepth 100000 in
/-- What Read tells, whatever it is: a row of its own, or nothing. -/
theorem read_st (st : Sd w0 w g mb kv d rows) (i : Int) :
    Calls Try.prog 20 #[.pointer (some ⟨g, 0, none⟩), .int .i64 i] w fun e w' => ∃ v, e = .returned (.tuple #[v, .int .i64 (d.rcode i)]) ∧ SlOld w' v (d.read i) ∧ Sd w0 w' g mb kv d rows ∧ Below w.heap.size w w' := by
  unfold Dk.rcode Dk.read
  cases ho : d.off with
  | true =>
    rw [if_pos rfl, if_pos rfl]
    refine (read_off g mb kv d i ho w st.dk).mono ?_
    rintro e w' ⟨rfl, hw⟩
    subst hw
    exact ⟨_, rfl, ⟨none, 0, rfl, Nat.le_refl _, fun h => absurd h (by simp)⟩, st, Below.refl _ _⟩
  | false =>
    cases hh : d.has i with
    | false =>
      simp only [Bool.false_eq_true, if_false]
      refine (read_bad g mb kv d i ho hh w st.dk).mono ?_
      rintro e w' ⟨rfl, hw⟩
      subst hw
      exact ⟨_, rfl, ⟨none, 0, rfl, Nat.le_refl _, fun h => absurd h (by simp)⟩, st, Below.refl _ _⟩
    | true =>
      simp only [Bool.false_eq_true, if_false, if_true]
      have h2 : 0 ≤ i ∧ i < d.n := by simpa [Dk.has] using hh
      obtain ⟨k, rfl⟩ : ∃ k : Nat, i = (k : Int) := ⟨i.toNat, by omega⟩
      have hk : k < d.n := by omega
      refine (read_good g mb kv d k ho hk w st.dk).mono ?_
      rintro e w' ⟨q, rfl, h3, h4, h5⟩
      have hl := st.dk.ok.now hk
      exact ⟨_, rfl, ⟨_, 64, by rw [Int.toNat_natCast, hl], by rw [Int.toNat_natCast, hl]; exact Nat.le_refl _, fun _ => ⟨q, 0, rfl, Seg.row h4⟩⟩, st.below h5, h5⟩
set_option maxRecDepth 100000 in
theorem len_st (st : Sd w0 w g mb kv d rows) : Calls Try.prog 19 #[.pointer (some ⟨g, 0, none⟩)] w fun e w' => e = .returned (.int .i64 d.n) ∧ w' = w := len_any g mb kv d w st.dk
set_option maxRecDepth 100000 in
theorem steps_st (st : Sd w0 w g mb kv d rows) : Calls Try.prog 21 #[.pointer (some ⟨g, 0, none⟩)] w fun e w' => e = .returned (.int .i64 d.steps) ∧ w' = w := steps_any g mb kv d w st.dk
end
set_option maxRecDepth 100000 in
theorem num_new (n : Nat) : (Dk.new n).Num := ⟨⟨by simp [Dk.new], by simp [Dk.new]⟩, ⟨by simp [Dk.new], by simp [Dk.new]⟩⟩
set_option maxRecDepth 100000 in
theorem Dk.step_calm {d : Dk} (hl : d.left = 0) (ho : d.off = false) : d.step.off = false ∧ d.step.left = 0 ∧ d.step.steps = d.steps + 1 := by
  simp [Dk.step, hl, ho]
/-- A disk whose power doesn't go. -/
structure Dk.Calm (d : Dk) : Prop where
  left : d.left = 0
  off : d.off = false
  s0 : 0 ≤ d.steps
set_option maxRecDepth 100000 in
theorem Dk.Calm.num {d : Dk} (h : d.Calm) (hs : d.steps < 1000000000) : d.Num := ⟨⟨h.s0, hs⟩, by rw [h.left]; omega, by rw [h.left]; omega⟩
set_option maxRecDepth 100000 in
theorem Dk.Calm.step {d : Dk} (h : d.Calm) : d.step.Calm := by
  obtain ⟨h1, h2, h3⟩ := Dk.step_calm h.left h.off
  exact ⟨h2, h1, by rw [h3]; have := h.s0; omega⟩
set_option maxRecDepth 100000 in
theorem Dk.Calm.put {d : Dk} (h : d.Calm) (i : Nat) (l : List Int) : (d.put i l).Calm := ⟨h.left, h.off, h.s0⟩
set_option maxRecDepth 100000 in
theorem Dk.Calm.flushed {d : Dk} (h : d.Calm) : d.flushed.Calm := ⟨h.left, h.off, h.s0⟩
set_option maxRecDepth 100000 in
theorem Dk.calm_new (n : Nat) : (Dk.new n).Calm := ⟨rfl, rfl, Int.le_refl _⟩
set_option maxRecDepth 100000 in
theorem Dk.crash_calm {d : Dk} (cs : List Int) (h : 0 ≤ d.steps) : (d.crash cs).Calm := ⟨rfl, rfl, h⟩
set_option maxRecDepth 100000 in
theorem Dk.put_nowA {d : Dk} (i : Nat) (l : List Int) : (d.put i l).now i = l := by simp [Dk.put, Dk.now, upf]
set_option maxRecDepth 100000 in
theorem Dk.put_now_other {d : Dk} {i j : Nat} (l : List Int) (h : j ≠ i) : (d.put i l).now j = d.now j := by simp [Dk.put, Dk.now, upf, h]
set_option maxRecDepth 100000 in
theorem Dk.flushed_now (d : Dk) (i : Nat) : d.flushed.now i = d.now i := by simp [Dk.flushed, Dk.now]
set_option maxRecDepth 100000 in
theorem Dk.crash_now (d : Dk) (cs : List Int) (i : Nat) : (d.crash cs).now i = d.keptAt cs (d.rank d.n) i := rfl
set_option maxRecDepth 100000 in
theorem bytes_nil : Bytes [] := by intro x hx; cases hx
end Go.Proofs.Ytbaijhlkkeongaa
