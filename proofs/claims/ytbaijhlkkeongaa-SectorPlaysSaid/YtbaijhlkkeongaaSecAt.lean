/- A disk of sectors as it stands in memory: its own block, the block of what is kept, its map of what is pending. -/
import Derived.Test.YtbaijhlkkeongaaSecPlain
import Derived.Test.YtbaijhlkkeongaaChecked
namespace Go.Proofs.Ytbaijhlkkeongaa
open Go Go.RowKit Go.Maps

/-! The types. -/
set_option maxRecDepth 100000 in
theorem made_con : (Try.prog.info? 54).map (fun i => (i.zero, i.size, i.bytes)) = some (some (.agg (u8s zeroK).toArray), 64, 64) := by kernel_rfl
set_option maxRecDepth 100000 in
theorem info_con : (Try.prog.info? 54).map (fun i => (i.zero, i.size)) = some (some (.agg (u8s zeroK).toArray), 64) := by kernel_rfl
set_option maxRecDepth 100000 in
theorem zero_con : ∀ w, (zeroValue 54).run Try.prog w = .ok (.agg (u8s zeroK).toArray) w := (zero_of_info info_con).1
set_option maxRecDepth 100000 in
theorem sz_con : (Try.prog.info? 54).map (·.size) = some 64 := (zero_of_info info_con).2
set_option maxRecDepth 100000 in
theorem un_con : Try.prog.underlying 54 = some (.array 64 5) := Try.underlying54
set_option maxRecDepth 100000 in
theorem un_cons : Try.prog.underlying 44 = some (.slice 54) := Try.underlying44
set_option maxRecDepth 100000 in
theorem un_cmap : Try.prog.underlying 45 = some (.map 3 54) := Try.underlying45
set_option maxRecDepth 100000 in
theorem un_int : Try.prog.underlying 3 = some (.int .i64) := Try.underlying3
set_option maxRecDepth 100000 in
theorem un_u8 : Try.prog.underlying 5 = some (.int .u8) := Try.underlying5
set_option maxRecDepth 100000 in
theorem un_bs : Try.prog.underlying 28 = some (.slice 5) := Try.underlying28
set_option maxRecDepth 100000 in
theorem un_b64 : Try.prog.underlying 53 = some (.array 64 5) := Try.underlying53
set_option maxRecDepth 100000 in
theorem un_strT : Try.prog.underlying 9 = some .string := Try.underlying9
set_option maxRecDepth 100000 in
theorem info_u8 : (Try.prog.info? 5).map (fun i => (i.zero, i.size)) = some (some (.int .u8 0), 1) := by kernel_rfl
set_option maxRecDepth 100000 in
theorem made_u8 : (Try.prog.info? 5).map (fun i => (i.zero, i.size, i.bytes)) = some (some (.int .u8 0), 1, 1) := by kernel_rfl
set_option maxRecDepth 100000 in
theorem sz_u8 : (Try.prog.info? 5).map (·.size) = some 1 := by kernel_rfl
set_option maxRecDepth 100000 in
theorem sz_int : (Try.prog.info? 3).map (·.size) = some 1 := by kernel_rfl
set_option maxRecDepth 100000 in
theorem sz_bool : (Try.prog.info? 4).map (·.size) = some 1 := by kernel_rfl
set_option maxRecDepth 100000 in
theorem sz_cons : (Try.prog.info? 44).map (·.size) = some 1 := by kernel_rfl
set_option maxRecDepth 100000 in
theorem sz_cmap : (Try.prog.info? 45).map (·.size) = some 1 := by kernel_rfl
set_option maxRecDepth 100000 in
theorem ag_u8 : ∀ w, (isAgg 5).run Try.prog w = .ok false w := by intro w; simp [go_sem]
set_option maxRecDepth 100000 in
theorem ag_int : ∀ w, (isAgg 3).run Try.prog w = .ok false w := by intro w; simp [go_sem]
set_option maxRecDepth 100000 in
theorem ag_bool : ∀ w, (isAgg 4).run Try.prog w = .ok false w := by intro w; simp [go_sem]
set_option maxRecDepth 100000 in
theorem ag_cons : ∀ w, (isAgg 44).run Try.prog w = .ok false w := by intro w; simp [go_sem]
set_option maxRecDepth 100000 in
theorem ag_cmap : ∀ w, (isAgg 45).run Try.prog w = .ok false w := by intro w; simp [go_sem]
set_option maxRecDepth 100000 in
theorem mixed : Try.prog.follows .mixedOrders = true := by kernel_rfl
set_option maxRecDepth 100000 in
theorem key_int : Keyed Try.prog 3 := int_keyed un_int
set_option maxRecDepth 100000 in
theorem key_mk (i : Nat) (h : i ≤ 4000) : keyOf Try.prog 3 (.int .i64 (i : Int)) = some (.int .i64 (i : Int)) := by
  exact keyOf_int_mk un_int (WalkArith.wf_i64 (by omega))
set_option maxRecDepth 100000 in
theorem keyLit (i : Int) : WideAt.IsKeyLit (.int .i64 i) := trivial

/-! The map of what is pending: it reads as its values themselves. -/
def rdV (v : Value) : Option (DataW Value × List MemPlace) := some (.held v, [])
structure PM (D : DataW Value) (p : Nat → Option (List Int)) : Prop where
  has : ∀ x : Int, Maps.has D (.int .i64 x) = true ↔ ∃ i : Nat, x = (i : Int) ∧ (p i).isSome = true
  val : ∀ i l, p i = some l → ∀ z, D.atKey (.int .i64 (i : Int)) z = .held (.agg (u8s l).toArray)
set_option maxRecDepth 100000 in
theorem PM.none : PM (.map []) (fun _ => Option.none) := ⟨fun x => by simp [Maps.has], fun _ _ h => by cases h⟩
set_option maxRecDepth 100000 in
theorem PM.hasN {D : DataW Value} {p : Nat → Option (List Int)} (h : PM D p) (i : Nat) : Maps.has D (.int .i64 (i : Int)) = (p i).isSome := by
  rw [Bool.eq_iff_iff, h.has]
  constructor
  · rintro ⟨j, hj, hp⟩
    have : i = j := by omega
    subst this
    exact hp
  · intro hp
    exact ⟨i, rfl, hp⟩
set_option maxRecDepth 100000 in
theorem PM.put {D : DataW Value} {p : Nat → Option (List Int)} (h : PM D p) (hD : IsMap D) (i : Nat) (l : List Int) : PM (D.put (.int .i64 (i : Int)) (.held (.agg (u8s l).toArray))) (upf p i (some l)) := by
  constructor
  · intro x
    by_cases hx : x = (i : Int)
    · subst hx
      rw [has_put_same hD (keyLit _)]
      simp only [true_iff]
      exact ⟨i, rfl, by simp [upf]⟩
    · rw [has_put_other (by intro e; exact hx (by simpa using e)), h.has]
      constructor
      · rintro ⟨j, rfl, hp⟩
        exact ⟨j, rfl, by rw [upf_other p _ (by omega)]; exact hp⟩
      · rintro ⟨j, rfl, hp⟩
        exact ⟨j, rfl, by rw [upf_other p _ (by omega)] at hp; exact hp⟩
  · intro j x hx z
    by_cases he : j = i
    · subst he
      rw [upf_same] at hx
      simp only [Option.some.injEq] at hx
      subst hx
      exact atKey_put_same hD (keyLit _) _ _
    · rw [upf_other p _ he] at hx
      rw [atKey_put_other (by intro e; apply he; simp at e; omega)]
      exact h.val j x hx z
set_option maxRecDepth 100000 in
theorem PM.perm {D : DataW Value} {d : Dk} {w : World} {mb q : Nat} (h : PM D d.pend) (hd : d.Ok) (ho : w.ownsMap Try.prog 3 rdV mb q D) : ((d.pens d.n).map fun i : Nat => (i : Int)).Perm (intKeys D) := by
  refine CollectedI.perm (left := fun _ => false) ⟨?_, fun x => ?_⟩ ho key_int un_int (fun _ => rfl)
  · exact List.pairwise_map.2 ((d.pens_nodup d.n).imp (fun hne e => hne (by omega)))
  · rw [h.has]
    simp only [List.mem_map, Dk.pens_mem, and_true]
    constructor
    · rintro ⟨i, ⟨_, hp⟩, rfl⟩
      exact ⟨i, rfl, hp⟩
    · rintro ⟨i, rfl, hp⟩
      obtain ⟨l, hl⟩ := Option.isSome_iff_exists.1 hp
      exact ⟨i, ⟨(hd.pend i l hl).1, hp⟩, rfl⟩
set_option maxRecDepth 100000 in
theorem PM.size {D : DataW Value} {d : Dk} {w : World} {mb q : Nat} (h : PM D d.pend) (hd : d.Ok) (ho : w.ownsMap Try.prog 3 rdV mb q D) : Maps.size D = d.rank d.n := by
  have hp := (h.perm hd ho).length_eq
  obtain ⟨es, rfl⟩ := ho.isMap
  simpa [intKeys, Maps.size, Dk.rank] using hp.symm
set_option maxRecDepth 100000 in
theorem PM.sorted {D : DataW Value} {d : Dk} {w : World} {mb q : Nat} (h : PM D d.pend) (hd : d.Ok) (ho : w.ownsMap Try.prog 3 rdV mb q D) {ss : List Int} (hs : ss.Perm (intKeys D)) : ss.mergeSort (fun x y => decide (x ≤ y)) = (d.pens d.n).map fun i : Nat => (i : Int) := by
  have h1 : ss.mergeSort leI = ((d.pens d.n).map fun i : Nat => (i : Int)).mergeSort leI := mergeSort_of_perm_i (hs.trans (h.perm hd ho).symm)
  refine h1.trans (List.mergeSort_of_pairwise ?_)
  refine List.pairwise_map.2 ?_
  have h2 : (List.range d.n).Pairwise (· < ·) := List.pairwise_lt_range
  refine (h2.sublist (List.filter_sublist (p := fun j => (d.pend j).isSome))).imp (fun hlt => ?_)
  simp only [leI, decide_eq_true_eq]
  omega

/-! What is kept. -/
structure KeptAt (w : World) (kv : Value) (n : Nat) (ds : Nat → List Int) : Prop where
  ex : ∃ p cap, kv = .slice p n cap ∧ n ≤ cap ∧ (0 < n → ∃ kb tl, p = some ⟨kb, 0, none⟩ ∧ Row w kb (u8s (flatK ds n) ++ tl) 54)
def kbOf : Value → List Nat
  | .slice (some a) n _ => if n = 0 then [] else [a.block]
  | _ => []
def foot (g mb : Nat) (kv : Value) : List Nat := g :: mb :: kbOf kv
def drow (kv : Value) (mb : Nat) (s l : Int) (o : Bool) : List Value := [kv, .map (some mb), .int .i64 s, .int .i64 l, .bool o]
structure DkAt (w : World) (g mb : Nat) (kv : Value) (d : Dk) : Prop where
  ok : d.Ok
  row : Row w g (drow kv mb d.steps d.left d.off) 47
  kept : KeptAt w kv d.n d.kept
  map : ∃ q D, w.ownsMap Try.prog 3 rdV mb q D ∧ PM D d.pend
set_option maxRecDepth 100000 in
theorem row_ne_map {w : World} {g m : Nat} {l : List Value} {t : TypeId} {es : Array MapEntry} {c : Nat} (hr : Row w g l t) (hm : w.heap[m]? = some (.map es c)) : g ≠ m := by
  rintro rfl
  rw [Row, hm] at hr
  cases hr
section
variable {w w' : World} {g mb n : Nat} {kv : Value} {d d' : Dk} {ds : Nat → List Int}
set_option maxRecDepth 100000 in
theorem KeptAt.some (h : KeptAt w kv n ds) (hn : 0 < n) : ∃ kb cap tl, kv = .slice (some ⟨kb, 0, none⟩) n cap ∧ n ≤ cap ∧ Row w kb (u8s (flatK ds n) ++ tl) 54 := by
  obtain ⟨p, cap, rfl, hc, h2⟩ := h.ex
  obtain ⟨kb, tl, rfl, hr⟩ := h2 hn
  exact ⟨kb, cap, tl, rfl, hc, hr⟩
set_option maxRecDepth 100000 in
theorem KeptAt.slice (h : KeptAt w kv n ds) : ∃ p cap, kv = .slice p n cap := by
  obtain ⟨p, cap, rfl, _⟩ := h.ex
  exact ⟨p, cap, rfl⟩
set_option maxRecDepth 100000 in
theorem KeptAt.keep (h : KeptAt w kv n ds) (hk : ∀ k ∈ kbOf kv, w'.heap[k]? = w.heap[k]?) : KeptAt w' kv n ds := by
  obtain ⟨p, cap, rfl, hc, h2⟩ := h.ex
  refine ⟨p, cap, rfl, hc, fun hn => ?_⟩
  obtain ⟨kb, tl, rfl, hr⟩ := h2 hn
  refine ⟨kb, tl, rfl, ?_⟩
  unfold Row
  rw [hk kb (by simp [kbOf]; omega)]
  exact hr
set_option maxRecDepth 100000 in
theorem KeptAt.lt (h : KeptAt w kv n ds) : ∀ k ∈ kbOf kv, k < w.heap.size := by
  obtain ⟨p, cap, rfl, hc, h2⟩ := h.ex
  intro k hk
  rcases Nat.eq_zero_or_pos n with hn | hn
  · subst hn; cases p <;> simp [kbOf] at hk
  · obtain ⟨kb, tl, rfl, hr⟩ := h2 hn
    have : k = kb := by simp [kbOf] at hk; exact hk.2
    subst this
    exact hr.lt
set_option maxRecDepth 100000 in
theorem DkAt.keep (h : DkAt w g mb kv d) (hk : ∀ k ∈ foot g mb kv, w'.heap[k]? = w.heap[k]?) : DkAt w' g mb kv d := by
  refine ⟨h.ok, ?_, h.kept.keep (fun k hh => hk k (by simp [foot, hh])), ?_⟩
  · unfold Row; rw [hk g (by simp [foot])]; exact h.row
  · obtain ⟨q, D, ⟨es, c, hb, F, hs, hD⟩, pm⟩ := h.map
    exact ⟨q, D, ⟨es, c, by rw [hk mb (by simp [foot])]; exact hb, F, hs, hD⟩, pm⟩
set_option maxRecDepth 100000 in
theorem DkAt.lt (h : DkAt w g mb kv d) : ∀ k ∈ foot g mb kv, k < w.heap.size := by
  intro k hk
  simp only [foot, List.mem_cons] at hk
  rcases hk with rfl | rfl | hk
  · exact h.row.lt
  · obtain ⟨q, D, ho, _⟩ := h.map
    exact ho.lt
  · exact h.kept.lt k hk
set_option maxRecDepth 100000 in
theorem DkAt.below (h : DkAt w g mb kv d) (hb : Below w.heap.size w w') : DkAt w' g mb kv d := h.keep (fun k hk => hb.block k (h.lt k hk))
set_option maxRecDepth 100000 in
theorem DkAt.drew (h : DkAt w g mb kv d) : DkAt w.drew g mb kv d := ⟨h.ok, h.row, ⟨h.kept.ex⟩, h.map⟩
set_option maxRecDepth 100000 in
theorem DkAt.mem {w0 : World} {rows : List (Nat × List Value × TypeId)} (h : DkAt w0 g mb kv d) (hm : Mem w0 [] w rows) : DkAt w g mb kv d := h.below hm.below
set_option maxRecDepth 100000 in
theorem DkAt.isMap (h : DkAt w g mb kv d) : ∃ es c, w.heap[mb]? = some (.map es c) := by
  obtain ⟨q, D, ⟨es, c, hb, _⟩, _⟩ := h.map
  exact ⟨es, c, hb⟩
set_option maxRecDepth 100000 in
theorem DkAt.ne_gm (h : DkAt w g mb kv d) : g ≠ mb := by
  obtain ⟨es, c, hb⟩ := h.isMap
  exact row_ne_map h.row hb
set_option maxRecDepth 100000 in
theorem DkAt.ne_k (h : DkAt w g mb kv d) : ∀ k ∈ kbOf kv, k ≠ g ∧ k ≠ mb := by
  obtain ⟨es, c, hb⟩ := h.isMap
  obtain ⟨p, cap, rfl, hc, h2⟩ := h.kept.ex
  intro k hk
  rcases Nat.eq_zero_or_pos d.n with hn | hn
  · rw [hn] at hk; cases p <;> simp [kbOf] at hk
  · obtain ⟨kb, tl, rfl, hr⟩ := h2 hn
    have : k = kb := by simp [kbOf] at hk; exact hk.2
    subst this
    refine ⟨?_, row_ne_map hr hb⟩
    rintro rfl
    have h3 := h.row
    unfold Row at h3 hr
    rw [h3] at hr
    simp only [Option.some.injEq, Obj.cells.injEq] at hr
    exact absurd hr.2.1 (by decide)
end

/-- The named blocks may have turned, new ones may have come. -/
structure UpdS (L : List Nat) (w w' : World) : Prop where
  os : w'.os = w.os
  tape : w'.tape = w.tape
  output : w'.output = w.output
  size : w.heap.size ≤ w'.heap.size
  block : ∀ k, k < w.heap.size → k ∉ L → w'.heap[k]? = w.heap[k]?
section
variable {w w' w'' : World} {L M : List Nat}
set_option maxRecDepth 100000 in
theorem UpdS.refl (L : List Nat) (w : World) : UpdS L w w := ⟨rfl, rfl, rfl, Nat.le_refl _, fun _ _ _ => rfl⟩
set_option maxRecDepth 100000 in
theorem UpdS.trans (h : UpdS L w w') (k : UpdS L w' w'') : UpdS L w w'' :=
  ⟨k.os.trans h.os, k.tape.trans h.tape, k.output.trans h.output, Nat.le_trans h.size k.size, fun i hi hn => (k.block i (Nat.lt_of_lt_of_le hi h.size) hn).trans (h.block i hi hn)⟩
set_option maxRecDepth 100000 in
theorem UpdS.mono (h : UpdS L w w') (hs : ∀ k ∈ L, k ∈ M) : UpdS M w w' := ⟨h.os, h.tape, h.output, h.size, fun k hk hn => h.block k hk (fun hh => hn (hs k hh))⟩
set_option maxRecDepth 100000 in
theorem UpdS.of_mem {rows : List (Nat × List Value × TypeId)} (h : Mem w L w' rows) : UpdS L w w' := ⟨h.os, h.tape, h.output, h.size, h.block⟩
set_option maxRecDepth 100000 in
theorem UpdS.of_upd {g : Nat} (h : Upd g w w') (hg : g ∈ L) : UpdS L w w' := ⟨h.os, h.tape, h.output, h.size, fun k hk hn => h.block k hk (fun e => hn (e ▸ hg))⟩
set_option maxRecDepth 100000 in
theorem UpdS.of_below (h : Below w.heap.size w w') : UpdS L w w' := ⟨h.os, h.tape, h.output, h.size, fun k hk _ => h.block k hk⟩
set_option maxRecDepth 100000 in
theorem UpdS.row {k : Nat} {l : List Value} {t : TypeId} (h : UpdS L w w') (r : Row w k l t) (hn : k ∉ L) : Row w' k l t := by
  unfold Row; rw [h.block k r.lt hn]; exact r
end
/-- A slice of bytes that holds these, apart from the named blocks. -/
def SlA (w : World) (L : List Nat) (v : Value) (cs : List Int) : Prop :=
  ∃ p cap, v = .slice p cs.length cap ∧ cs.length ≤ cap ∧ (0 < cs.length → ∃ b off, p = some ⟨b, off, none⟩ ∧ b ∉ L ∧ Seg w b off cs)
section
variable {w w' w0 : World} {L : List Nat} {v : Value} {cs : List Int}
set_option maxRecDepth 100000 in
theorem SlA.nil (w : World) (L : List Nat) : SlA w L (.slice none 0 0) [] := ⟨none, 0, rfl, Nat.le_refl _, fun h => absurd h (by simp)⟩
set_option maxRecDepth 100000 in
theorem SlA.upd (h : SlA w L v cs) (hu : UpdS L w w') : SlA w' L v cs := by
  obtain ⟨p, cap, rfl, hc, h2⟩ := h
  refine ⟨p, cap, rfl, hc, fun h0 => ?_⟩
  obtain ⟨b, off, rfl, hb, hs⟩ := h2 h0
  refine ⟨b, off, rfl, hb, fun j hj => ?_⟩
  rw [World.cell?_of_block (w := w) (a := ⟨b, off + j, none⟩) (hu.block b (hs.lt h0) hb)]
  exact hs j hj
set_option maxRecDepth 100000 in
theorem SlA.below (h : SlA w L v cs) (hb : Below w.heap.size w w') : SlA w' L v cs := h.upd (UpdS.of_below hb)
set_option maxRecDepth 100000 in
theorem SlA.old (h : SlA w L v cs) : SlOld w v cs := by
  obtain ⟨p, cap, rfl, hc, h2⟩ := h
  refine ⟨p, cap, rfl, hc, fun h0 => ?_⟩
  obtain ⟨b, off, rfl, hb, hs⟩ := h2 h0
  exact ⟨b, off, rfl, hs⟩
set_option maxRecDepth 100000 in
theorem SlA.of_row {g : Nat} {t : TypeId} (hr : Row w g (u8s cs) t) (n : Nat) (hn : n = cs.length) (hg : g ∉ L) (cap : Nat) (hc : n ≤ cap) : SlA w L (.slice (some ⟨g, 0, none⟩) n cap) cs := by
  subst hn
  exact ⟨_, cap, rfl, hc, fun _ => ⟨g, 0, rfl, hg, Seg.row hr⟩⟩
set_option maxRecDepth 100000 in
theorem SlA.of_old {rows : List (Nat × List Value × TypeId)} (h : SlOld w0 v cs) (hm : Mem w0 [] w rows) (hL : ∀ k ∈ L, w0.heap.size ≤ k) : SlA w L v cs := by
  obtain ⟨p, cap, rfl, hc, h2⟩ := h
  refine ⟨p, cap, rfl, hc, fun h0 => ?_⟩
  obtain ⟨b, off, rfl, hs⟩ := h2 h0
  exact ⟨b, off, rfl, fun hb => absurd (hL b hb) (by have := hs.lt h0; omega), hs.mem hm (by simp)⟩
end
/-! What a caller holds: its own rows, and a disk apart from them. -/
structure Sd (w0 w : World) (g mb : Nat) (kv : Value) (d : Dk) (rows : List (Nat × List Value × TypeId)) : Prop where
  mem : Mem w0 [] w rows
  dk : DkAt w g mb kv d
  new : ∀ k ∈ foot g mb kv, w0.heap.size ≤ k
  apart : ∀ r ∈ rows, r.1 ∉ foot g mb kv
section
variable {w0 w w' : World} {g mb : Nat} {kv : Value} {d d' : Dk} {rows : List (Nat × List Value × TypeId)}
set_option maxRecDepth 100000 in
theorem Sd.turn (h : Sd w0 w g mb kv d rows) (hd : DkAt w' g mb kv d') (hu : UpdS (foot g mb kv) w w') : Sd w0 w' g mb kv d' rows := by
  refine ⟨⟨hu.os.trans h.mem.os, hu.tape.trans h.mem.tape, hu.output.trans h.mem.output, Nat.le_trans h.mem.size hu.size, fun k hk hn => ?_, fun r hr => hu.row (h.mem.row r hr) (h.apart r hr), h.mem.nodup, h.mem.fresh⟩, hd, h.new, h.apart⟩
  refine (hu.block k (Nat.lt_of_lt_of_le hk h.mem.size) (fun hh => ?_)).trans (h.mem.block k hk hn)
  have := h.new k hh
  omega
set_option maxRecDepth 100000 in
theorem Sd.below (h : Sd w0 w g mb kv d rows) (hb : Below w.heap.size w w') : Sd w0 w' g mb kv d rows := ⟨h.mem.call hb, h.dk.below hb, h.new, h.apart⟩
set_option maxRecDepth 100000 in
theorem Sd.drew (h : Sd w0 w g mb kv d rows) : Sd w0 w.drew g mb kv d rows := ⟨h.mem.drew, h.dk.drew, h.new, h.apart⟩
set_option maxRecDepth 100000 in
theorem Sd.tail {r : Nat × List Value × TypeId} (h : Sd w0 w g mb kv d (r :: rows)) : Sd w0 w g mb kv d rows := ⟨h.mem.tail, h.dk, h.new, fun q hq => h.apart q (List.mem_cons_of_mem _ hq)⟩
set_option maxRecDepth 100000 in
theorem Sd.alloc (h : Sd w0 w g mb kv d rows) (l : List Value) (t : TypeId) : Sd w0 (w.alloc (.cells l.toArray t)) g mb kv d ((w.heap.size, l, t) :: rows) := by
  refine ⟨h.mem.alloc l t, h.dk.below ((Below.refl _ _).alloc (Nat.le_refl _) _), h.new, fun r hr => ?_⟩
  rcases List.mem_cons.1 hr with rfl | hr
  · intro hk
    have := h.dk.lt _ hk
    simp at this
  · exact h.apart r hr
set_option maxRecDepth 100000 in
theorem Sd.row (h : Sd w0 w g mb kv d rows) {q : Nat} {l : List Value} {t : TypeId} (hb : Below w.heap.size w w') (hr : Row w' q l t) (hq : w.heap.size ≤ q) : Sd w0 w' g mb kv d ((q, l, t) :: rows) := by
  refine ⟨h.mem.callNew hb hr hq, h.dk.below hb, h.new, fun r hr => ?_⟩
  rcases List.mem_cons.1 hr with rfl | hr
  · intro hk
    have := h.dk.lt _ hk
    simp at this
    omega
  · exact h.apart r hr
set_option maxRecDepth 100000 in
theorem Sd.upd (h : Sd w0 w g mb kv d rows) (i : Nat) {q : Nat} {l l' : List Value} {t : TypeId} (hi : rows[i]? = some (q, l, t)) (hu : Upd q w w') (hr : Row w' q l' t) : Sd w0 w' g mb kv d (rows.set i (q, l', t)) := by
  have hmem := List.mem_of_getElem? hi
  have ha := h.apart _ hmem
  refine ⟨h.mem.upd i hi hu hr, h.dk.keep (fun k hk => hu.block k (h.dk.lt k hk) (fun e => ha (e ▸ hk))), h.new, fun r hr => ?_⟩
  rcases List.mem_or_eq_of_mem_set hr with h1 | h1
  · exact h.apart r h1
  · subst h1
    exact ha
end
end Go.Proofs.Ytbaijhlkkeongaa
