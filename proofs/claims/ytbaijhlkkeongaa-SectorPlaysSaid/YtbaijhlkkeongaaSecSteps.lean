/- A slice of steps as it is read; what the numbers of a disk keep. -/
import Derived.Test.YtbaijhlkkeongaaSecOpen
import Derived.Test.YtbaijhlkkeongaaSecCopy
namespace Go.Proofs.Ytbaijhlkkeongaa
open Go Go.ChangeShapes Go.WideShapes Go.ChangeAt Go.RowKit
set_option maxRecDepth 100000 in
theorem un_stps : Try.prog.underlying 22 = some (.slice 30) := Try.underlying22
set_option maxRecDepth 100000 in
theorem un_stp : ∃ fs, Try.prog.underlying 30 = some (.struct fs) ∧ (fs[0]?).map (fun f => (f.type, f.offset)) = some (3, 0) ∧ (fs[1]?).map (fun f => (f.type, f.offset)) = some (3, 1) ∧ (fs[2]?).map (fun f => (f.type, f.offset)) = some (28, 2) ∧ (fs[3]?).map (fun f => (f.type, f.offset)) = some (3, 3) ∧ (fs[4]?).map (fun f => (f.type, f.offset)) = some (28, 4) ∧ fs.size = 5 :=
  ⟨match Try.prog.underlying 30 with | some (.struct fs) => fs | _ => #[], by kernel_rfl, by kernel_rfl, by kernel_rfl, by kernel_rfl, by kernel_rfl, by kernel_rfl, by kernel_rfl⟩
set_option maxRecDepth 100000 in
theorem cells_stp : Try.prog.cellsOf 30 = 5 := by kernel_rfl
set_option maxRecDepth 100000 in
theorem cells_int : Try.prog.cellsOf 3 = 1 := by kernel_rfl
set_option maxRecDepth 100000 in
theorem cells_bs : Try.prog.cellsOf 28 = 1 := by kernel_rfl
set_option maxRecDepth 100000 in
theorem info_stp : (Try.prog.info? 30).map (fun i => (i.zero, i.size)) = some (some (.agg [Value.int .i64 0, .int .i64 0, .slice none 0 0, .int .i64 0, .slice none 0 0].toArray), 5) := by kernel_rfl
set_option maxRecDepth 100000 in
theorem zero_stp : ∀ w, (zeroValue 30).run Try.prog w = .ok (.agg [Value.int .i64 0, .int .i64 0, .slice none 0 0, .int .i64 0, .slice none 0 0].toArray) w := (zero_of_info info_stp).1
set_option maxRecDepth 100000 in
theorem sz_stp : (Try.prog.info? 30).map (·.size) = some 5 := (zero_of_info info_stp).2
structure Stp where
  wh : Int
  i : Int
  pb : Option Addr
  cb : Nat
  bs : List Int
  at' : Int
  pc : Option Addr
  cc : Nat
  cs : List Int
def stp0 : Stp := ⟨0, 0, none, 0, [], 0, none, 0, []⟩
def Stp.row (x : Stp) : List Value := [.int .i64 x.wh, .int .i64 x.i, .slice x.pb x.bs.length x.cb, .int .i64 x.at', .slice x.pc x.cs.length x.cc]
structure Stp.Good (x : Stp) (W : World) : Prop where
  sb : SlOld W (.slice x.pb x.bs.length x.cb) x.bs
  bb : Bytes x.bs
  sc : SlOld W (.slice x.pc x.cs.length x.cc) x.cs
  bc : Bytes x.cs
  hi : x.at' ≤ 9223372036854775807
set_option maxRecDepth 100000 in
theorem open_bsCell {H : Type} {enc : TypeId × Value → H} {W : World} {v : Value} {n : Nat} {x : DataW H × List MemPlace} (hf : DataW.trod enc Try.prog W 0 (fun _ => true) true n 28 [v] = some x) :
    ∃ (p : Option Addr) (c : Nat) (cs : List Int), v = .slice p cs.length c ∧ SlOld W (.slice p cs.length c) cs ∧ Bytes cs := by
  rcases open_ints un_bs un_u8 cells_u8 hf with ⟨hcs, _⟩ | ⟨x, l, c, zs, hcs, _, hl, _, hz, _, hcell, hwz⟩
  · simp only [List.cons.injEq, and_true] at hcs
    exact ⟨none, 0, [], hcs, ⟨none, 0, rfl, Nat.le_refl _, fun h => absurd h (by simp)⟩, by intro y hy; cases hy⟩
  · simp only [List.cons.injEq, and_true] at hcs
    have hzl : zs.length = c := by simpa using hz
    have htl : (zs.take l).length = l := by simp; omega
    refine ⟨some x, c, zs.take l, by rw [htl]; exact hcs, ⟨some x, c, rfl, by rw [htl]; exact hl, fun h0 => ?_⟩, ?_⟩
    · obtain ⟨b, off, rfl, hc⟩ := ints_at hcell (by omega)
      exact ⟨b, off, rfl, Seg.take (fun j hj => hc j hj) l⟩
    · intro y hy
      have := bounds_u8 (hwz y (List.mem_of_mem_take hy))
      omega
set_option maxRecDepth 100000 in
theorem open_stp {H : Type} {enc : TypeId × Value → H} {W : World} {cs : List Value} {n : Nat} {x : DataW H × List MemPlace} (hf : DataW.trod enc Try.prog W 0 (fun _ => true) true n 30 cs = some x) : ∃ s : Stp, cs = s.row ∧ s.Good W := by
  obtain ⟨fs, hu, h0, h1, h2, h3, h4, hsz⟩ := un_stp
  obtain ⟨xs, m, rfl, _, hl, hxl, hget⟩ := DataW.trod_struct hu hf
  rw [cells_stp] at hl
  have key : ∀ (i : Nat) (T : TypeId), (fs[i]?).map (fun f => (f.type, f.offset)) = some (T, i) → Try.prog.cellsOf T = 1 → i < 5 → ∃ y c, cs[i]? = some c ∧ DataW.trod enc Try.prog W 0 (fun _ => true) true m T [c] = some y := by
    intro i T hi hc hi5
    obtain ⟨f, hf1, hf2⟩ := Option.map_eq_some_iff.1 hi
    simp only [Prod.mk.injEq] at hf2
    obtain ⟨rfl, hfo⟩ := hf2
    have hg := hget i f hf1
    rw [hc, hfo] at hg
    have hx : xs[i]? = some (xs[i]'(by omega)) := by simp [show i < xs.length by omega]
    rw [hx] at hg
    have hc1 : cs[i]? = some (cs[i]'(by omega)) := by simp [show i < cs.length by omega]
    have hd : (cs.drop i).take 1 = [cs[i]'(by omega)] := by
      rw [List.drop_eq_getElem_cons (show i < cs.length by omega)]
      rfl
    rw [hd] at hg
    exact ⟨_, _, hc1, hg⟩
  obtain ⟨y0, c0, e0, t0⟩ := key 0 _ h0 cells_int (by omega)
  obtain ⟨y1, c1, e1, t1⟩ := key 1 _ h1 cells_int (by omega)
  obtain ⟨y2, c2, e2, t2⟩ := key 2 _ h2 cells_bs (by omega)
  obtain ⟨y3, c3, e3, t3⟩ := key 3 _ h3 cells_int (by omega)
  obtain ⟨y4, c4, e4, t4⟩ := key 4 _ h4 cells_bs (by omega)
  obtain ⟨z0, g0, _, _⟩ := DataW.trod_int un_int t0
  obtain ⟨z1, g1, _, _⟩ := DataW.trod_int un_int t1
  obtain ⟨z3, g3, _, w3⟩ := DataW.trod_int un_int t3
  obtain ⟨p2, k2, l2, g2, s2, b2⟩ := open_bsCell t2
  obtain ⟨p4, k4, l4, g4, s4, b4⟩ := open_bsCell t4
  simp only [List.cons.injEq, and_true] at g0 g1 g3
  subst g0 g1 g2 g3 g4
  refine ⟨⟨z0, z1, p2, k2, l2, z3, p4, k4, l4⟩, ?_, ⟨s2, b2, s4, b4, ?_⟩⟩
  · match cs, hl, e0, e1, e2, e3, e4 with
    | [a, b, c, d, e], _, e0, e1, e2, e3, e4 =>
      simp only [List.getElem?_cons_zero, List.getElem?_cons_succ, Option.some.injEq] at e0 e1 e2 e3 e4
      subst e0 e1 e2 e3 e4
      rfl
  · exact (bounds_i64 w3).2
set_option maxRecDepth 100000 in
theorem open_stps {H : Type} {enc : TypeId × Value → H} {W : World} {base : Nat} {v : Value} {d : DataW H} {ps : List MemPlace} (hok : Value.okWide Try.prog W .any base 22 v) (h : DataW.Trod enc Try.prog W 0 (fun _ => true) true 22 v d ps) :
    ∃ (p : Option Addr) (len cap b o : Nat) (X : Nat → Stp), v = .slice p len cap ∧ (0 < len → p = some ⟨b, o, none⟩) ∧
      ∀ i, i < len → (∀ j u, (X i).row[j]? = some u → W.cell? ⟨b, o + i * 5 + j, none⟩ = some u) ∧ (X i).Good W := by
  obtain ⟨a, len, cap, rfl⟩ := okWide_slice un_stps hok
  obtain ⟨fuel, hf⟩ := h
  rcases Go.Deep.open_slice un_stps hf with ⟨hcs, _⟩ | ⟨x, l, c, m, n, D, Pl, hcs, _, hl, _, hm, _, hel⟩
  · simp [Value.cells] at hcs
    obtain ⟨rfl, rfl, rfl⟩ := hcs
    exact ⟨none, 0, 0, 0, 0, fun _ => stp0, rfl, fun h => absurd h (by omega), fun i hi => absurd hi (by omega)⟩
  · simp [Value.cells] at hcs
    obtain ⟨rfl, rfl, rfl⟩ := hcs
    have hm' : m = cap := by simpa using hm
    rw [cells_stp] at hel
    by_cases h0 : 0 < len
    · obtain ⟨b, o, spot⟩ := x
      have hspot : spot = none := by
        obtain ⟨cs', h1, _⟩ := hel 0 (by omega)
        obtain ⟨_, h2, h3⟩ := World.cells?_some h1
        have h4 := h3 0 (by omega)
        rw [List.getElem?_eq_getElem (by omega)] at h4
        simpa [Addr.add] using World.cell?_spot h4
      subst hspot
      haveI : Inhabited Stp := ⟨stp0⟩
      obtain ⟨f, hf⟩ := Go.Deep.choose_lt (α := Stp) (n := len) (p := fun i t => (∀ j u, t.row[j]? = some u → W.cell? ⟨b, o + i * 5 + j, none⟩ = some u) ∧ t.Good W)
        (fun i hi => by
          obtain ⟨cs', h1, h2⟩ := hel i (by omega)
          obtain ⟨s, hs, hg⟩ := open_stp h2
          obtain ⟨_, h3, h4⟩ := World.cells?_some h1
          refine ⟨s, fun j u hu => ?_, hg⟩
          rw [← hs] at hu
          have hj : j < 5 := by have := (List.getElem?_eq_some_iff.1 hu).1; omega
          have h5 := h4 j hj
          rw [add_at, add_at] at h5
          rw [h5]
          exact hu)
      exact ⟨_, len, cap, b, o, f, rfl, fun _ => rfl, hf⟩
    · exact ⟨some x, len, cap, 0, 0, fun _ => stp0, rfl, fun h => absurd h h0, fun i hi => absurd hi (by omega)⟩
/-! What the numbers of a disk keep. -/
structure Dk.In (d : Dk) (k : Int) : Prop where
  sane : d.Sane
  s0 : 0 ≤ d.steps
  sk : d.steps ≤ k
  l0 : 0 ≤ d.left
  l1 : d.left ≤ 9223372036854775807
set_option maxRecDepth 100000 in
theorem Dk.In.num {d : Dk} {k : Int} (h : d.In k) (hk : k ≤ 100) : d.Num := ⟨⟨h.s0, by have := h.sk; omega⟩, h.l0, h.l1⟩
set_option maxRecDepth 100000 in
theorem in_new (n : Nat) : (Dk.new n).In 0 := ⟨(by intro h; cases h), Int.le_refl _, Int.le_refl _, Int.le_refl _, by simp [Dk.new]⟩
set_option maxRecDepth 100000 in
theorem Dk.In.step {d : Dk} {k : Int} (h : d.In k) : d.step.In (k + 1) := by
  obtain ⟨h1, h2, h3, h4, h5⟩ := h
  unfold Dk.Sane at h1
  refine ⟨?_, ?_, ?_, ?_, ?_⟩
  · unfold Dk.Sane
    simp only [Dk.step]
    by_cases hl : 0 < d.left
    · simp only [hl, if_true, decide_eq_true_eq]
      exact fun h => h
    · simp only [hl, if_false]
      exact h1
  · simp only [Dk.step]; omega
  · simp only [Dk.step]; omega
  · simp only [Dk.step]; split <;> omega
  · simp only [Dk.step]; split <;> omega
set_option maxRecDepth 100000 in
theorem Dk.In.more {d : Dk} {k : Int} (h : d.In k) : d.In (k + 1) := ⟨h.sane, h.s0, by have := h.sk; omega, h.l0, h.l1⟩
set_option maxRecDepth 100000 in
theorem Dk.In.write {d : Dk} {k : Int} (h : d.In k) (i : Int) (bs : List Int) : (d.write i bs).In (k + 1) := by
  unfold Dk.write
  split
  · have := h.step
    exact ⟨this.sane, this.s0, this.sk, this.l0, this.l1⟩
  · exact h.step
set_option maxRecDepth 100000 in
theorem Dk.In.flush {d : Dk} {k : Int} (h : d.In k) : d.flush.In (k + 1) := by
  unfold Dk.flush
  split
  · exact h.step
  · have := h.step
    exact ⟨this.sane, this.s0, this.sk, this.l0, this.l1⟩
set_option maxRecDepth 100000 in
theorem Dk.In.power {d : Dk} {k : Int} (h : d.In k) (x : Int) (hx : x ≤ 9223372036854775807) : (d.power x).In (k + 1) := by
  unfold Dk.power
  split
  · exact h.more
  · rename_i ho
    have h0 : d.off = false := by simpa using ho
    refine ⟨?_, h.s0, h.more.sk, ?_, ?_⟩
    · intro h2
      rw [show ({ d with left := max x 0 } : Dk).off = d.off from rfl, h0] at h2
      cases h2
    · show 0 ≤ max x 0; omega
    · show max x 0 ≤ _; omega
set_option maxRecDepth 100000 in
theorem Dk.In.crash {d : Dk} {k : Int} (h : d.In k) (cs : List Int) : (d.crash cs).In (k + 1) := ⟨fun _ => rfl, h.s0, h.more.sk, Int.le_refl _, by simp [Dk.crash]⟩
section
variable {a : Act} {w : World} {dst : Option Tmp} {typ : TypeId} {pos : String} {aft : Array Edge} {gd : Option (Nat × Bool)}
set_option maxRecDepth 100000 in
theorem exec_ixS {x ix : Operand} {b o n cap : Nat} (i : Nat) {ii : Int} (hx : a.eval x = .slice (some ⟨b, o, none⟩) n cap) (hix : a.eval ix = .int .i64 ii) (hii : ii = (i : Int)) (hi : i < n) :
    (execOp a.eval { dst := dst, op := .indexAddr 22 x ix, type := typ, pos := pos, after := aft, guard := gd }).run Try.prog w = .ok (.value (.pointer (some ⟨b, o + i * 5, none⟩))) w := by
  subst hii
  have h0 : (0 : Int) ≤ (i : Int) ∧ (i : Int) < (n : Int) := by omega
  unfold execOp
  simp [hx, hix, Instr.indexAt, asIntOf, run_underlying un_stps, h0, add_at]
  intro h
  omega
end
end Go.Proofs.Ytbaijhlkkeongaa
