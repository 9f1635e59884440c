/- The document's reader of terms: its terms. -/
import Derived.Test.YtbphmcbflnaenaaDoorTmNumR
import Derived.Test.YtbphmcbflnaenaaDoorTmPlainR
namespace Go.Proofs.YtbphmcbflnaenaaDoor
open Go Go.RowKit

def ResTk (S p : List UInt8) (b b' : Bool) (S' : List UInt8) : Prop := S'.length ≤ S.length ∧ b' = (b || !Lib.hasPrefix S p) ∧ (Lib.hasPrefix S p = true → S' = S.drop p.length)
def ResN (S : List UInt8) (b b' : Bool) (v : Int) (S' : List UInt8) : Prop := S'.length ≤ S.length ∧ b' = (b || (numV ((ldg S).take 2)).isNone) ∧ (∀ u, numV ((ldg S).take 2) = some u → v = u ∧ S' = S.drop ((ldg S).take 2).length)
def ResT (f n : Nat) (S : List UInt8) (b b' : Bool) (n' : Nat) (S' : List UInt8) (t : Tm) : Prop := S'.length ≤ S.length ∧ n ≤ n' ∧ (b = true → b' = true ∧ n' = n + 1) ∧ (b = false → n' ≤ 62 + f) ∧ (b' = false → b = false ∧ n' ≤ 60 ∧ rfT f n S = some (t, S', n')) ∧ (b = false → b' = true → rfT f n S = none)
def ResW (f : Nat) (k : Int) (n : Nat) (S : List UInt8) (b b' : Bool) (n' : Nat) (S' : List UInt8) (x y : Tm) : Prop := S'.length ≤ S.length ∧ n ≤ n' ∧ (b = true → b' = true ∧ n' = n + 2) ∧ (b = false → n' ≤ 63 + f) ∧ (b' = false → b = false ∧ n' ≤ 60 ∧ rtwo (rfT f) k n S = some (mkT k 0 [x, y], S', n')) ∧ (b = false → b' = true → rtwo (rfT f) k n S = none)
set_option maxRecDepth 100000 in
theorem next_ok {f n : Nat} {S p S1 S2 : List UInt8} {b b1 b2 : Bool} {n1 : Nat} {x : Tm} (h1 : ResT f n S b b1 n1 S1 x) (h2 : ResTk S1 p b1 b2 S2) (hb : b = false → 61 ≤ f + n ∧ n ≤ 60) : b2 = false → 61 ≤ f + n1 ∧ n1 ≤ 60 := by
  intro h
  obtain ⟨_, m1, _, _, s1, _⟩ := h1
  have e2 := h2.2.1
  rw [h] at e2
  have hb1 : b1 = false := by cases b1 with | false => rfl | true => cases e2
  obtain ⟨hb0, h60, _⟩ := s1 hb1
  have := hb hb0
  omega
set_option maxRecDepth 100000 in
theorem next_n {f n : Nat} {S S1 : List UInt8} {b b1 : Bool} {n1 : Nat} {x : Tm} (h1 : ResT f n S b b1 n1 S1 x) (hf : f ≤ 61) (hn : n ≤ 200) : n1 ≤ 300 := by
  obtain ⟨_, _, t1, g1, _, _⟩ := h1
  cases b with
  | true => have := (t1 rfl).2; omega
  | false => have := g1 rfl; omega
set_option maxRecDepth 100000 in
theorem resW {f n : Nat} {k : Int} {S S1 S2 S3 S4 : List UInt8} {b b1 b2 b3 b4 : Bool} {n1 n2 : Nat} {x y : Tm} (h1 : ResT f n S b b1 n1 S1 x) (h2 : ResTk S1 [44] b1 b2 S2) (h3 : ResT f n1 S2 b2 b3 n2 S3 y) (h4 : ResTk S3 [41] b3 b4 S4) : ResW f k n S b b4 n2 S4 x y := by
  obtain ⟨l1, m1, t1, g1, s1, z1⟩ := h1
  obtain ⟨l2, e2, d2⟩ := h2
  obtain ⟨l3, m3, t3, g3, s3, z3⟩ := h3
  obtain ⟨l4, e4, d4⟩ := h4
  refine ⟨by omega, by omega, ?_, ?_, ?_, ?_⟩
  · intro h
    obtain ⟨hb1, hn1⟩ := t1 h
    rw [hb1] at e2
    obtain ⟨hb3, hn2⟩ := t3 e2
    rw [hb3] at e4
    exact ⟨e4, by omega⟩
  · intro h
    have hg := g1 h
    cases b2 with
    | true => have := (t3 rfl).2; omega
    | false => have := g3 rfl; omega
  · intro h
    rw [h] at e4
    have hb3 : b3 = false := by cases b3 with | false => rfl | true => cases e4
    obtain ⟨hb2, h60, hy⟩ := s3 hb3
    rw [hb2] at e2
    have hb1 : b1 = false := by cases b1 with | false => rfl | true => cases e2
    obtain ⟨hb0, h60', hx⟩ := s1 hb1
    rw [hb3] at e4
    rw [hb1] at e2
    have p1 : Lib.hasPrefix S1 [44] = true := by simpa using e2.symm
    have p2 : Lib.hasPrefix S3 [41] = true := by simpa using e4.symm
    refine ⟨hb0, h60, ?_⟩
    rw [d2 p1] at hy
    rw [d4 p2]
    unfold rtwo
    rw [hx]
    simp only [p1, if_true]
    have hy2 : rfT f n1 (S1.drop 1) = some (y, S3, n2) := hy
    rw [hy2]
    simp [p2]
  · intro h0 h
    unfold rtwo
    cases b1 with
    | true => rw [z1 h0 rfl]
    | false =>
      rw [(s1 rfl).2.2]
      cases hp : Lib.hasPrefix S1 [44] with
      | false => simp [hp]
      | true =>
        have hb2 : b2 = false := by rw [e2, hp]; rfl
        have hS2 := d2 hp
        simp only [hp, if_true]
        cases b3 with
        | true =>
          have hy := z3 hb2 rfl
          rw [hS2] at hy
          have hy2 : rfT f n1 (S1.drop 1) = none := hy
          rw [hy2]
        | false =>
          have hy := (s3 rfl).2.2
          rw [hS2] at hy
          have hy2 : rfT f n1 (S1.drop 1) = some (y, S3, n2) := hy
          rw [hy2]
          have p2 : Lib.hasPrefix S3 [41] = false := by
            rw [h] at e4
            simpa using e4.symm
          simp [p2]
set_option maxRecDepth 100000 in
theorem resBad (f n : Nat) (S : List UInt8) (t : Tm) : ResT f n S true true (n + 1) S t := ⟨Nat.le_refl _, by omega, fun _ => ⟨rfl, rfl⟩, (fun h => by cases h), (fun h => by cases h), (fun h => by cases h)⟩
set_option maxRecDepth 100000 in
theorem resNone {f n : Nat} {S : List UInt8} {t : Tm} (hn : n ≤ 60) (h : rfT f n S = none) : ResT f n S false true (n + 1) S t := ⟨Nat.le_refl _, by omega, (fun h => by cases h), (fun _ => by omega), (fun h => by cases h), (fun _ _ => h)⟩
set_option maxRecDepth 100000 in
theorem rfT_nil (f n : Nat) : rfT f n [] = none := by cases f <;> rfl
set_option maxRecDepth 100000 in
theorem rfT_deep {f n : Nat} (S : List UInt8) (h : 60 < n + 1) : rfT f n S = none := by
  match f, S with
  | 0, _ => rfl
  | _ + 1, [] => rfl
  | _ + 1, _ :: _ => rw [rfT, if_pos h]
set_option maxRecDepth 100000 in
theorem res1 {f n : Nat} {k v : Int} {c : UInt8} {s S' : List UInt8} {b' : Bool} (hc : c = 110 ∧ k = 1 ∨ c = 107 ∧ k = 2) (hn : n + 1 ≤ 60) (h : ResN s false b' v S') : ResT (f + 1) n (c :: s) false b' (n + 1) S' (mkT k v []) := by
  obtain ⟨l1, e1, d1⟩ := h
  have hor : c = 110 ∨ c = 107 ∨ c = 100 := by rcases hc with h | h <;> simp [h.1]
  refine ⟨by simp; omega, by omega, (fun h => by cases h), fun _ => by omega, fun hb => ⟨rfl, hn, ?_⟩, fun _ hb => ?_⟩
  · rw [rfT, if_neg (by omega), if_pos hor]
    cases hv : numV ((ldg s).take 2) with
    | none => rw [hv] at e1; rw [e1] at hb; cases hb
    | some u =>
      obtain ⟨rfl, rfl⟩ := d1 u hv
      rcases hc with ⟨rfl, rfl⟩ | ⟨rfl, rfl⟩ <;> simp
  · rw [rfT, if_neg (by omega), if_pos hor]
    cases hv : numV ((ldg s).take 2) with
    | none => rfl
    | some u => rw [hv] at e1; rw [e1] at hb; cases hb
set_option maxRecDepth 100000 in
theorem resD {f n : Nat} {v : Int} {s S1 S2 S3 S4 : List UInt8} {b1 b2 b3 b4 : Bool} {n3 : Nat} {x : Tm} (hn : n + 1 ≤ 60) (h1 : ResN s false b1 v S1) (h2 : ResTk S1 [40] b1 b2 S2) (h3 : ResT f (n + 1) S2 b2 b3 n3 S3 x) (h4 : ResTk S3 [41] b3 b4 S4) : ResT (f + 1) n (100 :: s) false b4 n3 S4 (mkT 5 v [x]) := by
  obtain ⟨l1, e1, d1⟩ := h1
  obtain ⟨l2, e2, d2⟩ := h2
  obtain ⟨l3, m3, t3, g3, s3, z3⟩ := h3
  obtain ⟨l4, e4, d4⟩ := h4
  refine ⟨by simp; omega, by omega, (fun h => by cases h), (fun _ => ?_), fun hb => ?_, fun _ hb => ?_⟩
  · cases b2 with
    | true => have := (t3 rfl).2; omega
    | false => have := g3 rfl; omega
  · rw [hb] at e4
    have hb3 : b3 = false := by cases b3 with | false => rfl | true => cases e4
    obtain ⟨hb2, h60, hx⟩ := s3 hb3
    rw [hb2] at e2
    have hb1 : b1 = false := by cases b1 with | false => rfl | true => cases e2
    rw [hb1] at e1 e2
    rw [hb3] at e4
    refine ⟨rfl, h60, ?_⟩
    rw [rfT, if_neg (by omega), if_pos (Or.inr (Or.inr rfl))]
    cases hv : numV ((ldg s).take 2) with
    | none => rw [hv] at e1; cases e1
    | some u =>
      obtain ⟨rfl, rfl⟩ := d1 u hv
      have p1 : Lib.hasPrefix (s.drop ((ldg s).take 2).length) [40] = true := by simpa using e2.symm
      have p2 : Lib.hasPrefix S3 [41] = true := by simpa using e4.symm
      have hx2 : rfT f (n + 1) ((s.drop ((ldg s).take 2).length).drop 1) = some (x, S3, n3) := by rw [d2 p1] at hx; exact hx
      have hS4 : S4 = S3.drop 1 := d4 p2
      simp only [p1, if_true, hx2, p2, hS4]
      rfl
  · rw [rfT, if_neg (by omega), if_pos (Or.inr (Or.inr rfl))]
    cases hv : numV ((ldg s).take 2) with
    | none => rfl
    | some u =>
      obtain ⟨rfl, rfl⟩ := d1 u hv
      have hb1 : b1 = false := by rw [e1, hv]; rfl
      simp only
      rw [if_neg (by decide), if_neg (by decide)]
      cases hp : Lib.hasPrefix (s.drop ((ldg s).take 2).length) [40] with
      | false => simp
      | true =>
        have hb2 : b2 = false := by rw [e2, hb1, hp]; rfl
        have hS2 := d2 hp
        simp only [if_true]
        cases b3 with
        | true =>
          have hx := z3 hb2 rfl
          rw [hS2] at hx
          have hx2 : rfT f (n + 1) ((s.drop ((ldg s).take 2).length).drop 1) = none := hx
          rw [hx2]
        | false =>
          have hx := (s3 rfl).2.2
          rw [hS2] at hx
          have hx2 : rfT f (n + 1) ((s.drop ((ldg s).take 2).length).drop 1) = some (x, S3, n3) := hx
          rw [hx2]
          have p2 : Lib.hasPrefix S3 [41] = false := by
            rw [hb] at e4
            simpa using e4.symm
          simp [p2]
set_option maxRecDepth 100000 in
theorem resP {f n : Nat} {k : Int} {p : List UInt8} {c : UInt8} {s S1 S2 : List UInt8} {b1 b2 : Bool} {n2 : Nat} {x y : Tm} (hn : n + 1 ≤ 60) (hc : ¬ (c = 110 ∨ c = 107 ∨ c = 100)) (hk : c = 115 ∧ p = [115, 101, 97, 108, 40] ∧ k = 3 ∨ c ≠ 115 ∧ p = [40] ∧ k = 4) (h1 : ResTk (c :: s) p false b1 S1) (h2 : ResW f k (n + 1) S1 b1 b2 n2 S2 x y) : ResT (f + 1) n (c :: s) false b2 n2 S2 (mkT k 0 [x, y]) := by
  obtain ⟨l1, e1, d1⟩ := h1
  obtain ⟨l2, m2, t2, g2, s2, z2⟩ := h2
  have e0 : rfT (f + 1) n (c :: s) = if Lib.hasPrefix (c :: s) p then rtwo (rfT f) k (n + 1) ((c :: s).drop p.length) else none := by
    rw [rfT, if_neg (by omega), if_neg hc]
    rcases hk with ⟨hc5, rfl, rfl⟩ | ⟨hc5, rfl, rfl⟩
    · rw [if_pos hc5]; rfl
    · rw [if_neg hc5]; rfl
  refine ⟨by omega, by omega, (fun h => by cases h), (fun _ => ?_), fun hb => ?_, fun _ hb => ?_⟩
  · cases b1 with
    | true => have := (t2 rfl).2; omega
    | false => have := g2 rfl; omega
  · obtain ⟨hb1, h60, hx⟩ := s2 hb
    rw [hb1] at e1
    have p1 : Lib.hasPrefix (c :: s) p = true := by simpa using e1.symm
    refine ⟨rfl, h60, ?_⟩
    rw [e0, if_pos p1, ← d1 p1]
    exact hx
  · rw [e0]
    cases hp : Lib.hasPrefix (c :: s) p with
    | false => rfl
    | true =>
      have hb1 : b1 = false := by rw [e1, hp]; rfl
      rw [if_pos rfl, ← d1 hp]
      exact z2 hb1 hb

set_option maxRecDepth 100000 in
theorem trk {lo hi g : Nat} {w w' : World} {s : Value} {l : List Tm} (h : SlT (FN lo hi) w s l) (hu : Upd g w w') (hg : g < lo ∨ hi ≤ g) : SlT (FN lo hi) w' s l := h.keep (Keeps.upd hu (fun b hb he => by have h9 := hb.1; have h6 := hb.2; omega))
section
variable {a : Act} {w : World} {dst : Option Tmp} {typ : TypeId} {pos : String} {aft : Array Edge} {gd : Option (Nat × Bool)} {P : Program}
set_option maxRecDepth 100000 in
theorem exec_eqB {t : TypeId} {x y : Operand} {rt : TypeId} (s s' : ByteArray) (v : Bool) (hx : a.eval x = .string s) (hy : a.eval y = .string s') (hv : (s == s') = v) :
    (execOp a.eval { dst := dst, op := .binOp .eql t x y rt, type := typ, pos := pos, after := aft, guard := gd }).run P w = .ok (.value (.bool v)) w := by
  subst hv
  unfold execOp
  simp only [hx, hy]
  simp [eqGuard, binOp, Op.stringOp, beq_toListBytes]
end
section
variable {ops : Array Oper} {rest : List Oper} {a : Act} {w w0 : World} {Q : Exit → Act → World → Prop} {dst : Option Tmp} {typ : TypeId} {pos : String} {aft : Array Edge} {gd : Option (Nat × Bool)} {S : List Nat} {rows : List (Nat × List Value × TypeId)}
set_option maxRecDepth 100000 in
theorem wpl_bslTg {x : Operand} (t : Tm) (s : Value) (hw : Region.wanted { dst := dst, op := .buildSlice 22 1 #[(0, x)], type := typ, pos := pos, after := aft, guard := gd } (yielded ops a.tmps) = true) (hx : a.eval x = .agg (tcs t s).toArray) (hm : Mem w0 S w rows)
    (h : ∀ w' g, Below w.heap.size w w' → w.heap.size ≤ g → Mem w0 S w' ((g, tcs t s, 24) :: rows) → wpList Tryd.prog ops Q rest (a.put dst (.slice (some ⟨g, 0, none⟩) 1 1)) w') :
    wpList Tryd.prog ops Q ({ dst := dst, op := .buildSlice 22 1 #[(0, x)], type := typ, pos := pos, after := aft, guard := gd } :: rest) a w := by
  refine wpList_step fun K hK => ?_
  rw [if_pos hw]
  have hh := hK _ _ (h _ _ ((Below.refl _ _).alloc (Nat.le_refl _) _) (Nat.le_refl _) (hm.alloc (tcs t s) 24))
  unfold Oper.wp execOp
  simp only [List.map_toArray, List.map_cons, List.map_nil, hx, run_bslK (P := Tryd.prog) w _ (tcs t s) un_terms info_term rfl rfl, Sem.run_bind, Sem.run_pure, Result.andThen_ok]
  exact hh
end
set_option maxRecDepth 100000 in
theorem take_any (Sv Pv : ByteArray) (n : Int) (b : Bool) (g : Nat) (w : World) (hz : Sv.size ≤ 100000) (hr : Row w g [.string Sv, .int .i64 n, .bool b] 63) :
    Calls Tryd.prog 48 #[.pointer (some ⟨g, 0, none⟩), .string Pv] w fun e w' => ∃ R b', e = .returned (.tuple #[]) ∧ Row w' g [.string R, .int .i64 n, .bool b'] 63 ∧ Upd g w w' ∧ ResTk (bs Sv) (bs Pv) b b' (bs R) := by
  cases hp : Lib.hasPrefix (bs Sv) (bs Pv) with
  | true =>
    refine (take_yes Sv Pv (mkS ((bs Sv).drop Pv.size)) n b g w hz hp (bs_mkS _) hr).mono ?_
    rintro e w' ⟨he, hr, hu⟩
    exact ⟨_, _, he, hr, hu, by rw [bs_mkS]; simp, by rw [hp]; simp, fun _ => by rw [bs_mkS, bs_length]⟩
  | false =>
    refine (take_no Sv Pv n b g w hz hp hr).mono ?_
    rintro e w' ⟨he, hr, hu⟩
    exact ⟨_, _, he, hr, hu, Nat.le_refl _, by rw [hp]; simp, fun h => by rw [hp] at h; cases h⟩
set_option maxRecDepth 100000 in
theorem num_any (Sv : ByteArray) (n : Int) (b : Bool) (g : Nat) (w : World) (hr : Row w g [.string Sv, .int .i64 n, .bool b] 63) :
    Calls Tryd.prog 47 #[.pointer (some ⟨g, 0, none⟩)] w fun e w' => ∃ v R b', e = .returned (.int .i64 v) ∧ Row w' g [.string R, .int .i64 n, .bool b'] 63 ∧ Upd g w w' ∧ ResN (bs Sv) b b' v (bs R) := by
  cases hv : numV ((ldg (bs Sv)).take 2) with
  | none =>
    refine (numR_no hv n b g w hr).mono ?_
    rintro e w' ⟨he, hr, hu⟩
    exact ⟨_, _, _, he, hr, hu, Nat.le_refl _, by rw [hv]; simp, fun u h => by rw [hv] at h; cases h⟩
  | some v =>
    refine (numR_yes (R := mkS ((bs Sv).drop ((ldg (bs Sv)).take 2).length)) hv (bs_mkS _) n b g w hr).mono ?_
    rintro e w' ⟨he, hr, hu⟩
    exact ⟨_, _, _, he, hr, hu, by rw [bs_mkS]; simp, by rw [hv]; simp, fun u h => by rw [hv] at h; cases h; exact ⟨rfl, bs_mkS _⟩⟩
def TRP (f : Nat) : Prop := ∀ (Sv : ByteArray) (n : Nat) (b : Bool) (g : Nat) (w : World), f ≤ 61 → Sv.size ≤ 100000 → n ≤ 300 → (b = false → 61 ≤ f + n ∧ n ≤ 60) → Row w g [.string Sv, .int .i64 ((n : Nat) : Int), .bool b] 63 →
    Calls Tryd.prog 36 #[.pointer (some ⟨g, 0, none⟩)] w fun e w' => ∃ (t : Tm) (s : Value) (S' : ByteArray) (n' : Nat) (b' : Bool), e = .returned (.agg (tcs t s).toArray) ∧ SlT (FN w.heap.size w'.heap.size) w' s t.l ∧ Row w' g [.string S', .int .i64 ((n' : Nat) : Int), .bool b'] 63 ∧ Upd g w w' ∧ ResT f n (bs Sv) b b' n' (bs S') t
set_option maxRecDepth 100000 in
theorem two_mem {w1 w2 w3 w6 w9 wa : World} {ga : Nat} {x y : Tm} {s v : Value} (hr : Row wa ga (tcs x s ++ tcs y v) 24) (hx : SlT (FN w1.heap.size w2.heap.size) wa s x.l) (hy : SlT (FN w3.heap.size w6.heap.size) wa v y.l) (hga : w9.heap.size ≤ ga) (hlt : ga < wa.heap.size) (_hs : w9.heap.size ≤ wa.heap.size) (h1 : w1.heap.size ≤ w2.heap.size) (h2 : w2.heap.size ≤ w3.heap.size) (h3 : w3.heap.size ≤ w6.heap.size) (h6 : w6.heap.size ≤ w9.heap.size) : SlT (FN w1.heap.size wa.heap.size) wa (.slice (some ⟨ga, 0, none⟩) 2 2) [x, y] :=
  slt_two hr (hx.weak (fun b hb => ⟨hb.1, by have h9 := hb.2; omega⟩)) (hy.weak (fun b hb => ⟨by have h9 := hb.1; omega, by have h9 := hb.2; omega⟩)) ⟨by omega, hlt⟩
set_option maxRecDepth 100000 in
theorem one_mem {w1 w2 w9 wa : World} {ga : Nat} {x : Tm} {s : Value} (hr : Row wa ga (tcs x s) 24) (hx : SlT (FN w1.heap.size w2.heap.size) wa s x.l) (hga : w9.heap.size ≤ ga) (hlt : ga < wa.heap.size) (_hs : w9.heap.size ≤ wa.heap.size) (h1 : w1.heap.size ≤ w2.heap.size) (h6 : w2.heap.size ≤ w9.heap.size) : SlT (FN w1.heap.size wa.heap.size) wa (.slice (some ⟨ga, 0, none⟩) 1 1) [x] :=
  slt_one hr (hx.weak (fun b hb => ⟨hb.1, by have h9 := hb.2; omega⟩)) ⟨by omega, hlt⟩
set_option maxRecDepth 100000 in
theorem le_bs {A B : ByteArray} {m : Nat} (h : (bs A).length ≤ (bs B).length) (hm : B.size ≤ m) : A.size ≤ m := by rw [bs_length, bs_length] at h; omega
set_option maxHeartbeats 4000000 in
set_option maxRecDepth 100000 in
theorem two_any {f : Nat} (HT : TRP f) (k : Int) (Sv : ByteArray) (n : Nat) (b : Bool) (g : Nat) (w : World) (hf : f ≤ 61) (hz : Sv.size ≤ 100000) (hn : n ≤ 200) (hbb : b = false → 61 ≤ f + n ∧ n ≤ 60) (hr : Row w g [.string Sv, .int .i64 ((n : Nat) : Int), .bool b] 63) :
    Calls Tryd.prog 49 #[.pointer (some ⟨g, 0, none⟩), .int .i64 k] w fun e w' => ∃ (x y : Tm) (s : Value) (S' : ByteArray) (n' : Nat) (b' : Bool), e = .returned (.agg (tcs (mkT k 0 [x, y]) s).toArray) ∧ SlT (FN w.heap.size w'.heap.size) w' s [x, y] ∧ Row w' g [.string S', .int .i64 ((n' : Nat) : Int), .bool b'] 63 ∧ Upd g w w' ∧ ResW f k n (bs Sv) b b' n' (bs S') x y := by
  have hm := Mem.enter hr
  have HIT : Hid (TRP f) := HT
  have HF : Hid (f ≤ 61) := hf
  have HZ1 : Hid (Sv.size ≤ 100000) := hz
  have HN1 : Hid (n ≤ 300) := by show n ≤ 300; omega
  have HN0 : Hid (n ≤ 200) := hn
  have HB1 : Hid (b = false → 61 ≤ f + n ∧ n ≤ 60) := hbb
  have T1 : Hid True := trivial
  have T2 : Hid True := trivial
  have K1 : Hid True := trivial
  have K2 : Hid True := trivial
  clear hr HT hf hz hn hbb
  go_enter Tryd.func49, Tryd.ntmps49
  go_wp2_with (first
    | ((with_reducible refine at_op (some 4) (.alloc 24) ?_); go_must (refine wpl_alloc _ zero_term hm ?_); clear hm; intro wc1 g4 hm)
    | (go_at_call 36; clear T1; refine (HIT.out Sv n b g _ HF.out (HZ1.out) (HN1.out) (HB1.out) (hm.get 1 rfl)).mono ?_; rintro e w2 ⟨x1, sx1, S1, n1, b1, he, hsl, hr, hu, hres⟩; subst he; have HX10 : Hid (SlT (FN wc1.heap.size w2.heap.size) w2 sx1 x1.l) := hsl; obtain ⟨p1, c1, hv, _⟩ := HX10.out.len; subst hv; have HR1 : Hid (ResT f n (bs Sv) b b1 n1 (bs S1) x1) := hres; have HL1 : Hid (g < wc1.heap.size ∧ g4 < wc1.heap.size ∧ w.heap.size ≤ wc1.heap.size ∧ wc1.heap.size ≤ w2.heap.size) := ⟨(hm.get 1 rfl).lt, (hm.get 0 rfl).lt, hm.size, hu.size⟩; have HZ2 : Hid (S1.size ≤ 100000) := le_bs HR1.out.1 HZ1.out; replace hm := hm.upd 1 rfl hu hr; clear hr hu hsl hres)
    | ((with_reducible refine at_op (some 5) (.alloc 24) ?_); go_must (refine wpl_allocB _ zero_term hm ?_); clear hm; intro w3 g5 hb5 hg5 hm; have HX13 : Hid (SlT (FN wc1.heap.size w2.heap.size) w3 (.slice p1 x1.l.length c1) x1.l) := HX10.out.below hb5; have HG5 : Hid (w2.heap.size ≤ g5 ∧ w2.heap.size ≤ w3.heap.size) := ⟨hg5, hb5.size⟩; clear HX10; clear hb5 hg5)
    | ((with_reducible refine at_op none (.store 24 (.tmp 5) (.tmp 8)) ?_); go_must (refine wpl_stwU 0 (tcs x1 (.slice p1 x1.l.length c1)) hm rfl rfl rfl 3 sz_term rfl rfl (oneTcs _ _ _ _) ?_); clear hm; intro w4 hu hm; have HX14 : Hid (SlT (FN wc1.heap.size w2.heap.size) w4 (.slice p1 x1.l.length c1) x1.l) := trk HX13.out hu (Or.inr HG5.out.1); have HG54 : Hid (w2.heap.size ≤ w4.heap.size) := Nat.le_trans HG5.out.2 hu.size; clear HX13; clear hu)
    | (go_at_call 48; clear K1; refine (take_any S1 ⟨#[44]⟩ ((n1 : Nat) : Int) b1 g _ (HZ2.out) (hm.get 2 rfl)).mono ?_; rintro e wc3 ⟨S2, b2, he, hr, hu, hres⟩; subst he; have HR2 : Hid (ResTk (bs S1) [44] b1 b2 (bs S2)) := hres; have HX15 : Hid (SlT (FN wc1.heap.size w2.heap.size) wc3 (.slice p1 x1.l.length c1) x1.l) := trk HX14.out hu (Or.inl HL1.out.1); have HG55 : Hid (w2.heap.size ≤ wc3.heap.size) := Nat.le_trans HG54.out hu.size; clear HX14 HG54; have HZ3 : Hid (S2.size ≤ 100000) := le_bs HR2.out.1 HZ2.out; have HN3 : Hid (n1 ≤ 300) := next_n HR1.out HF.out HN0.out; have HB3 : Hid (b2 = false → 61 ≤ f + n1 ∧ n1 ≤ 60) := next_ok HR1.out HR2.out HB1.out; replace hm := hm.upd 2 rfl hu hr; clear hr hu hres)
    | (go_at_call 36; clear T2; refine (HIT.out S2 n1 b2 g _ HF.out (HZ3.out) (HN3.out) (HB3.out) (hm.get 2 rfl)).mono ?_; rintro e w6 ⟨x3, sx3, S3, n3, b3, he, hsl, hr, hu, hres⟩; subst he; have HX30 : Hid (SlT (FN wc3.heap.size w6.heap.size) w6 sx3 x3.l) := hsl; obtain ⟨p3, c3, hv, _⟩ := HX30.out.len; subst hv; have HR3 : Hid (ResT f n1 (bs S2) b2 b3 n3 (bs S3) x3) := hres; have HL3 : Hid (g < wc3.heap.size ∧ g4 < wc3.heap.size ∧ g5 < wc3.heap.size ∧ w2.heap.size ≤ wc3.heap.size ∧ wc3.heap.size ≤ w6.heap.size) := ⟨(hm.get 2 rfl).lt, (hm.get 1 rfl).lt, (hm.get 0 rfl).lt, HG55.out, hu.size⟩; have HZ4 : Hid (S3.size ≤ 100000) := le_bs HR3.out.1 HZ3.out; have HX16 : Hid (SlT (FN wc1.heap.size w2.heap.size) w6 (.slice p1 x1.l.length c1) x1.l) := trk HX15.out hu (Or.inl HL1.out.1); clear HX15; replace hm := hm.upd 2 rfl hu hr; clear hr hu hsl hres)
    | ((with_reducible refine at_op (some 6) (.alloc 24) ?_); go_must (refine wpl_allocB _ zero_term hm ?_); clear hm; intro w7 g6 hb5 hg5 hm; have HX17 : Hid (SlT (FN wc1.heap.size w2.heap.size) w7 (.slice p1 x1.l.length c1) x1.l) := HX16.out.below hb5; have HY7 : Hid (SlT (FN wc3.heap.size w6.heap.size) w7 (.slice p3 x3.l.length c3) x3.l) := HX30.out.below hb5; have HG6 : Hid (w6.heap.size ≤ g6 ∧ w6.heap.size ≤ w7.heap.size) := ⟨hg5, hb5.size⟩; clear HX16 HX30; clear hb5 hg5)
    | ((with_reducible refine at_op none (.store 24 (.tmp 6) (.tmp 12)) ?_); go_must (refine wpl_stwU 0 (tcs x3 (.slice p3 x3.l.length c3)) hm rfl rfl rfl 3 sz_term rfl rfl (oneTcs _ _ _ _) ?_); clear hm; intro w8 hu hm; have HX18 : Hid (SlT (FN wc1.heap.size w2.heap.size) w8 (.slice p1 x1.l.length c1) x1.l) := trk HX17.out hu (Or.inr (by have h1 := HG6.out; have h2 := HL3.out; omega)); have HY8 : Hid (SlT (FN wc3.heap.size w6.heap.size) w8 (.slice p3 x3.l.length c3) x3.l) := trk HY7.out hu (Or.inr HG6.out.1); have HG68 : Hid (w6.heap.size ≤ w8.heap.size) := Nat.le_trans HG6.out.2 hu.size; clear HX17 HY7; clear hu)
    | (go_at_call 48; clear K2; refine (take_any S3 ⟨#[41]⟩ ((n3 : Nat) : Int) b3 g _ (HZ4.out) (hm.get 3 rfl)).mono ?_; rintro e w9 ⟨S4, b4, he, hr, hu, hres⟩; subst he; have HR4 : Hid (ResTk (bs S3) [41] b3 b4 (bs S4)) := hres; have HX19 : Hid (SlT (FN wc1.heap.size w2.heap.size) w9 (.slice p1 x1.l.length c1) x1.l) := trk HX18.out hu (Or.inl HL1.out.1); have HY9 : Hid (SlT (FN wc3.heap.size w6.heap.size) w9 (.slice p3 x3.l.length c3) x3.l) := trk HY8.out hu (Or.inl HL3.out.1); have HG69 : Hid (w6.heap.size ≤ w9.heap.size) := Nat.le_trans HG68.out hu.size; clear HX18 HY8 HG68; replace hm := hm.upd 3 rfl hu hr; clear hr hu hres)
    | ((with_reducible refine at_op (some 16) (.load 24 (.tmp 5)) ?_); go_must (refine wpl_ldw 1 hm rfl rfl _ Tryd.underlying24 rfl 3 sz_term rfl ?_))
    | ((with_reducible refine at_op (some 17) (.load 24 (.tmp 6)) ?_); go_must (refine wpl_ldw 0 hm rfl rfl _ Tryd.underlying24 rfl 3 sz_term rfl ?_))
    | ((with_reducible refine at_op (some 18) (.buildSlice 22 2 #[(0, .tmp 16), (1, .tmp 17)]) ?_); go_must (refine wpl_bslT2 x1 x3 (.slice p1 x1.l.length c1) (.slice p3 x3.l.length c3) rfl rfl rfl hm ?_); clear hm; intro wa ga hba hga hm; have HXA : Hid (SlT (FN wc1.heap.size wa.heap.size) wa (.slice (some ⟨ga, 0, none⟩) 2 2) [x1, x3]) := two_mem (hm.get 0 rfl) (HX19.out.below hba) (HY9.out.below hba) hga (hm.get 0 rfl).lt hba.size HL1.out.2.2.2 HL3.out.2.2.2.1 HL3.out.2.2.2.2 HG69.out; clear hba hga HX19 HY9)
    | ((with_reducible refine at_op none (.store 24 (.tmp 4) (.tmp 19)) ?_); go_must (refine wpl_stwU 3 ([.int .i64 k, .int .i64 0, .slice (some ⟨ga, 0, none⟩) 2 2]) hm rfl rfl rfl 3 sz_term rfl rfl ((by intro v hv; simp only [List.mem_cons, List.not_mem_nil, or_false] at hv; rcases hv with rfl | rfl | rfl <;> rfl)) ?_); clear hm; intro wb hu hm; have HXB : Hid (SlT (FN w.heap.size wb.heap.size) wb (.slice (some ⟨ga, 0, none⟩) 2 2) [x1, x3]) := (HXA.out.keep (Keeps.upd hu (fun b hb he => by have h8 := HL1.out; have h9 := hb.1; omega))).weak (fun b hb => ⟨Nat.le_trans HL1.out.2.2.1 hb.1, Nat.lt_of_lt_of_le hb.2 hu.size⟩); clear HXA; clear hu))
  refine ret_cell 3 hm rfl Tryd.results49 rfl _ Tryd.underlying24 rfl 3 sz_term rfl rfl ?_
  exact ⟨x1, x3, _, S4, n3, b4, rfl, HXB.out, hm.get 4 rfl, hm.toUpd, resW HR1.out HR2.out HR3.out HR4.out⟩
end Go.Proofs.YtbphmcbflnaenaaDoor
