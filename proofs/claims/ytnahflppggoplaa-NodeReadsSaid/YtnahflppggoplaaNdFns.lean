/- Types of package node, and theorems of other texts that hang on no program. -/
import Derived.Lib.ConvBytes
import Derived.Lib.BufferWrite
import Derived.Laws.BitsAllLaws
import Derived.Test.YtnahflppggoplaaAnyG
import Derived.Test.YtnahflppggoplaaProg
namespace Go.Proofs.Ytnahflppggoplaa
open Go Go.RowKit
set_option maxRecDepth 100000 in
theorem un_u8 : Try.prog.underlying 5 = some (.int .u8) := Try.underlying5
set_option maxRecDepth 100000 in
theorem un_u32 : Try.prog.underlying 43 = some (.int .u32) := Try.underlying43
set_option maxRecDepth 100000 in
theorem un_bs : Try.prog.underlying 22 = some (.slice 5) := Try.underlying22
set_option maxRecDepth 100000 in
theorem un_strT : Try.prog.underlying 9 = some .string := Try.underlying9
set_option maxRecDepth 100000 in
theorem un_strs : Try.prog.underlying 30 = some (.slice 9) := Try.underlying30
set_option maxRecDepth 100000 in
theorem un_u32s : Try.prog.underlying 31 = some (.slice 43) := Try.underlying31
set_option maxRecDepth 100000 in
theorem un_pairs : Try.prog.underlying 24 = some (.slice 45) := Try.underlying24
set_option maxRecDepth 100000 in
theorem un_b4 : Try.prog.underlying 76 = some (.array 4 5) := Try.underlying76
set_option maxRecDepth 100000 in
theorem made_u8 : (Try.prog.info? 5).map (fun i => (i.zero, i.size, i.bytes)) = some (some (.int .u8 0), 1, 1) := by kernel_rfl
set_option maxRecDepth 100000 in
theorem made_u32 : (Try.prog.info? 43).map (fun i => (i.zero, i.size, i.bytes)) = some (some (.int .u32 0), 1, 4) := by kernel_rfl
set_option maxRecDepth 100000 in
theorem made_str : (Try.prog.info? 9).map (fun i => (i.zero, i.size, i.bytes)) = some (some (.string ByteArray.empty), 1, 16) := by kernel_rfl
set_option maxRecDepth 100000 in
theorem made_pair : (Try.prog.info? 45).map (fun i => (i.zero, i.size, i.bytes)) = some (some (.agg [.string ByteArray.empty, .string ByteArray.empty].toArray), 2, 32) := by kernel_rfl
set_option maxRecDepth 100000 in
theorem info_u8 : (Try.prog.info? 5).map (fun i => (i.zero, i.size)) = some (some (.int .u8 0), 1) := by kernel_rfl
set_option maxRecDepth 100000 in
theorem info_u32 : (Try.prog.info? 43).map (fun i => (i.zero, i.size)) = some (some (.int .u32 0), 1) := by kernel_rfl
set_option maxRecDepth 100000 in
theorem info_str : (Try.prog.info? 9).map (fun i => (i.zero, i.size)) = some (some (.string ByteArray.empty), 1) := by kernel_rfl
set_option maxRecDepth 100000 in
theorem info_pair : (Try.prog.info? 45).map (fun i => (i.zero, i.size)) = some (some (.agg [.string ByteArray.empty, .string ByteArray.empty].toArray), 2) := by kernel_rfl
set_option maxRecDepth 100000 in
theorem zero_pair : ∀ w, (zeroValue 45).run Try.prog w = .ok (.agg [.string ByteArray.empty, .string ByteArray.empty].toArray) w := (zero_of_info info_pair).1
set_option maxRecDepth 100000 in
theorem sz_u8 : (Try.prog.info? 5).map (·.size) = some 1 := by kernel_rfl
set_option maxRecDepth 100000 in
theorem sz_u32 : (Try.prog.info? 43).map (·.size) = some 1 := by kernel_rfl
set_option maxRecDepth 100000 in
theorem sz_str : (Try.prog.info? 9).map (·.size) = some 1 := by kernel_rfl
set_option maxRecDepth 100000 in
theorem sz_pair : (Try.prog.info? 45).map (·.size) = some 2 := by kernel_rfl
set_option maxRecDepth 100000 in
theorem un_pair : ∃ fs, Try.prog.underlying 45 = some (.struct fs) := ⟨_, Try.underlying45⟩
set_option maxRecDepth 100000 in
theorem ag_u8 : ∀ w, (isAgg 5).run Try.prog w = .ok false w := by intro w; simp [go_sem]
set_option maxRecDepth 100000 in
theorem ag_u32 : ∀ w, (isAgg 43).run Try.prog w = .ok false w := by intro w; simp [go_sem]
set_option maxRecDepth 100000 in
theorem ag_str : ∀ w, (isAgg 9).run Try.prog w = .ok false w := by intro w; simp [go_sem]
set_option maxRecDepth 100000 in
theorem info_b4 : (Try.prog.info? 76).map (fun i => (i.zero, i.size)) = some (some (.agg (u8s (List.replicate 4 0)).toArray), 4) := by kernel_rfl
set_option maxRecDepth 100000 in
theorem zero_b4 : ∀ w, (zeroValue 76).run Try.prog w = .ok (.agg (u8s (List.replicate 4 0)).toArray) w := (zero_of_info info_b4).1
set_option maxRecDepth 100000 in
theorem sz_b4 : (Try.prog.info? 76).map (·.size) = some 4 := (zero_of_info info_b4).2
set_option maxRecDepth 100000 in
theorem bytes_none : Bytes [] := by intro x hx; cases hx
def be4 (n : Int) : List Int := [n / 256 / 256 / 256 % 256, n / 256 / 256 % 256, n / 256 % 256, n % 256]
set_option maxRecDepth 100000 in
theorem be4_length (n : Int) : (be4 n).length = 4 := rfl
set_option maxRecDepth 100000 in
theorem be4_bytes (n : Int) : Bytes (be4 n) := by
  intro x hx
  simp only [be4, List.mem_cons, List.not_mem_nil, or_false] at hx
  omega
def be2 (n : Int) : List Int := [n / 256 % 256, n % 256]
set_option maxRecDepth 100000 in
theorem be2_length (n : Int) : (be2 n).length = 2 := rfl
set_option maxRecDepth 100000 in
theorem be2_bytes (n : Int) : Bytes (be2 n) := by
  intro x hx
  simp only [be2, List.mem_cons, List.not_mem_nil, or_false] at hx
  omega
def numL (l : List Int) : Int := l.foldl (fun n c => n * 256 + c) 0
set_option maxRecDepth 100000 in
theorem numL_snoc (l : List Int) (c : Int) : numL (l ++ [c]) = numL l * 256 + c := by simp [numL]
set_option maxRecDepth 100000 in
theorem numL_nonneg {l : List Int} (h : Bytes l) : 0 ≤ numL l := by
  have : ∀ (l : List Int) (n : Int), Bytes l → 0 ≤ n → 0 ≤ l.foldl (fun n c => n * 256 + c) n := by
    intro l
    induction l with
    | nil => intro n _ hn; exact hn
    | cons x l ih =>
      intro n hb hn
      have hx := hb x (List.mem_cons_self ..)
      exact ih _ (fun y hy => hb y (List.mem_cons_of_mem _ hy)) (by show 0 ≤ n * 256 + x; omega)
  exact this l 0 h (Int.le_refl _)
set_option maxRecDepth 100000 in
theorem numL_lt {l : List Int} (h : Bytes l) : numL l < 256 ^ l.length := by
  have : ∀ (l : List Int) (n : Int) (k : Nat), Bytes l → n + 1 ≤ 256 ^ k → l.foldl (fun n c => n * 256 + c) n + 1 ≤ 256 ^ (k + l.length) := by
    intro l
    induction l with
    | nil => intro n k _ hn; simpa using hn
    | cons x l ih =>
      intro n k hb hn
      have hx := hb x (List.mem_cons_self ..)
      have e : k + (x :: l).length = (k + 1) + l.length := by simp; omega
      rw [e]
      refine ih _ _ (fun y hy => hb y (List.mem_cons_of_mem _ hy)) ?_
      show n * 256 + x + 1 ≤ _
      rw [Int.pow_succ]
      omega
  have h2 := this l 0 0 h (by decide)
  rw [Nat.zero_add] at h2
  unfold numL
  omega
set_option maxRecDepth 100000 in
theorem numL_be2 {n : Int} (h : 0 ≤ n ∧ n < 65536) : numL (be2 n) = n := by
  simp only [numL, be2, List.foldl_cons, List.foldl_nil]
  omega
set_option maxRecDepth 100000 in
theorem numL_be4 {n : Int} (h : 0 ≤ n ∧ n < 4294967296) : numL (be4 n) = n := by
  simp only [numL, be4, List.foldl_cons, List.foldl_nil]
  omega
def edOf (b : List Int) : Int := big4 (b.getD 0 0) (b.getD 1 0) (b.getD 2 0) (b.getD 3 0)
set_option maxRecDepth 100000 in
theorem wrap64_of (n : Int) (h : -9223372036854775808 ≤ n ∧ n ≤ 9223372036854775807) : wrap64 n = n := by unfold wrap64; omega
set_option maxRecDepth 100000 in
theorem wrapU_of (n : Nat) (h : n < 18446744073709551616) : IntKind.u64.wrap (n : Int) = (n : Int) := by simp [IntKind.wrap, IntKind.signed, IntKind.bits]; omega
def strB (s : ByteArray) : List Int := s.data.toList.map fun b => (b.toNat : Int)
set_option maxRecDepth 100000 in
theorem strB_length (s : ByteArray) : (strB s).length = s.size := by
  simp only [strB, List.length_map, Array.length_toList]
  rfl
set_option maxRecDepth 100000 in
theorem strB_bytes (s : ByteArray) : Bytes (strB s) := by
  intro x hx
  obtain ⟨b, _, rfl⟩ := List.mem_map.1 hx
  have := b.toNat_lt
  omega
set_option maxRecDepth 100000 in
theorem strB_strOf {l : List Int} (h : Bytes l) : strB (strOf l) = l := by
  unfold strB strOf
  simp only [List.map_map]
  apply List.ext_getElem
  · simp
  · intro i h1 h2
    have := h l[i] (List.getElem_mem h2)
    simp
    omega
section
variable {P : Program} {ops : Array Oper} {rest : List Oper} {a : Act} {w w0 : World} {Q : Exit → Act → World → Prop} {dst : Option Tmp} {typ : TypeId} {pos : String} {aft : Array Edge} {gd : Option (Nat × Bool)} {S : List Nat} {rows : List (Nat × List Value × TypeId)}
set_option maxRecDepth 100000 in
theorem run_slo (w : World) {ty : TypeId} {elem : TypeId} (hu : P.underlying ty = some (.slice elem)) (hs : (P.info? elem).map (·.size) = some 1) {g o len cap : Nat} (l : Nat) (hl : l ≤ len) (hlc : l < cap) :
    (Instr.sliceAt ty (.slice (some ⟨g, o, none⟩) len cap) (some (.int .i64 (l : Int))) none none).run P w = .ok (.slice (some ⟨g, o + l, none⟩) (len - l) (cap - l)) w := by
  cases hq : P.info? elem with
  | none => simp [hq] at hs
  | some q =>
    have hs1 : q.size = 1 := by simpa [hq] using hs
    have hsz : (sizeOf elem).run P w = .ok 1 w := by simp [sizeOf, typeInfo, hq, hs1]
    have bnd : (Instr.sliceBound (.int .i64 (l : Int)) len .sliceB).run P w = .ok l w := by
      rw [run_sliceBound (P := P) w .i64 (l : Int) len .sliceB (by omega) (by omega)]
      simp
    have hb : (Instr.sliceBounds true len cap (some (.int .i64 (l : Int))) none none).run P w = .ok (l, len, cap) w := by
      simp [Instr.sliceBounds, bnd]
    have hne : ¬ cap = l := by omega
    simp [Instr.sliceAt, Instr.slice, run_underlying hu, hb, hsz, hne, add_at]
end
set_option maxRecDepth 100000 in
theorem wpl_slo {P : Program} {ops : Array Oper} {rest : List Oper} {a : Act} {w : World} {dst : Option Tmp} {typ : TypeId} {pos : String} {aft : Array Edge} {Q : Exit → Act → World → Prop} {ty : TypeId} {x lo : Operand} {elem : TypeId} (hu : P.underlying ty = some (.slice elem)) (hs : (P.info? elem).map (·.size) = some 1) {g o len cap : Nat} (l o' m c : Nat) (ho : o + l = o') (hm : len - l = m) (hc : cap - l = c) {il : Int} (hl : l ≤ len) (hlc : l < cap) (hx : a.eval x = .slice (some ⟨g, o, none⟩) len cap)
    (hlo : a.eval lo = .int .i64 il) (hil : il = (l : Int)) (h : wpList P ops Q rest (a.put dst (.slice (some ⟨g, o', none⟩) m c)) w) :
    wpList P ops Q ({ dst := dst, op := .slice ty x (some lo) none none, type := typ, pos := pos, after := aft, guard := none } :: rest) a w := by
  subst hil ho hm hc
  refine wpList_plain rfl fun K hK => ?_
  have hh := hK _ _ h
  unfold Oper.wp execOp
  simp only [hx, hlo, Option.map_some, Option.map_none, run_slo (P := P) w hu hs l hl hlc, Sem.run_bind, Sem.run_pure, Result.andThen_ok]
  exact hh
section
variable {P : Program} {ops : Array Oper} {rest : List Oper} {a : Act} {w w0 : World} {Q : Exit → Act → World → Prop} {dst : Option Tmp} {typ : TypeId} {pos : String} {aft : Array Edge} {gd : Option (Nat × Bool)} {S : List Nat} {rows : List (Nat × List Value × TypeId)}
set_option maxRecDepth 100000 in
theorem run_bsl1 (w : World) {t elem : TypeId} (z v : Value) (hu : P.underlying t = some (.slice elem)) (hi : (P.info? elem).map (fun i => (i.zero, i.size)) = some (some z, 1)) (hz : z.cells = #[z]) (hv : v.cells = #[v]) :
    (Instr.buildSlice t 1 #[(0, v)]).run P w = .ok (.slice (some ⟨w.heap.size, 0, none⟩) 1 1) (w.alloc (.cells [v].toArray elem)) := by
  obtain ⟨hz1, hs1⟩ := zero_of_info hi
  cases hq : P.info? elem with
  | none => simp [hq] at hi
  | some q =>
    have hs : q.size = 1 := by simpa [hq] using hs1
    have e : Array.map (fun x => ([z][x % 1]?).getD default) (Array.range 1) = #[z] := by
      apply Array.ext
      · simp
      · intro i h1 h2
        have h3 : i = 0 := by simpa using h2
        subst h3
        simp
    simp [Instr.buildSlice, run_underlying hu, sizeOf, typeInfo, hq, hs, hz1, hz, Instr.fill, hv, newRow, newObj]
    rw [e]
    rfl
set_option maxRecDepth 100000 in
theorem wpl_bsl1 {t elem : TypeId} {x : Operand} (hw : Region.wanted { dst := dst, op := .buildSlice t 1 #[(0, x)], type := typ, pos := pos, after := aft, guard := gd } (yielded ops a.tmps) = true) (z v : Value) (hu : P.underlying t = some (.slice elem)) (hi : (P.info? elem).map (fun i => (i.zero, i.size)) = some (some z, 1)) (hz : z.cells = #[z]) (hx : a.eval x = v) (hv : v.cells = #[v]) (hm : Mem w0 S w rows)
    (h : ∀ w' g, Below w.heap.size w w' → Mem w0 S w' ((g, [v], elem) :: rows) → wpList P ops Q rest (a.put dst (.slice (some ⟨g, 0, none⟩) 1 1)) w') :
    wpList P ops Q ({ dst := dst, op := .buildSlice t 1 #[(0, x)], type := typ, pos := pos, after := aft, guard := gd } :: rest) a w := by
  refine wpList_step fun K hK => ?_
  rw [if_pos hw]
  have hh := hK _ _ (h _ _ ((Below.refl _ _).alloc (Nat.le_refl _) _) (hm.alloc [v] elem))
  unfold Oper.wp execOp
  simp only [List.map_toArray, List.map_cons, List.map_nil, hx, run_bsl1 (P := P) w z v hu hi hz hv, Sem.run_bind, Sem.run_pure, Result.andThen_ok]
  exact hh
end
set_option maxRecDepth 100000 in
theorem cutHi_some (g o cap : Nat) : cutHi (some ⟨g, o, none⟩) cap = some ⟨g, o, none⟩ := by
  unfold cutHi
  split
  · rfl
  · simp [add_at]
set_option maxRecDepth 100000 in
theorem cutLo_some (g o cap l : Nat) (h : l < cap) : cutLo (some ⟨g, o, none⟩) cap l = some ⟨g, o + l, none⟩ := by
  unfold cutLo
  rw [if_neg (by omega)]
  simp [add_at]
section
variable {P : Program} {a : Act} {w : World} {dst : Option Tmp} {typ : TypeId} {pos : String} {aft : Array Edge} {gd : Option (Nat × Bool)}
set_option maxRecDepth 100000 in
theorem exec_hiS {ty : TypeId} {x hi : Operand} {elem : TypeId} (hu : P.underlying ty = some (.slice elem)) (hs : (P.info? elem).map (·.size) = some 1) {g o len cap : Nat} (m : Nat) {ih : Int} (hm : m ≤ cap) (hx : a.eval x = .slice (some ⟨g, o, none⟩) len cap) (hhi : a.eval hi = .int .i64 ih) (hih : ih = (m : Int)) :
    (execOp a.eval { dst := dst, op := .slice ty x none (some hi) none, type := typ, pos := pos, after := aft, guard := gd }).run P w = .ok (.value (.slice (some ⟨g, o, none⟩) m cap)) w := by
  have h := exec_sHi (P := P) (a := a) (w := w) (dst := dst) (typ := typ) (pos := pos) (aft := aft) (gd := gd) hu hs m hm hx hhi hih
  rw [cutHi_some] at h
  exact h
set_option maxRecDepth 100000 in
theorem exec_loS {ty : TypeId} {x lo : Operand} {elem : TypeId} (hu : P.underlying ty = some (.slice elem)) (hs : (P.info? elem).map (·.size) = some 1) {g o len cap : Nat} (l m : Nat) {il : Int} (hl : l ≤ len) (hlc : l < cap) (hlm : len - l = m) (hx : a.eval x = .slice (some ⟨g, o, none⟩) len cap) (hlo : a.eval lo = .int .i64 il) (hil : il = (l : Int)) :
    (execOp a.eval { dst := dst, op := .slice ty x (some lo) none none, type := typ, pos := pos, after := aft, guard := gd }).run P w = .ok (.value (.slice (some ⟨g, o + l, none⟩) m (cap - l))) w := by
  subst hlm
  have h := exec_sLo (P := P) (a := a) (w := w) (dst := dst) (typ := typ) (pos := pos) (aft := aft) (gd := gd) hu hs l hl hx hlo hil
  rw [cutLo_some _ _ _ _ hlc] at h
  exact h
end
set_option maxRecDepth 100000 in
theorem seg_four {w : World} {b o : Nat} {bs : List Int} (hs : Seg w b o bs) (k : Nat) (hk : 4 * k + 4 ≤ bs.length) :
    Seg w b (o + 4 * k) [bs.getD (4 * k) 0, bs.getD (4 * k + 1) 0, bs.getD (4 * k + 2) 0, bs.getD (4 * k + 3) 0] := by
  intro j hj
  have hj4 : j < 4 := by simpa using hj
  have hq := hs (4 * k + j) (by omega)
  rw [Nat.add_assoc, hq]
  match j, hj4 with
  | 0, _ => rfl
  | 1, _ => rfl
  | 2, _ => rfl
  | 3, _ => rfl
end Go.Proofs.Ytnahflppggoplaa
