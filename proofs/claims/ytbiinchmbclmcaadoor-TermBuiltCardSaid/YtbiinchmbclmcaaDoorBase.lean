/- Plain definitions of the sums, and small facts on blocks of memory; no statement is proved here. -/
import Derived.WalkKit
import Derived.WalkSpells
import Derived.Laws.CopyOwn
import Derived.Laws.Rows
import Derived.Laws.Tables
import Derived.Deep.WholeRow
import Derived.Deep.QuietTactic
import Derived.BigQuiet
namespace Go.Proofs.YtbiinchmbclmcaaDoor
open Go Go.RowKit

def u8s (l : List Int) : List Value := l.map (Value.int .u8)
def u32s (l : List Int) : List Value := l.map (Value.int .u32)
theorem u8s_length (l : List Int) : (u8s l).length = l.length := by simp [u8s]
theorem u32s_length (l : List Int) : (u32s l).length = l.length := by simp [u32s]
theorem u8s_get (l : List Int) (i : Nat) (h : i < l.length) : (u8s l)[i]? = some (.int .u8 (l.getD i 0)) := by
  simp [u8s, h]
theorem u32s_get (l : List Int) (i : Nat) (h : i < l.length) : (u32s l)[i]? = some (.int .u32 (l.getD i 0)) := by
  simp [u32s, h]
theorem u8s_one (l : List Int) : ∀ v ∈ u8s l, v.oneCell' = true := by
  intro v hv; simp [u8s] at hv; obtain ⟨x, _, rfl⟩ := hv; rfl
theorem u32s_one (l : List Int) : ∀ v ∈ u32s l, v.oneCell' = true := by
  intro v hv; simp [u32s] at hv; obtain ⟨x, _, rfl⟩ := hv; rfl

/-- Block g holds just these cells. -/
def Row (w : World) (g : Nat) (l : List Value) (t : TypeId) : Prop := w.heap[g]? = some (.cells l.toArray t (0, 0))
theorem Row.lt {w : World} {g : Nat} {l : List Value} {t : TypeId} (h : Row w g l t) : g < w.heap.size := (Array.getElem?_eq_some_iff.1 h).1
theorem Row.cell {w : World} {g : Nat} {l : List Value} {t : TypeId} (h : Row w g l t) (i : Nat) : w.cell? ⟨g, i, none⟩ = l[i]? := by
  rw [cell_of_row w g i _ t (0, 0) h]; simp
theorem Row.free {w : World} {g : Nat} {l : List Value} {t : TypeId} (h : Row w g l t) (i : Nat) : w.frozen? ⟨g, i, none⟩ = false := frozen_of_row w g i _ t h
theorem Row.below {w w' : World} {B g : Nat} {l : List Value} {t : TypeId} (h : Row w g l t) (hb : Below B w w') (hg : g < B) : Row w' g l t := by
  unfold Row; rw [hb.block g hg]; exact h
theorem Row.below' {w w' : World} {g : Nat} {l : List Value} {t : TypeId} (h : Row w g l t) (hb : Below w.heap.size w w') : Row w' g l t := h.below hb h.lt
theorem Row.drew {w : World} {g : Nat} {l : List Value} {t : TypeId} (h : Row w g l t) : Row w.drew g l t := h
theorem Row.alloc {w : World} {g : Nat} {l : List Value} {t : TypeId} (h : Row w g l t) (o : Obj) : Row (w.alloc o) g l t := by
  unfold Row; rw [Below.heap_alloc _ _ _ h.lt]; exact h
theorem Row.new (w : World) (l : List Value) (t : TypeId) : Row (w.alloc (.cells l.toArray t)) w.heap.size l t := heap_alloc_new w _
theorem Row.set {w : World} {g : Nat} {l : List Value} {t : TypeId} (h : Row w g l t) (i : Nat) (v : Value) : Row (w.setCell ⟨g, i, none⟩ v) g (l.set i v) t := by
  unfold Row
  rw [heap_setCell_same w g i l.toArray t v h]; simp
theorem Row.setOther {w : World} {g : Nat} {l : List Value} {t : TypeId} (h : Row w g l t) (a : Addr) (v : Value) (hn : g ≠ a.block) : Row (w.setCell a v) g l t := by
  unfold Row
  rw [heap_setCell_other w a g v hn]; exact h
theorem Row.setRow {w : World} {g : Nat} {l : List Value} {t : TypeId} (h : Row w g l t) (l' : List Value) : Row (w.setRow g l'.toArray) g l' t :=
  setRow_heap w g _ _ t _ h
theorem Row.setRowOther {w : World} {g k : Nat} {l : List Value} {t : TypeId} (h : Row w g l t) (c : Array Value) (hn : g ≠ k) : Row (w.setRow k c) g l t := by
  unfold Row
  rw [setRow_other w k g c hn]; exact h

/-! The sum, in the words of the translation: numbers as integers. -/
def rotr (x n : Int) : Int := bits .or .u32 (x / 2 ^ n.toNat) (x * 2 ^ (32 - n).toNat % 4294967296)
def big4 (a b c d : Int) : Int := bits .or .u32 (bits .or .u32 (bits .or .u32 (a * 16777216) (b * 65536)) (c * 256)) d
def four (x : Int) : List Int := [x / 16777216 % 256, x / 65536 % 256, x / 256 % 256, x % 256]
def sig0 (x : Int) : Int := bits .xor .u32 (bits .xor .u32 (rotr x 7) (rotr x 18)) (x / 8)
def sig1 (y : Int) : Int := bits .xor .u32 (bits .xor .u32 (rotr y 17) (rotr y 19)) (y / 1024)
def nextW (l : List Int) (k : Nat) : Int :=
  (sig1 (l.getD (k - 2) 0) + l.getD (k - 7) 0 + sig0 (l.getD (k - 15) 0) + l.getD (k - 16) 0) % 4294967296
def sched (b : List Int) : Nat → List Int
  | 0 => []
  | k + 1 => sched b k ++ [if k < 16 then big4 (b.getD (4 * k) 0) (b.getD (4 * k + 1) 0) (b.getD (4 * k + 2) 0) (b.getD (4 * k + 3) 0) else nextW (sched b k) k]
theorem sched_length (b : List Int) (k : Nat) : (sched b k).length = k := by
  induction k with
  | zero => rfl
  | succ k ih => simp [sched, ih]
def cap0 (a : Int) : Int := bits .xor .u32 (bits .xor .u32 (rotr a 2) (rotr a 13)) (rotr a 22)
def cap1 (e : Int) : Int := bits .xor .u32 (bits .xor .u32 (rotr e 6) (rotr e 11)) (rotr e 25)
def kTab : List Int := [1116352408, 1899447441, 3049323471, 3921009573, 961987163, 1508970993, 2453635748, 2870763221, 3624381080, 310598401, 607225278, 1426881987, 1925078388, 2162078206, 2614888103, 3248222580, 3835390401, 4022224774, 264347078, 604807628, 770255983, 1249150122, 1555081692, 1996064986, 2554220882, 2821834349, 2952996808, 3210313671, 3336571891, 3584528711, 113926993, 338241895, 666307205, 773529912, 1294757372, 1396182291, 1695183700, 1986661051, 2177026350, 2456956037, 2730485921, 2820302411, 3259730800, 3345764771, 3516065817, 3600352804, 4094571909, 275423344, 430227734, 506948616, 659060556, 883997877, 958139571, 1322822218, 1537002063, 1747873779, 1955562222, 2024104815, 2227730452, 2361852424, 2428436474, 2756734187, 3204031479, 3329325298]
def notW (e : Int) : Int := bits .xor .u32 (if IntKind.u32.signed = true then -1 else IntKind.u32.max) e
def tOne (k x e f g h : Int) : Int := (h + cap1 e + bits .xor .u32 (bits .and .u32 e f) (bits .and .u32 (notW e) g) + k + x) % 4294967296
def tTwo (a b c : Int) : Int := (cap0 a + bits .xor .u32 (bits .xor .u32 (bits .and .u32 a b) (bits .and .u32 a c)) (bits .and .u32 b c)) % 4294967296
def rnd (k x : Int) : List Int → List Int
  | [a, b, c, d, e, f, g, h] => [(tOne k x e f g h + tTwo a b c) % 4294967296, a, b, c, (d + tOne k x e f g h) % 4294967296, e, f, g]
  | l => l
def shaRounds (ws W : List Int) : Nat → List Int
  | 0 => ws
  | k + 1 => rnd (kTab.getD k 0) (W.getD k 0) (shaRounds ws W k)
theorem shaRounds_step {ws W : List Int} {k : Nat} {a b c d e f g h kk xx : Int} (hr : shaRounds ws W k = [a, b, c, d, e, f, g, h]) (hk : kk = kTab.getD k 0) (hx : xx = W.getD k 0) :
    shaRounds ws W (k + 1) = [(tOne kk xx e f g h + tTwo a b c) % 4294967296, a, b, c, (d + tOne kk xx e f g h) % 4294967296, e, f, g] := by
  rw [shaRounds, hr, ← hk, ← hx]; rfl
def addW (a b : List Int) : List Int := List.zipWith (fun x y => (x + y) % 4294967296) a b
def addUpto (ws vs : List Int) (k : Nat) : List Int := (addW ws vs).take k ++ ws.drop k
theorem addW_length (ws vs : List Int) (h : ws.length = 8) (h' : vs.length = 8) : (addW ws vs).length = 8 := by simp [addW, h, h']
theorem addUpto_length (ws vs : List Int) (h : ws.length = 8) (h' : vs.length = 8) (k : Nat) (hk : k ≤ 8) : (addUpto ws vs k).length = 8 := by simp [addUpto, addW, h, h']; omega
theorem addUpto_full (ws vs : List Int) (h : ws.length = 8) (h' : vs.length = 8) : addUpto ws vs 8 = addW ws vs := by
  unfold addUpto
  rw [List.take_of_length_le (by rw [addW_length ws vs h h']; omega), List.drop_of_length_le (by omega), List.append_nil]
theorem addUpto_get (ws vs : List Int) (h : ws.length = 8) (h' : vs.length = 8) (k : Nat) (hk : k < 8) : (addUpto ws vs k).getD k 0 = ws.getD k 0 := by
  have e : min k 8 = k := by omega
  simp [addUpto, List.getElem?_append, addW, h, h', e]
theorem addUpto_set (ws vs : List Int) (h : ws.length = 8) (h' : vs.length = 8) (k : Nat) (hk : k < 8) : (addUpto ws vs k).set k ((ws.getD k 0 + vs.getD k 0) % 4294967296) = addUpto ws vs (k + 1) := by
  unfold addUpto
  have hl : (addW ws vs).length = 8 := addW_length ws vs h h'
  have e : ((addW ws vs).take k).length = k := by simp [hl]; omega
  rw [List.set_append_right _ _ (by omega), e, Nat.sub_self]
  have hd : ws.drop k = ws[k]'(by omega) :: ws.drop (k + 1) := List.drop_eq_getElem_cons (by omega)
  rw [hd, List.set_cons_zero, List.take_succ_eq_append_getElem (by omega)]
  simp [addW, h, h', hk]
def mix (ws bs : List Int) : List Int := addW ws (shaRounds ws (sched bs 64) 64)
/-- The row of the words when k of them are made. -/
def schedRow (b : List Int) (k : Nat) : List Int := sched b k ++ List.replicate (64 - k) 0
theorem schedRow_length (b : List Int) (k : Nat) (h : k ≤ 64) : (schedRow b k).length = 64 := by simp [schedRow, sched_length]; omega
theorem schedRow_zero (b : List Int) : schedRow b 0 = List.replicate 64 0 := rfl
theorem schedRow_full (b : List Int) : schedRow b 64 = sched b 64 := by simp [schedRow]
theorem schedRow_set (b : List Int) (k : Nat) (h : k < 64) (x : Int) (hx : x = (if k < 16 then big4 (b.getD (4 * k) 0) (b.getD (4 * k + 1) 0) (b.getD (4 * k + 2) 0) (b.getD (4 * k + 3) 0) else nextW (sched b k) k)) :
    (schedRow b k).set k x = schedRow b (k + 1) := by
  subst hx
  unfold schedRow
  rw [List.set_append_right _ _ (by rw [sched_length]; omega), sched_length, Nat.sub_self]
  have : 64 - k = (64 - (k + 1)) + 1 := by omega
  rw [this, List.replicate_succ, List.set_cons_zero, sched]
  simp
theorem schedRow_get (b : List Int) (k j : Nat) (h : j < k) : (schedRow b k).getD j 0 = (sched b k).getD j 0 := by
  unfold schedRow
  simp [List.getElem?_append, sched_length, h]
theorem u32s_set (l : List Int) (k : Nat) (x : Int) : (u32s l).set k (.int .u32 x) = u32s (l.set k x) := by simp [u32s, List.map_set]
theorem u8s_set (l : List Int) (k : Nat) (x : Int) : (u8s l).set k (.int .u8 x) = u8s (l.set k x) := by simp [u8s, List.map_set]
end Go.Proofs.YtbiinchmbclmcaaDoor
