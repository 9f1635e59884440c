import Derived.WalkKit
import Derived.WalkSpells
import Derived.Laws.CopyOwn
import Derived.Laws.Rows
import Derived.Laws.Tables
import Derived.Deep.WholeRow
import Derived.Deep.QuietTactic
import Derived.BigQuiet
set_option maxRecDepth 100000
namespace Go.Proofs.YtjmlgjbojmlibaaGreatDoor
open Go Go.RowKit
def u8s (l : List Int) : List Value := l.map (Value.int .u8)
def u32s (l : List Int) : List Value := l.map (Value.int .u32)
theorem u8s_length (l : List Int) : (u8s l).length = l.length := by simp [u8s]
theorem u32s_length (l : List Int) : (u32s l).length = l.length := by simp [u32s]
theorem u8s_get (l : List Int) (i : Nat) (h : i < l.length) : (u8s l)[i]? = some (.int .u8 (l.getD i 0)) := by
  simp [u8s, h]
theorem u32s_get (l : List Int) (i : Nat) (h : i < l.length) : (u32s l)[i]? = some (.int .u32 (l.getD i 0)) := by
  simp [u32s, h]
theorem u8s_one (l : List Int) : ∀ v ∈ u8s l, v.oneCell' = true := by
  intro v hv; simp [u8s] at hv; obtain ⟨x, _, rfl⟩ := hv; rfl
theorem u32s_one (l : List Int) : ∀ v ∈ u32s l, v.oneCell' = true := by
  intro v hv; simp [u32s] at hv; obtain ⟨x, _, rfl⟩ := hv; rfl
/-- Block g holds just these cells. -/
def Row (w : World) (g : Nat) (l : List Value) (t : TypeId) : Prop := w.heap[g]? = some (.cells l.toArray t (0, 0))
theorem Row.lt {w : World} {g : Nat} {l : List Value} {t : TypeId} (h : Row w g l t) : g < w.heap.size := (Array.getElem?_eq_some_iff.1 h).1
theorem Row.cell {w : World} {g : Nat} {l : List Value} {t : TypeId} (h : Row w g l t) (i : Nat) : w.cell? ⟨g, i, none⟩ = l[i]? := by
  rw [cell_of_row w g i _ t (0, 0) h]; simp
theorem Row.free {w : World} {g : Nat} {l : List Value} {t : TypeId} (h : Row w g l t) (i : Nat) : w.frozen? ⟨g, i, none⟩ = false := frozen_of_row w g i _ t h
theorem Row.below {w w' : World} {B g : Nat} {l : List Value} {t : TypeId} (h : Row w g l t) (hb : Below B w w') (hg : g < B) : Row w' g l t := by
  unfold Row; rw [hb.block g hg]; exact h
theorem Row.below' {w w' : World} {g : Nat} {l : List Value} {t : TypeId} (h : Row w g l t) (hb : Below w.heap.size w w') : Row w' g l t := h.below hb h.lt
theorem Row.drew {w : World} {g : Nat} {l : List Value} {t : TypeId} (h : Row w g l t) : Row w.drew g l t := h
theorem Row.alloc {w : World} {g : Nat} {l : List Value} {t : TypeId} (h : Row w g l t) (o : Obj) : Row (w.alloc o) g l t := by
  unfold Row; rw [Below.heap_alloc _ _ _ h.lt]; exact h
theorem Row.new (w : World) (l : List Value) (t : TypeId) : Row (w.alloc (.cells l.toArray t)) w.heap.size l t := heap_alloc_new w _
theorem Row.set {w : World} {g : Nat} {l : List Value} {t : TypeId} (h : Row w g l t) (i : Nat) (v : Value) : Row (w.setCell ⟨g, i, none⟩ v) g (l.set i v) t := by
  unfold Row
  rw [heap_setCell_same w g i l.toArray t v h]; simp
theorem Row.setRow {w : World} {g : Nat} {l : List Value} {t : TypeId} (h : Row w g l t) (l' : List Value) : Row (w.setRow g l'.toArray) g l' t :=
  setRow_heap w g _ _ t _ h
def rotr (x n : Int) : Int := bits .or .u32 (x / 2 ^ n.toNat) (x * 2 ^ (32 - n).toNat % 4294967296)
def big4 (a b c d : Int) : Int := bits .or .u32 (bits .or .u32 (bits .or .u32 (a * 16777216) (b * 65536)) (c * 256)) d
def four (x : Int) : List Int := [x / 16777216 % 256, x / 65536 % 256, x / 256 % 256, x % 256]
def sig0 (x : Int) : Int := bits .xor .u32 (bits .xor .u32 (rotr x 7) (rotr x 18)) (x / 8)
def sig1 (y : Int) : Int := bits .xor .u32 (bits .xor .u32 (rotr y 17) (rotr y 19)) (y / 1024)
def nextW (l : List Int) (k : Nat) : Int :=
  (sig1 (l.getD (k - 2) 0) + l.getD (k - 7) 0 + sig0 (l.getD (k - 15) 0) + l.getD (k - 16) 0) % 4294967296
def sched (b : List Int) : Nat → List Int
  | 0 => []
  | k + 1 => sched b k ++ [if k < 16 then big4 (b.getD (4 * k) 0) (b.getD (4 * k + 1) 0) (b.getD (4 * k + 2) 0) (b.getD (4 * k + 3) 0) else nextW (sched b k) k]
theorem sched_length (b : List Int) (k : Nat) : (sched b k).length = k := by
  induction k with
  | zero => rfl
  | succ k ih => simp [sched, ih]
def cap0 (a : Int) : Int := bits .xor .u32 (bits .xor .u32 (rotr a 2) (rotr a 13)) (rotr a 22)
def cap1 (e : Int) : Int := bits .xor .u32 (bits .xor .u32 (rotr e 6) (rotr e 11)) (rotr e 25)
def kTab : List Int := [1116352408, 1899447441, 3049323471, 3921009573, 961987163, 1508970993, 2453635748, 2870763221, 3624381080, 310598401, 607225278, 1426881987, 1925078388, 2162078206, 2614888103, 3248222580, 3835390401, 4022224774, 264347078, 604807628, 770255983, 1249150122, 1555081692, 1996064986, 2554220882, 2821834349, 2952996808, 3210313671, 3336571891, 3584528711, 113926993, 338241895, 666307205, 773529912, 1294757372, 1396182291, 1695183700, 1986661051, 2177026350, 2456956037, 2730485921, 2820302411, 3259730800, 3345764771, 3516065817, 3600352804, 4094571909, 275423344, 430227734, 506948616, 659060556, 883997877, 958139571, 1322822218, 1537002063, 1747873779, 1955562222, 2024104815, 2227730452, 2361852424, 2428436474, 2756734187, 3204031479, 3329325298]
def notW (e : Int) : Int := bits .xor .u32 (if IntKind.u32.signed = true then -1 else IntKind.u32.max) e
def tOne (k x e f g h : Int) : Int := (h + cap1 e + bits .xor .u32 (bits .and .u32 e f) (bits .and .u32 (notW e) g) + k + x) % 4294967296
def tTwo (a b c : Int) : Int := (cap0 a + bits .xor .u32 (bits .xor .u32 (bits .and .u32 a b) (bits .and .u32 a c)) (bits .and .u32 b c)) % 4294967296
def rnd (k x : Int) : List Int → List Int
  | [a, b, c, d, e, f, g, h] => [(tOne k x e f g h + tTwo a b c) % 4294967296, a, b, c, (d + tOne k x e f g h) % 4294967296, e, f, g]
  | l => l
def shaRounds (ws W : List Int) : Nat → List Int
  | 0 => ws
  | k + 1 => rnd (kTab.getD k 0) (W.getD k 0) (shaRounds ws W k)
theorem shaRounds_step {ws W : List Int} {k : Nat} {a b c d e f g h kk xx : Int} (hr : shaRounds ws W k = [a, b, c, d, e, f, g, h]) (hk : kk = kTab.getD k 0) (hx : xx = W.getD k 0) :
    shaRounds ws W (k + 1) = [(tOne kk xx e f g h + tTwo a b c) % 4294967296, a, b, c, (d + tOne kk xx e f g h) % 4294967296, e, f, g] := by
  rw [shaRounds, hr, ← hk, ← hx]; rfl
def addW (a b : List Int) : List Int := List.zipWith (fun x y => (x + y) % 4294967296) a b
def addUpto (ws vs : List Int) (k : Nat) : List Int := (addW ws vs).take k ++ ws.drop k
theorem addW_length (ws vs : List Int) (h : ws.length = 8) (h' : vs.length = 8) : (addW ws vs).length = 8 := by simp [addW, h, h']
theorem addUpto_length (ws vs : List Int) (h : ws.length = 8) (h' : vs.length = 8) (k : Nat) (hk : k ≤ 8) : (addUpto ws vs k).length = 8 := by simp [addUpto, addW, h, h']; omega
theorem addUpto_full (ws vs : List Int) (h : ws.length = 8) (h' : vs.length = 8) : addUpto ws vs 8 = addW ws vs := by
  unfold addUpto
  rw [List.take_of_length_le (by rw [addW_length ws vs h h']; omega), List.drop_of_length_le (by omega), List.append_nil]
theorem addUpto_get (ws vs : List Int) (h : ws.length = 8) (h' : vs.length = 8) (k : Nat) (hk : k < 8) : (addUpto ws vs k).getD k 0 = ws.getD k 0 := by
  have e : min k 8 = k := by omega
  simp [addUpto, List.getElem?_append, addW, h, h', e]
theorem addUpto_set (ws vs : List Int) (h : ws.length = 8) (h' : vs.length = 8) (k : Nat) (hk : k < 8) : (addUpto ws vs k).set k ((ws.getD k 0 + vs.getD k 0) % 4294967296) = addUpto ws vs (k + 1) := by
  unfold addUpto
  have hl : (addW ws vs).length = 8 := addW_length ws vs h h'
  have e : ((addW ws vs).take k).length = k := by simp [hl]; omega
  rw [List.set_append_right _ _ (by omega), e, Nat.sub_self]
  have hd : ws.drop k = ws[k]'(by omega) :: ws.drop (k + 1) := List.drop_eq_getElem_cons (by omega)
  rw [hd, List.set_cons_zero, List.take_succ_eq_append_getElem (by omega)]
  simp [addW, h, h', hk]
def mix (ws bs : List Int) : List Int := addW ws (shaRounds ws (sched bs 64) 64)
/-- The row of the words when k of them are made. -/
def schedRow (b : List Int) (k : Nat) : List Int := sched b k ++ List.replicate (64 - k) 0
theorem schedRow_length (b : List Int) (k : Nat) (h : k ≤ 64) : (schedRow b k).length = 64 := by simp [schedRow, sched_length]; omega
theorem schedRow_full (b : List Int) : schedRow b 64 = sched b 64 := by simp [schedRow]
theorem schedRow_set (b : List Int) (k : Nat) (h : k < 64) (x : Int) (hx : x = (if k < 16 then big4 (b.getD (4 * k) 0) (b.getD (4 * k + 1) 0) (b.getD (4 * k + 2) 0) (b.getD (4 * k + 3) 0) else nextW (sched b k) k)) :
    (schedRow b k).set k x = schedRow b (k + 1) := by
  subst hx
  unfold schedRow
  rw [List.set_append_right _ _ (by rw [sched_length]; omega), sched_length, Nat.sub_self]
  have : 64 - k = (64 - (k + 1)) + 1 := by omega
  rw [this, List.replicate_succ, List.set_cons_zero, sched]
  simp
theorem schedRow_get (b : List Int) (k j : Nat) (h : j < k) : (schedRow b k).getD j 0 = (sched b k).getD j 0 := by
  unfold schedRow
  simp [List.getElem?_append, sched_length, h]
theorem u32s_set (l : List Int) (k : Nat) (x : Int) : (u32s l).set k (.int .u32 x) = u32s (l.set k x) := by simp [u32s, List.map_set]
theorem u8s_set (l : List Int) (k : Nat) (x : Int) : (u8s l).set k (.int .u8 x) = u8s (l.set k x) := by simp [u8s, List.map_set]
end Go.Proofs.YtjmlgjbojmlibaaGreatDoor
namespace Go.Proofs.YtjmlgjbojmlibaaGreatDoor
open Go Go.RowKit
def Bytes (l : List Int) : Prop := ∀ x ∈ l, 0 ≤ x ∧ x < 256
theorem Bytes.get {l : List Int} (h : Bytes l) (j : Nat) : 0 ≤ l.getD j 0 ∧ l.getD j 0 < 256 := by
  rcases Nat.lt_or_ge j l.length with hj | hj
  · have := h l[j] (List.getElem_mem hj)
    simpa [hj] using this
  · simp [List.getElem?_eq_none hj]
theorem Bytes.append {l l' : List Int} (h : Bytes l) (h' : Bytes l') : Bytes (l ++ l') := by
  intro x hx
  rcases List.mem_append.1 hx with hx | hx
  · exact h x hx
  · exact h' x hx
theorem Bytes.take {l : List Int} (h : Bytes l) (n : Nat) : Bytes (l.take n) := fun x hx => h x (List.mem_of_mem_take hx)
theorem Bytes.drop {l : List Int} (h : Bytes l) (n : Nat) : Bytes (l.drop n) := fun x hx => h x (List.mem_of_mem_drop hx)
theorem Bytes.zeros (n : Nat) : Bytes (List.replicate n 0) := by
  intro x hx
  have := List.eq_of_mem_replicate hx
  omega
theorem Bytes.splice {l cs : List Int} (h : Bytes l) (hc : Bytes cs) (off : Nat) : Bytes (Go.splice l off cs) :=
  (h.take _).append (hc.append (h.drop _))
theorem Bytes.set {l : List Int} (h : Bytes l) (i : Nat) (x : Int) (hx : 0 ≤ x ∧ x < 256) : Bytes (l.set i x) := by
  intro y hy
  rcases List.mem_or_eq_of_mem_set hy with hy | rfl
  · exact h y hy
  · exact hx
def firstW : List Int := [1779033703, 3144134277, 1013904242, 2773480762, 1359893119, 2600822924, 528734635, 1541459225]
theorem rnd_length (k x : Int) (l : List Int) (h : l.length = 8) : (rnd k x l).length = 8 := by
  match l, h with
  | [a, b, c, d, e, f, g, h], _ => rfl
theorem shaRounds_length (ws W : List Int) (h : ws.length = 8) (k : Nat) : (shaRounds ws W k).length = 8 := by
  induction k with
  | zero => exact h
  | succ k ih => exact rnd_length _ _ _ ih
theorem mix_length (ws bs : List Int) (h : ws.length = 8) : (mix ws bs).length = 8 := addW_length _ _ h (shaRounds_length _ _ h _)
/-- The words behind the first k blocks of a message. -/
def absorb (m : List Int) : Nat → List Int
  | 0 => firstW
  | k + 1 => mix (absorb m k) ((m.drop (64 * k)).take 64)
theorem absorb_length (m : List Int) (k : Nat) : (absorb m k).length = 8 := by
  induction k with
  | zero => rfl
  | succ k ih => exact mix_length _ _ ih
theorem absorb_append (m d : List Int) (k : Nat) (h : 64 * k ≤ m.length) : absorb (m ++ d) k = absorb m k := by
  induction k with
  | zero => rfl
  | succ k ih =>
    have e : ((m ++ d).drop (64 * k)).take 64 = (m.drop (64 * k)).take 64 := by
      rw [List.drop_append_of_le_length (by omega), List.take_append_of_le_length (by simp; omega)]
    rw [absorb, absorb, ih (by omega), e]
def wsOf (m : List Int) : List Int := absorb m (m.length / 64)
def tailOf (m : List Int) : List Int := m.drop (64 * (m.length / 64))
def restOf (m : List Int) : List Int := tailOf m ++ List.replicate (64 - m.length % 64) 0
theorem wsOf_length (m : List Int) : (wsOf m).length = 8 := absorb_length _ _
theorem tailOf_length (m : List Int) : (tailOf m).length = m.length % 64 := by simp [tailOf]; omega
theorem restOf_length (m : List Int) : (restOf m).length = 64 := by simp [restOf, tailOf_length]; omega
theorem restOf_bytes {m : List Int} (h : Bytes m) : Bytes (restOf m) := (h.drop _).append (Bytes.zeros _)
theorem wsOf_small (m : List Int) (h : m.length < 64) : wsOf m = firstW := by
  have e : m.length / 64 = 0 := by omega
  rw [wsOf, e]; rfl
theorem splice_rest (m d : List Int) (h : m.length % 64 + d.length ≤ 64) : splice (restOf m) (m.length % 64) d = tailOf m ++ d ++ List.replicate (64 - (m.length % 64 + d.length)) 0 := by
  have hl := tailOf_length m
  have e1 : (restOf m).take (m.length % 64) = tailOf m := by
    unfold restOf
    rw [List.take_append_of_le_length (by omega), List.take_of_length_le (by omega)]
  have e2 : (restOf m).drop (m.length % 64 + d.length) = List.replicate (64 - (m.length % 64 + d.length)) 0 := by
    unfold restOf
    rw [List.drop_append, List.drop_of_length_le (by omega), hl, List.nil_append, List.drop_replicate]
    congr 1
    omega
  unfold splice
  rw [e1, e2, List.append_assoc]
theorem more_ws (m d : List Int) (h : m.length % 64 + d.length < 64) : wsOf (m ++ d) = wsOf m := by
  have e : (m ++ d).length / 64 = m.length / 64 := by simp; omega
  rw [wsOf, e, absorb_append m d _ (by omega), wsOf]
theorem more_rest (m d : List Int) (h : m.length % 64 + d.length < 64) : restOf (m ++ d) = splice (restOf m) (m.length % 64) d := by
  have e : (m ++ d).length / 64 = m.length / 64 := by simp; omega
  have e2 : (m ++ d).length % 64 = m.length % 64 + d.length := by simp; omega
  rw [splice_rest m d (by omega), restOf, tailOf, e, e2, List.drop_append_of_le_length (by omega), tailOf]
theorem full_ws (m d : List Int) (h : m.length % 64 + d.length = 64) : wsOf (m ++ d) = mix (wsOf m) (splice (restOf m) (m.length % 64) d) := by
  have e : (m ++ d).length / 64 = m.length / 64 + 1 := by simp; omega
  have e3 : ((m ++ d).drop (64 * (m.length / 64))).take 64 = tailOf m ++ d := by
    rw [List.drop_append_of_le_length (by omega), List.take_of_length_le (by have := tailOf_length m; unfold tailOf at this; simp at this ⊢; omega), tailOf]
  rw [splice_rest m d (by omega), wsOf, e, absorb, absorb_append m d _ (by omega), e3, h]
  simp [wsOf]
theorem full_rest (m d : List Int) (h : m.length % 64 + d.length = 64) : restOf (m ++ d) = List.replicate 64 0 := by
  have e : (m ++ d).length % 64 = 0 := by simp; omega
  have hl := tailOf_length (m ++ d)
  rw [e] at hl
  rw [restOf, List.eq_nil_of_length_eq_zero hl, e]
  rfl
/-- The cells of a Hash. -/
def hrow (ws rest : List Int) (n : Int) : List Value := u32s ws ++ (u8s rest ++ [.int .i64 n])
theorem hrow_length (ws rest : List Int) (n : Int) (h : ws.length = 8) (h' : rest.length = 64) : (hrow ws rest n).length = 73 := by simp [hrow, u32s_length, u8s_length, h, h']
theorem hrow_rest (ws rest : List Int) (n : Int) (h : ws.length = 8) (h' : rest.length = 64) : ((hrow ws rest n).drop 8).take 64 = u8s rest := by
  rw [hrow, List.drop_append, List.drop_of_length_le (by rw [u32s_length]; omega), u32s_length, h, List.nil_append, Nat.sub_self, List.drop_zero, List.take_append_of_le_length (by rw [u8s_length]; omega), List.take_of_length_le (by rw [u8s_length]; omega)]
theorem hrow_size (ws rest : List Int) (n : Int) (h : ws.length = 8) (h' : rest.length = 64) : (hrow ws rest n)[72]? = some (.int .i64 n) := by
  rw [hrow, List.getElem?_append_right (by rw [u32s_length]; omega), List.getElem?_append_right (by rw [u8s_length, u32s_length]; omega), u8s_length, u32s_length, h, h']
  rfl
theorem hrow_setSize (ws rest : List Int) (n n' : Int) (h : ws.length = 8) (h' : rest.length = 64) : (hrow ws rest n).set 72 (.int .i64 n') = hrow ws rest n' := by
  rw [hrow, List.set_append_right _ _ (by rw [u32s_length]; omega), List.set_append_right _ _ (by rw [u8s_length, u32s_length]; omega), u8s_length, u32s_length, h, h']
  rfl
theorem hrow_setWords (ws ws' rest : List Int) (n : Int) (h : ws.length = 8) (h' : ws'.length = 8) : splice (hrow ws rest n) 0 (u32s ws') = hrow ws' rest n := by
  unfold splice hrow
  rw [List.take_zero, List.nil_append, u32s_length, h', Nat.zero_add, List.drop_append, List.drop_of_length_le (by rw [u32s_length]; omega), u32s_length, h]
  rfl
theorem hrow_setRest (ws rest : List Int) (n : Int) (off : Nat) (cs : List Int) (h : ws.length = 8) (h' : rest.length = 64) (hc : off + cs.length ≤ 64) : splice (hrow ws rest n) (8 + off) (u8s cs) = hrow ws (splice rest off cs) n := by
  unfold splice hrow
  rw [u8s_length, List.take_append, List.take_of_length_le (by rw [u32s_length]; omega), u32s_length, h, List.drop_append, List.drop_of_length_le (by rw [u32s_length]; omega), u32s_length, h,
    show 8 + off - 8 = off by omega, show 8 + off + cs.length - 8 = off + cs.length by omega, List.take_append_of_le_length (by rw [u8s_length]; omega), List.drop_append_of_le_length (by rw [u8s_length]; omega)]
  simp [u8s]
def be8 (n : Int) : List Int :=
  [n / 256 / 256 / 256 / 256 / 256 / 256 / 256 % 256, n / 256 / 256 / 256 / 256 / 256 / 256 % 256, n / 256 / 256 / 256 / 256 / 256 % 256, n / 256 / 256 / 256 / 256 % 256, n / 256 / 256 / 256 % 256, n / 256 / 256 % 256, n / 256 % 256, n % 256]
theorem be8_bytes (n : Int) : Bytes (be8 n) := by
  intro x hx
  simp only [be8, List.mem_cons, List.not_mem_nil, or_false] at hx
  rcases hx with rfl | rfl | rfl | rfl | rfl | rfl | rfl | rfl <;> omega
def fin (ws rest : List Int) (n : Nat) : List Int :=
  if 56 ≤ n % 64 then mix (mix ws (rest.set (n % 64) 128)) (splice (List.replicate 64 0) 56 (be8 (n * 8)))
  else mix ws (splice (rest.set (n % 64) 128) 56 (be8 (n * 8)))
theorem fin_length (ws rest : List Int) (n : Nat) (h : ws.length = 8) : (fin ws rest n).length = 8 := by
  unfold fin; split
  · exact mix_length _ _ (mix_length _ _ h)
  · exact mix_length _ _ h
def asB (ws : List Int) : List Int := ws.flatMap four
theorem asB_length (ws : List Int) (h : ws.length = 8) : (asB ws).length = 32 := by
  match ws, h with
  | [a, b, c, d, e, f, g, h], _ => rfl
theorem four_bytes (x : Int) : Bytes (four x) := by
  intro y hy
  simp only [four, List.mem_cons, List.not_mem_nil, or_false] at hy
  rcases hy with rfl | rfl | rfl | rfl <;> omega
theorem asB_bytes (ws : List Int) : Bytes (asB ws) := by
  intro y hy
  obtain ⟨x, _, hx⟩ := List.mem_flatMap.1 hy
  exact four_bytes x y hx
def asRow (ws : List Int) (k : Nat) : List Int := asB (ws.take k) ++ List.replicate (32 - 4 * k) 0
theorem asB_take_length (ws : List Int) (h : ws.length = 8) (k : Nat) (hk : k ≤ 8) : (asB (ws.take k)).length = 4 * k := by
  have : ∀ l : List Int, (asB l).length = 4 * l.length := by
    intro l
    induction l with
    | nil => rfl
    | cons x l ih => simp [asB, four] at ih ⊢; omega
  rw [this]
  simp
  omega
theorem asRow_length (ws : List Int) (h : ws.length = 8) (k : Nat) (hk : k ≤ 8) : (asRow ws k).length = 32 := by simp [asRow, asB_take_length ws h k hk]; omega
theorem asRow_full (ws : List Int) (h : ws.length = 8) : asRow ws 8 = asB ws := by
  unfold asRow
  rw [List.take_of_length_le (by omega)]
  simp
theorem asRow_step (ws : List Int) (h : ws.length = 8) (k : Nat) (hk : k < 8) : splice (asRow ws k) (4 * k) (four (ws.getD k 0)) = asRow ws (k + 1) := by
  have hl := asB_take_length ws h k (by omega)
  have h4 : (four (ws.getD k 0)).length = 4 := rfl
  have e1 : (asRow ws k).take (4 * k) = asB (ws.take k) := by
    unfold asRow
    rw [List.take_append_of_le_length (by omega), List.take_of_length_le (by omega)]
  have e2 : (asRow ws k).drop (4 * k + 4) = List.replicate (32 - 4 * (k + 1)) 0 := by
    unfold asRow
    rw [List.drop_append, List.drop_of_length_le (by omega), hl, List.nil_append, List.drop_replicate]
    congr 1
    omega
  have e3 : asB (ws.take (k + 1)) = asB (ws.take k) ++ four (ws.getD k 0) := by
    have hg : ws.getD k 0 = ws[k]'(by omega) := by simp [show k < ws.length by omega]
    unfold asB
    rw [List.take_succ_eq_append_getElem (by omega), List.flatMap_append, hg, List.flatMap_cons, List.flatMap_nil, List.append_nil]
  unfold splice
  rw [h4, e1, e2, asRow, e3, List.append_assoc]
/-- The sum of a message. -/
def shaOf (m : List Int) : List Int := asB (fin (wsOf m) (restOf m) m.length)
theorem shaOf_length (m : List Int) : (shaOf m).length = 32 := asB_length _ (fin_length _ _ _ (wsOf_length m))
theorem shaOf_bytes (m : List Int) : Bytes (shaOf m) := asB_bytes _
def hexDigit (x : Int) : Int := [48, 49, 50, 51, 52, 53, 54, 55, 56, 57, 97, 98, 99, 100, 101, 102].getD x.toNat 0
def hexOf (l : List Int) : List Int := l.flatMap fun c => [hexDigit (c / 16), hexDigit (c % 16)]
end Go.Proofs.YtjmlgjbojmlibaaGreatDoor
namespace Go.Proofs.YtjmlgjbojmlibaaGreatDoor
open Go Go.RowKit
theorem eight {s : Nat} (h : s < 8) : s = 0 ∨ s = 1 ∨ s = 2 ∨ s = 3 ∨ s = 4 ∨ s = 5 ∨ s = 6 ∨ s = 7 := by omega
/-- The bit at place i, the lowest of each byte first. -/
def bitL (l : List Int) (i : Nat) : Int := l.getD (i / 8) 0 / 2 ^ (i % 8) % 2
/-- A byte with its bit s set to x. -/
def setB (c : Int) (s : Nat) (x : Int) : Int := c - c / 2 ^ s % 2 * 2 ^ s + x * 2 ^ s
def setBitL (l : List Int) (i : Nat) (x : Int) : List Int := l.set (i / 8) (setB (l.getD (i / 8) 0) (i % 8) x)
theorem bitL_two (l : List Int) (i : Nat) : 0 ≤ bitL l i ∧ bitL l i ≤ 1 := by unfold bitL; omega
theorem setB_byte {c x : Int} {s : Nat} (hs : s < 8) (hc : 0 ≤ c ∧ c < 256) (hx : 0 ≤ x ∧ x ≤ 1) : 0 ≤ setB c s x ∧ setB c s x < 256 := by
  unfold setB
  rcases eight hs with rfl | rfl | rfl | rfl | rfl | rfl | rfl | rfl <;> simp <;> omega
theorem setB_same {c x : Int} {s : Nat} (hs : s < 8) (hx : 0 ≤ x ∧ x ≤ 1) : setB c s x / 2 ^ s % 2 = x := by
  unfold setB
  rcases eight hs with rfl | rfl | rfl | rfl | rfl | rfl | rfl | rfl <;> simp <;> omega
theorem setB_other {c x : Int} {s t : Nat} (hs : s < 8) (ht : t < 8) (hne : t ≠ s) (hx : 0 ≤ x ∧ x ≤ 1) : setB c s x / 2 ^ t % 2 = c / 2 ^ t % 2 := by
  unfold setB
  rcases eight hs with rfl | rfl | rfl | rfl | rfl | rfl | rfl | rfl <;>
    rcases eight ht with rfl | rfl | rfl | rfl | rfl | rfl | rfl | rfl <;>
    first | exact absurd rfl hne | (simp; done) | (simp; omega)
theorem setB_all : ∀ c : Fin 256, ∀ s : Fin 8, ∀ x : Fin 2, Go.bits .or .u8 (Go.bits .andNot .u8 (c.val : Int) (2 ^ s.val)) ((x.val : Int) * 2 ^ s.val) = setB (c.val : Int) s.val (x.val : Int) := by decide +kernel
/-- As the program sets a bit. -/
theorem setB_go {c x : Int} {s : Nat} (hs : s < 8) (hc : 0 ≤ c ∧ c < 256) (hx : 0 ≤ x ∧ x ≤ 1) : Go.bits .or .u8 (Go.bits .andNot .u8 c (2 ^ s)) (x * 2 ^ s) = setB c s x := by
  obtain ⟨C, rfl⟩ := Int.eq_ofNat_of_zero_le hc.1
  obtain ⟨X, rfl⟩ := Int.eq_ofNat_of_zero_le hx.1
  exact setB_all ⟨C, by omega⟩ ⟨s, hs⟩ ⟨X, by omega⟩
theorem setBitL_length (l : List Int) (i : Nat) (x : Int) : (setBitL l i x).length = l.length := by simp [setBitL]
theorem setBitL_bytes {l : List Int} (h : Bytes l) (i : Nat) {x : Int} (hx : 0 ≤ x ∧ x ≤ 1) : Bytes (setBitL l i x) := h.set _ _ (setB_byte (Nat.mod_lt _ (by decide)) (h.get _) hx)
theorem bitL_set {l : List Int} {i : Nat} (hi : i < 8 * l.length) {x : Int} (hx : 0 ≤ x ∧ x ≤ 1) (j : Nat) : bitL (setBitL l i x) j = if j = i then x else bitL l j := by
  have hq : i / 8 < l.length := by omega
  unfold bitL setBitL
  by_cases hb : j / 8 = i / 8
  · have e : (l.set (i / 8) (setB (l.getD (i / 8) 0) (i % 8) x)).getD (j / 8) 0 = setB (l.getD (i / 8) 0) (i % 8) x := by
      rw [hb]; simp [hq]
    rw [e]
    by_cases hj : j = i
    · subst hj
      rw [if_pos rfl]
      exact setB_same (Nat.mod_lt _ (by decide)) hx
    · rw [if_neg hj, hb]
      exact setB_other (Nat.mod_lt _ (by decide)) (Nat.mod_lt _ (by decide)) (by omega) hx
  · have e : (l.set (i / 8) (setB (l.getD (i / 8) 0) (i % 8) x)).getD (j / 8) 0 = l.getD (j / 8) 0 := by
      simp only [List.getD_eq_getElem?_getD]
      rw [List.getElem?_set_ne (fun h9 => hb h9.symm)]
    rw [e, if_neg (fun h9 => hb (by rw [h9]))]
/-- Two rows of bytes with the same bits are the same. -/
theorem byte_bits {c d : Int} (hc : 0 ≤ c ∧ c < 256) (hd : 0 ≤ d ∧ d < 256) (h : ∀ s, s < 8 → c / 2 ^ s % 2 = d / 2 ^ s % 2) : c = d := by
  have h0 := h 0 (by decide)
  have h1 := h 1 (by decide)
  have h2 := h 2 (by decide)
  have h3 := h 3 (by decide)
  have h4 := h 4 (by decide)
  have h5 := h 5 (by decide)
  have h6 := h 6 (by decide)
  have h7 := h 7 (by decide)
  simp at h0 h1 h2 h3 h4 h5 h6 h7
  omega
theorem bits_ext {l m : List Int} (hl : Bytes l) (hm : Bytes m) (hlen : l.length = m.length) (h : ∀ i, i < 8 * l.length → bitL l i = bitL m i) : l = m := by
  refine List.ext_getElem hlen fun j h1 h2 => ?_
  have e1 : l.getD j 0 = l[j] := by simp [h1]
  have e2 : m.getD j 0 = m[j] := by simp [h2]
  rw [← e1, ← e2]
  refine byte_bits (hl.get j) (hm.get j) fun s hs => ?_
  have h9 := h (8 * j + s) (by omega)
  unfold bitL at h9
  rw [show (8 * j + s) / 8 = j by omega, show (8 * j + s) % 8 = s by omega] at h9
  exact h9
def putT (l : List Int) (at_ : Nat) (n : Nat) : Nat → List Int
  | 0 => l
  | i + 1 => setBitL (putT l at_ n i) (at_ + i) ((n / 2 ^ i % 2 : Nat) : Int)
theorem bit_two (n i : Nat) : 0 ≤ ((n / 2 ^ i % 2 : Nat) : Int) ∧ ((n / 2 ^ i % 2 : Nat) : Int) ≤ 1 := by
  have := Nat.mod_lt (n / 2 ^ i) (show 0 < 2 by decide)
  omega
theorem putT_length (l : List Int) (at_ n : Nat) : ∀ k, (putT l at_ n k).length = l.length
  | 0 => rfl
  | k + 1 => by rw [putT, setBitL_length, putT_length l at_ n k]
theorem putT_bytes {l : List Int} (h : Bytes l) (at_ n : Nat) : ∀ k, Bytes (putT l at_ n k)
  | 0 => h
  | k + 1 => setBitL_bytes (putT_bytes h at_ n k) _ (bit_two n k)
theorem bitL_put {l : List Int} (h : Bytes l) (at_ n : Nat) (j : Nat) : ∀ k, at_ + k ≤ 8 * l.length → bitL (putT l at_ n k) j = if at_ ≤ j ∧ j < at_ + k then ((n / 2 ^ (j - at_) % 2 : Nat) : Int) else bitL l j
  | 0, _ => by rw [putT, if_neg (by omega)]
  | k + 1, hk => by
    rw [putT, bitL_set (by rw [putT_length]; omega) (bit_two n k) j, bitL_put h at_ n j k (by omega)]
    by_cases hj : j = at_ + k
    · subst hj
      rw [if_pos rfl, if_pos (by omega), show at_ + k - at_ = k by omega]
    · rw [if_neg hj]
      by_cases hc : at_ ≤ j ∧ j < at_ + k
      · rw [if_pos hc, if_pos (by omega)]
      · rw [if_neg hc, if_neg (by omega)]
def getT (l : List Int) (at_ : Nat) : Nat → Int
  | 0 => 0
  | i + 1 => getT l at_ i + bitL l (at_ + i) * 2 ^ i
theorem getT_of (l : List Int) (at_ n : Nat) : ∀ k, (∀ i, i < k → bitL l (at_ + i) = ((n / 2 ^ i % 2 : Nat) : Int)) → getT l at_ k = ((n % 2 ^ k : Nat) : Int)
  | 0, _ => by simp [getT, Nat.mod_one]
  | k + 1, h => by
    rw [getT, getT_of l at_ n k (fun i hi => h i (by omega)), h k (by omega), Nat.mod_pow_succ]
    push_cast
    rw [Int.mul_comm]
theorem getT_bounds (l : List Int) (at_ : Nat) : ∀ k, 0 ≤ getT l at_ k ∧ getT l at_ k < 2 ^ k
  | 0 => by simp [getT]
  | k + 1 => by
    have h1 := getT_bounds l at_ k
    have h2 := bitL_two l (at_ + k)
    have h3 : (0 : Int) < 2 ^ k := Int.pow_pos (by decide)
    rw [getT, Int.pow_succ]
    have h4 : bitL l (at_ + k) = 0 ∨ bitL l (at_ + k) = 1 := by omega
    rcases h4 with h4 | h4 <;> rw [h4] <;> omega
/-- As the program joins a bit to what it has. -/
theorem join_go {x y : Int} {k : Nat} (hk : k < 64) (hx : 0 ≤ x ∧ x < 2 ^ k) (hy : 0 ≤ y ∧ y ≤ 1) : Go.bits .or .u64 x (y * 2 ^ k) = x + y * 2 ^ k := by
  obtain ⟨X, rfl⟩ := Int.eq_ofNat_of_zero_le hx.1
  obtain ⟨Y, rfl⟩ := Int.eq_ofNat_of_zero_le hy.1
  have hX : X < 2 ^ k := by have h := hx.2; exact_mod_cast h
  have h64 : 2 ^ k ≤ 2 ^ 63 := Nat.pow_le_pow_right (by decide) (by omega)
  have hY : Y * 2 ^ k ≤ 2 ^ 63 := by
    have hy1 : Y ≤ 1 := by omega
    calc Y * 2 ^ k ≤ 1 * 2 ^ k := Nat.mul_le_mul_right _ hy1
      _ ≤ 2 ^ 63 := by omega
  have hj : X ||| Y * 2 ^ k = X + Y * 2 ^ k := by
    rw [Nat.mul_comm, Nat.add_comm, Nat.or_comm]
    exact (Nat.two_pow_add_eq_or_of_lt hX Y).symm
  have e : ((Y : Int) * 2 ^ k) = ((Y * 2 ^ k : Nat) : Int) := by push_cast; rfl
  have ho : ∀ a : Nat, a < 18446744073709551616 → (BitVec.ofInt 64 (a : Int)).toNat = a := by
    intro a ha
    rw [BitVec.toNat_ofInt]
    omega
  rw [e]
  show IntKind.u64.wrap ((BitVec.ofInt 64 (X : Int) ||| BitVec.ofInt 64 ((Y * 2 ^ k : Nat) : Int)).toNat : Int) = _
  rw [BitVec.toNat_or, ho X (by omega), ho (Y * 2 ^ k) (by omega), hj]
  have h5 : ((X + Y * 2 ^ k : Nat) : Int) < 18446744073709551616 := by
    have h7 : X + Y * 2 ^ k < 18446744073709551616 := by omega
    generalize X + Y * 2 ^ k = z at h7
    omega
  have h6 : (0 : Int) ≤ ((X + Y * 2 ^ k : Nat) : Int) := Int.natCast_nonneg _
  rw [show IntKind.u64.wrap ((X + Y * 2 ^ k : Nat) : Int) = ((X + Y * 2 ^ k : Nat) : Int) by
    generalize ((X + Y * 2 ^ k : Nat) : Int) = z at h5 h6
    simp [IntKind.wrap, IntKind.bits, IntKind.signed]
    omega]
  push_cast
  rfl
abbrev Gens := Nat → Option Nat
def tabBit (l : List Int) (f : Gens) (j : Nat) : Int := match f (j / 29) with
  | some g => ((g / 2 ^ (j % 29) % 2 : Nat) : Int)
  | none => bitL l j
/-- What stands in the table with these gens in it; the others' stay. -/
structure GTab (l : List Int) (f : Gens) (out : List Int) : Prop where
  len : out.length = l.length
  bytes : Bytes out
  bit : ∀ j, j < 8 * l.length → bitL out j = tabBit l f j
theorem GTab.start {l : List Int} (h : Bytes l) : GTab l (fun _ => none) l := ⟨rfl, h, fun _ _ => rfl⟩
theorem GTab.one {l : List Int} {f out : _} (h : GTab l f out) (i g : Nat) (hi : 29 * i + 29 ≤ 8 * l.length) : GTab l (fun k => if k = i then some g else f k) (putT out (29 * i) g 29) := by
  refine ⟨by rw [putT_length, h.len], putT_bytes h.bytes _ _ _, fun j hj => ?_⟩
  rw [bitL_put h.bytes _ _ _ 29 (by rw [h.len]; exact hi), h.bit j hj]
  unfold tabBit
  by_cases hc : 29 * i ≤ j ∧ j < 29 * i + 29
  · rw [if_pos hc]
    have e : j / 29 = i := by omega
    simp only [e, if_true]
    rw [show j - 29 * i = j % 29 by omega]
  · rw [if_neg hc]
    have e : ¬ j / 29 = i := by omega
    simp only [e, if_false]
theorem GTab.same {l : List Int} {f : Gens} {a b : List Int} (ha : GTab l f a) (hb : GTab l f b) : a = b :=
  bits_ext ha.bytes hb.bytes (by rw [ha.len, hb.len]) fun i hi => by rw [ha.bit i (by rw [← ha.len]; exact hi), hb.bit i (by rw [← ha.len]; exact hi)]
/-- The table itself, written in the pages' order. -/
def tabL (l : List Int) (f : Gens) : Nat → List Int
  | 0 => l
  | i + 1 => match f i with
    | none => tabL l f i
    | some g => putT (tabL l f i) (29 * i) g 29
theorem tabL_tab {l : List Int} (h : Bytes l) (f : Gens) : ∀ n, 29 * n ≤ 8 * l.length → GTab l (fun k => if k < n then f k else none) (tabL l f n)
  | 0, _ => by
    have e : (fun k => if k < 0 then f k else none) = fun _ : Nat => (none : Option Nat) := by funext k; rw [if_neg (by omega)]
    rw [e]
    exact GTab.start h
  | n + 1, hn => by
    have ih := tabL_tab h f n (by omega)
    rw [tabL]
    cases hf : f n with
    | none =>
      have e : (fun k => if k < n + 1 then f k else none) = fun k => if k < n then f k else none := by
        funext k
        by_cases hk : k = n
        · subst hk; rw [if_pos (by omega), if_neg (by omega), hf]
        · by_cases hk2 : k < n
          · rw [if_pos (by omega), if_pos hk2]
          · rw [if_neg (by omega), if_neg hk2]
      rw [e]
      exact ih
    | some g =>
      have h9 := ih.one n g (by omega)
      have e : (fun k => if k < n + 1 then f k else none) = fun k => if k = n then some g else if k < n then f k else none := by
        funext k
        by_cases hk : k = n
        · subst hk; rw [if_pos (by omega), if_pos rfl, hf]
        · rw [if_neg hk]
          by_cases hk2 : k < n
          · rw [if_pos (by omega), if_pos hk2]
          · rw [if_neg (by omega), if_neg hk2]
      rw [e]
      exact h9
/-- What is read of the table at a page's place. -/
theorem GTab.get {l : List Int} {f : Gens} {out : List Int} (h : GTab l f out) (i g : Nat) (hi : 29 * i + 29 ≤ 8 * l.length) (hf : f i = some g) : getT out (29 * i) 29 = ((g % 2 ^ 29 : Nat) : Int) :=
  getT_of _ _ _ _ fun j hj => by
    rw [h.bit _ (by omega)]
    unfold tabBit
    rw [show (29 * i + j) / 29 = i by omega, hf, show (29 * i + j) % 29 = j by omega]
theorem getT_congr {l m : List Int} {at_ : Nat} : ∀ k, (∀ i, i < k → bitL l (at_ + i) = bitL m (at_ + i)) → getT l at_ k = getT m at_ k
  | 0, _ => rfl
  | k + 1, h => by rw [getT, getT, getT_congr k (fun i hi => h i (by omega)), h k (by omega)]
/-- The others' stay. -/
theorem GTab.stay {l : List Int} {f : Gens} {out : List Int} (h : GTab l f out) (i : Nat) (hi : 29 * i + 29 ≤ 8 * l.length) (hf : f i = none) : getT out (29 * i) 29 = getT l (29 * i) 29 :=
  getT_congr 29 fun j hj => by
    rw [h.bit _ (by omega)]
    unfold tabBit
    rw [show (29 * i + j) / 29 = i by omega, hf]
/-- The greatest number below a limit that has those lowest bits. -/
def genBelowN (limit low : Nat) : Nat := limit - 1 - (limit - 1 - low) % 2 ^ 29
end Go.Proofs.YtjmlgjbojmlibaaGreatDoor
