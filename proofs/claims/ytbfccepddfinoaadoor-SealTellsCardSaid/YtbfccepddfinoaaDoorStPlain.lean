/- Plain definitions of the stream: a quarter round, a block, what comes of bytes; no statement is proved here. -/
import Derived.Test.YtbfccepddfinoaaDoorPlain
import Derived.Laws.BitsAllLaws
namespace Go.Proofs.YtbfccepddfinoaaDoor
open Go Go.RowKit

def Word (x : Int) : Prop := 0 ≤ x ∧ x < 4294967296
def rotl (x n : Int) : Int := bits .or .u32 (x * 2 ^ n.toNat % 4294967296) (x / 2 ^ (32 - n).toNat)
def quart (a b c d : Int) : Int × Int × Int × Int :=
  let a1 := (a + b) % 4294967296
  let d1 := rotl (bits .xor .u32 d a1) 16
  let c1 := (c + d1) % 4294967296
  let b1 := rotl (bits .xor .u32 b c1) 12
  let a2 := (a + b + b1) % 4294967296
  let d2 := rotl (bits .xor .u32 d1 a2) 8
  let c2 := (c + d1 + d2) % 4294967296
  let b2 := rotl (bits .xor .u32 b1 c2) 7
  (a2, b2, c2, d2)
theorem or_word {x y : Int} (hx : Word x) (hy : Word y) : Word (bits .or .u32 x y) := by
  obtain ⟨h1, h2⟩ := hx
  obtain ⟨h3, h4⟩ := hy
  rw [Word, u32_or x y h1 h2 h3 h4]
  have : x.toNat ||| y.toNat < 2 ^ 32 := Nat.or_lt_two_pow (by omega) (by omega)
  omega
theorem xor_word {x y : Int} (hx : Word x) (hy : Word y) : Word (bits .xor .u32 x y) := by
  obtain ⟨h1, h2⟩ := hx
  obtain ⟨h3, h4⟩ := hy
  rw [Word, u32_xor x y h1 h2 h3 h4]
  have : x.toNat ^^^ y.toNat < 2 ^ 32 := Nat.xor_lt_two_pow (by omega) (by omega)
  omega
theorem mod_word (x : Int) : Word (x % 4294967296) := ⟨by omega, by omega⟩
theorem div_word {x : Int} (hx : Word x) (n : Nat) : Word (x / 2 ^ n) := by
  obtain ⟨h1, h2⟩ := hx
  have hp : (0 : Int) < 2 ^ n := Int.pow_pos (by omega)
  refine ⟨Int.ediv_nonneg h1 (Int.le_of_lt hp), ?_⟩
  have : x / 2 ^ n ≤ x := Int.ediv_le_self _ h1
  omega
theorem rotl_word {x : Int} (hx : Word x) (n : Int) : Word (rotl x n) := or_word (mod_word _) (div_word hx _)
theorem quart_words {a b c d : Int} (hb : Word b) (hd : Word d) : Word (quart a b c d).1 ∧ Word (quart a b c d).2.1 ∧ Word (quart a b c d).2.2.1 ∧ Word (quart a b c d).2.2.2 := by
  have a1 := mod_word (a + b)
  have d1 := rotl_word (xor_word hd a1) 16
  have c1 := mod_word (c + rotl (bits .xor .u32 d ((a + b) % 4294967296)) 16)
  have b1 := rotl_word (xor_word hb c1) 12
  have a2 := mod_word (a + b + rotl (bits .xor .u32 b ((c + rotl (bits .xor .u32 d ((a + b) % 4294967296)) 16) % 4294967296)) 12)
  have d2 := rotl_word (xor_word d1 a2) 8
  exact ⟨mod_word _, rotl_word (xor_word b1 (mod_word _)) 7, mod_word _, d2⟩

/-! A quarter round undone. -/
theorem or_sum (i : Nat) (x y : Int) (hx : Word x) (hy0 : 0 ≤ y) (hm : x.toNat % 2 ^ i = 0) (hy : y.toNat < 2 ^ i) (hi : i ≤ 32) : bits .or .u32 x y = x + y := by
  have h32 : 2 ^ i ≤ 2 ^ 32 := Nat.pow_le_pow_right (by omega) hi
  obtain ⟨h1, h2⟩ := hx
  rw [u32_or x y h1 h2 hy0 (by omega), nat_join i _ _ hm hy]
  omega
theorem or_comm32 (a b : Int) : bits .or .u32 a b = bits .or .u32 b a := by simp only [bits, BitVec.or_comm]
theorem back_rotl16 {x : Int} (hx : Word x) : rotr (rotl x 16) 16 = x := by
  obtain ⟨h1, h2⟩ := hx
  obtain ⟨q, hq⟩ : ∃ q, q = x / 65536 := ⟨_, rfl⟩
  obtain ⟨r, hr⟩ : ∃ r, r = x % 65536 := ⟨_, rfl⟩
  have hx : x = q * 65536 + r := by omega
  have hq0 : 0 ≤ q := by omega
  have hq1 : q < 65536 := by omega
  have hr0 : 0 ≤ r := by omega
  have hr1 : r < 65536 := by omega
  clear hq hr h1 h2
  subst hx
  have e1 : rotl (q * 65536 + r) 16 = r * 65536 + q := by
    show bits .or .u32 ((q * 65536 + r) * 65536 % 4294967296) ((q * 65536 + r) / 65536) = _
    rw [show (q * 65536 + r) * 65536 % 4294967296 = r * 65536 by omega, show (q * 65536 + r) / 65536 = q by omega]
    exact or_sum 16 _ _ ⟨by omega, by omega⟩ (by omega) (by omega) (by omega) (by omega)
  rw [e1]
  show bits .or .u32 ((r * 65536 + q) / 65536) ((r * 65536 + q) * 65536 % 4294967296) = _
  rw [show (r * 65536 + q) / 65536 = r by omega, show (r * 65536 + q) * 65536 % 4294967296 = q * 65536 by omega, or_comm32]
  exact or_sum 16 _ _ ⟨by omega, by omega⟩ (by omega) (by omega) (by omega) (by omega)
theorem back_rotl12 {x : Int} (hx : Word x) : rotr (rotl x 12) 12 = x := by
  obtain ⟨h1, h2⟩ := hx
  obtain ⟨q, hq⟩ : ∃ q, q = x / 1048576 := ⟨_, rfl⟩
  obtain ⟨r, hr⟩ : ∃ r, r = x % 1048576 := ⟨_, rfl⟩
  have hx : x = q * 1048576 + r := by omega
  have hq0 : 0 ≤ q := by omega
  have hq1 : q < 4096 := by omega
  have hr0 : 0 ≤ r := by omega
  have hr1 : r < 1048576 := by omega
  clear hq hr h1 h2
  subst hx
  have e1 : rotl (q * 1048576 + r) 12 = r * 4096 + q := by
    show bits .or .u32 ((q * 1048576 + r) * 4096 % 4294967296) ((q * 1048576 + r) / 1048576) = _
    rw [show (q * 1048576 + r) * 4096 % 4294967296 = r * 4096 by omega, show (q * 1048576 + r) / 1048576 = q by omega]
    exact or_sum 12 _ _ ⟨by omega, by omega⟩ (by omega) (by omega) (by omega) (by omega)
  rw [e1]
  show bits .or .u32 ((r * 4096 + q) / 4096) ((r * 4096 + q) * 1048576 % 4294967296) = _
  rw [show (r * 4096 + q) / 4096 = r by omega, show (r * 4096 + q) * 1048576 % 4294967296 = q * 1048576 by omega, or_comm32]
  exact or_sum 20 _ _ ⟨by omega, by omega⟩ (by omega) (by omega) (by omega) (by omega)
theorem back_rotl8 {x : Int} (hx : Word x) : rotr (rotl x 8) 8 = x := by
  obtain ⟨h1, h2⟩ := hx
  obtain ⟨q, hq⟩ : ∃ q, q = x / 16777216 := ⟨_, rfl⟩
  obtain ⟨r, hr⟩ : ∃ r, r = x % 16777216 := ⟨_, rfl⟩
  have hx : x = q * 16777216 + r := by omega
  have hq0 : 0 ≤ q := by omega
  have hq1 : q < 256 := by omega
  have hr0 : 0 ≤ r := by omega
  have hr1 : r < 16777216 := by omega
  clear hq hr h1 h2
  subst hx
  have e1 : rotl (q * 16777216 + r) 8 = r * 256 + q := by
    show bits .or .u32 ((q * 16777216 + r) * 256 % 4294967296) ((q * 16777216 + r) / 16777216) = _
    rw [show (q * 16777216 + r) * 256 % 4294967296 = r * 256 by omega, show (q * 16777216 + r) / 16777216 = q by omega]
    exact or_sum 8 _ _ ⟨by omega, by omega⟩ (by omega) (by omega) (by omega) (by omega)
  rw [e1]
  show bits .or .u32 ((r * 256 + q) / 256) ((r * 256 + q) * 16777216 % 4294967296) = _
  rw [show (r * 256 + q) / 256 = r by omega, show (r * 256 + q) * 16777216 % 4294967296 = q * 16777216 by omega, or_comm32]
  exact or_sum 24 _ _ ⟨by omega, by omega⟩ (by omega) (by omega) (by omega) (by omega)
theorem back_rotl7 {x : Int} (hx : Word x) : rotr (rotl x 7) 7 = x := by
  obtain ⟨h1, h2⟩ := hx
  obtain ⟨q, hq⟩ : ∃ q, q = x / 33554432 := ⟨_, rfl⟩
  obtain ⟨r, hr⟩ : ∃ r, r = x % 33554432 := ⟨_, rfl⟩
  have hx : x = q * 33554432 + r := by omega
  have hq0 : 0 ≤ q := by omega
  have hq1 : q < 128 := by omega
  have hr0 : 0 ≤ r := by omega
  have hr1 : r < 33554432 := by omega
  clear hq hr h1 h2
  subst hx
  have e1 : rotl (q * 33554432 + r) 7 = r * 128 + q := by
    show bits .or .u32 ((q * 33554432 + r) * 128 % 4294967296) ((q * 33554432 + r) / 33554432) = _
    rw [show (q * 33554432 + r) * 128 % 4294967296 = r * 128 by omega, show (q * 33554432 + r) / 33554432 = q by omega]
    exact or_sum 7 _ _ ⟨by omega, by omega⟩ (by omega) (by omega) (by omega) (by omega)
  rw [e1]
  show bits .or .u32 ((r * 128 + q) / 128) ((r * 128 + q) * 33554432 % 4294967296) = _
  rw [show (r * 128 + q) / 128 = r by omega, show (r * 128 + q) * 33554432 % 4294967296 = q * 33554432 by omega, or_comm32]
  exact or_sum 25 _ _ ⟨by omega, by omega⟩ (by omega) (by omega) (by omega) (by omega)
theorem xor_twice {x y : Int} (hx : Word x) (hy : Word y) : bits .xor .u32 (bits .xor .u32 x y) y = x := by
  have hw := xor_word hx hy
  rw [u32_xor _ y hw.1 hw.2 hy.1 hy.2, u32_xor x y hx.1 hx.2 hy.1 hy.2, Int.toNat_natCast, Nat.xor_assoc, Nat.xor_self, Nat.xor_zero]
  have := hx.1
  omega
theorem xor_twice8 {x y : Int} (hx : 0 ≤ x ∧ x < 256) (hy : 0 ≤ y ∧ y < 256) : bits .xor .u8 (bits .xor .u8 x y) y = x := by
  have hl : x.toNat ^^^ y.toNat < 2 ^ 8 := Nat.xor_lt_two_pow (by omega) (by omega)
  rw [u8_xor x y hx.1 hx.2 hy.1 hy.2, u8_xor _ y (by omega) (by omega) hy.1 hy.2, Int.toNat_natCast, Nat.xor_assoc, Nat.xor_self, Nat.xor_zero]
  have := hx.1
  omega
theorem xor_both8 {x y z : Int} (hx : 0 ≤ x ∧ x < 256) (hy : 0 ≤ y ∧ y < 256) (hz : 0 ≤ z ∧ z < 256) : bits .xor .u8 (bits .xor .u8 x z) (bits .xor .u8 y z) = bits .xor .u8 x y := by
  have hl : x.toNat ^^^ z.toNat < 2 ^ 8 := Nat.xor_lt_two_pow (by omega) (by omega)
  have hl2 : y.toNat ^^^ z.toNat < 2 ^ 8 := Nat.xor_lt_two_pow (by omega) (by omega)
  rw [u8_xor x z hx.1 hx.2 hz.1 hz.2, u8_xor y z hy.1 hy.2 hz.1 hz.2, u8_xor x y hx.1 hx.2 hy.1 hy.2, u8_xor _ _ (by omega) (by omega) (by omega) (by omega), Int.toNat_natCast, Int.toNat_natCast]
  rw [Nat.xor_comm y.toNat z.toNat, Nat.xor_assoc, ← Nat.xor_assoc z.toNat, Nat.xor_self, Nat.zero_xor]
theorem xor_nil8 {x : Int} (hx : 0 ≤ x ∧ x < 256) : bits .xor .u8 0 x = x := by
  rw [u8_xor 0 x (by omega) (by omega) hx.1 hx.2]
  simp
  omega

/-! The sixteen words, mixed. -/
def qTab : List (List Nat) := [[0, 4, 8, 12], [1, 5, 9, 13], [2, 6, 10, 14], [3, 7, 11, 15], [0, 5, 10, 15], [1, 6, 11, 12], [2, 7, 8, 13], [3, 4, 9, 14]]
def qAt (n i : Nat) : Nat := (qTab.getD n []).getD i 0
def qFlat : List Int := [0, 4, 8, 12, 1, 5, 9, 13, 2, 6, 10, 14, 3, 7, 11, 15, 0, 5, 10, 15, 1, 6, 11, 12, 2, 7, 8, 13, 3, 4, 9, 14]
theorem qFlat_at : ∀ n : Fin 8, ∀ i : Fin 4, qFlat.getD (4 * n.val + i.val) 0 = ((qAt n.val i.val : Nat) : Int) := by decide +kernel
theorem qAt_lt : ∀ n : Fin 8, ∀ i : Fin 4, qAt n.val i.val < 16 := by decide +kernel
theorem qAt_apart : ∀ n : Fin 8, qAt n.val 0 ≠ qAt n.val 1 ∧ qAt n.val 0 ≠ qAt n.val 2 ∧ qAt n.val 0 ≠ qAt n.val 3 ∧ qAt n.val 1 ≠ qAt n.val 2 ∧ qAt n.val 1 ≠ qAt n.val 3 ∧ qAt n.val 2 ≠ qAt n.val 3 := by decide +kernel
def qset (ws : List Int) (i j k l : Nat) : List Int :=
  (((ws.set i (quart (ws.getD i 0) (ws.getD j 0) (ws.getD k 0) (ws.getD l 0)).1).set j (quart (ws.getD i 0) (ws.getD j 0) (ws.getD k 0) (ws.getD l 0)).2.1).set k (quart (ws.getD i 0) (ws.getD j 0) (ws.getD k 0) (ws.getD l 0)).2.2.1).set l (quart (ws.getD i 0) (ws.getD j 0) (ws.getD k 0) (ws.getD l 0)).2.2.2
def qrounds (ws : List Int) : Nat → List Int
  | 0 => ws
  | n + 1 => qset (qrounds ws n) (qAt (n % 8) 0) (qAt (n % 8) 1) (qAt (n % 8) 2) (qAt (n % 8) 3)
theorem qset_length (ws : List Int) (i j k l : Nat) : (qset ws i j k l).length = ws.length := by simp [qset]
theorem qrounds_length (ws : List Int) (n : Nat) : (qrounds ws n).length = ws.length := by
  induction n with
  | zero => rfl
  | succ n ih => rw [qrounds, qset_length, ih]
def Words (l : List Int) : Prop := ∀ x ∈ l, Word x
theorem Words.get {l : List Int} (h : Words l) (j : Nat) : Word (l.getD j 0) := by
  rcases Nat.lt_or_ge j l.length with hj | hj
  · have := h l[j] (List.getElem_mem hj)
    simpa [hj] using this
  · simp [List.getElem?_eq_none hj, Word]
theorem Words.set {l : List Int} (h : Words l) (i : Nat) {x : Int} (hx : Word x) : Words (l.set i x) := by
  intro y hy
  rcases List.mem_or_eq_of_mem_set hy with hy | rfl
  · exact h y hy
  · exact hx
theorem qset_words {ws : List Int} (h : Words ws) (i j k l : Nat) : Words (qset ws i j k l) := by
  obtain ⟨h1, h2, h3, h4⟩ := quart_words (a := ws.getD i 0) (c := ws.getD k 0) (h.get j) (h.get l)
  exact (((h.set i h1).set j h2).set k h3).set l h4
theorem qrounds_words {ws : List Int} (h : Words ws) (n : Nat) : Words (qrounds ws n) := by
  induction n with
  | zero => exact h
  | succ n ih => exact qset_words ih _ _ _ _
/-- The lowest byte first. -/
def lit4 (a b c d : Int) : Int := bits .or .u32 (bits .or .u32 (bits .or .u32 (d * 16777216) (c * 65536)) (b * 256)) a
def lfour (x : Int) : List Int := [x % 256, x / 256 % 256, x / 65536 % 256, x / 16777216 % 256]
def litAt (b : List Int) (i : Nat) : Int := lit4 (b.getD (4 * i) 0) (b.getD (4 * i + 1) 0) (b.getD (4 * i + 2) 0) (b.getD (4 * i + 3) 0)
def litWords (b : List Int) : Nat → List Int
  | 0 => []
  | n + 1 => litWords b n ++ [litAt b n]
theorem litWords_length (b : List Int) (n : Nat) : (litWords b n).length = n := by
  induction n with
  | zero => rfl
  | succ n ih => simp [litWords, ih]
theorem lit4_word {a b c d : Int} (ha : 0 ≤ a ∧ a < 256) (hb : 0 ≤ b ∧ b < 256) (hc : 0 ≤ c ∧ c < 256) (hd : 0 ≤ d ∧ d < 256) : Word (lit4 a b c d) :=
  or_word (or_word (or_word ⟨by omega, by omega⟩ ⟨by omega, by omega⟩) ⟨by omega, by omega⟩) ⟨by omega, by omega⟩
theorem litAt_word {b : List Int} (h : Bytes b) (i : Nat) : Word (litAt b i) := lit4_word (h.get _) (h.get _) (h.get _) (h.get _)
theorem litWords_words {b : List Int} (h : Bytes b) (n : Nat) : Words (litWords b n) := by
  induction n with
  | zero => intro x hx; cases hx
  | succ n ih =>
    intro x hx
    rcases List.mem_append.1 hx with hx | hx
    · exact ih x hx
    · rw [List.mem_singleton.1 hx]
      exact litAt_word h n
theorem litWords_get (b : List Int) (n i : Nat) (h : i < n) : (litWords b n).getD i 0 = litAt b i := by
  induction n with
  | zero => omega
  | succ n ih =>
    rw [litWords]
    by_cases hi : i < n
    · have := ih hi
      rw [List.getD_eq_getElem?_getD, List.getElem?_append_left (by rw [litWords_length]; exact hi), ← List.getD_eq_getElem?_getD, this]
    · have hin : i = n := by omega
      subst hin
      simp [litWords_length]
def headWs : List Int := [1634760805, 857760878, 2036477234, 1797285236]
def firstOf (k nonce : List Int) (c : Int) : List Int := headWs ++ (litWords k 8 ++ (c :: litWords nonce 3))
theorem firstOf_length (k nonce : List Int) (c : Int) : (firstOf k nonce c).length = 16 := by simp [firstOf, headWs, litWords_length]
theorem firstOf_words {k nonce : List Int} {c : Int} (hk : Bytes k) (hn : Bytes nonce) (hc : Word c) : Words (firstOf k nonce c) := by
  intro x hx
  rcases List.mem_append.1 hx with hx | hx
  · simp only [headWs, List.mem_cons, List.not_mem_nil, or_false] at hx
    rcases hx with rfl | rfl | rfl | rfl <;> exact ⟨by omega, by omega⟩
  rcases List.mem_append.1 hx with hx | hx
  · exact litWords_words hk 8 x hx
  rcases List.mem_cons.1 hx with rfl | hx
  · exact hc
  · exact litWords_words hn 3 x hx
def asL (ws : List Int) : List Int := ws.flatMap lfour
theorem asL_length (ws : List Int) : (asL ws).length = 4 * ws.length := by
  induction ws with
  | nil => rfl
  | cons x l ih => simp [asL, lfour] at ih ⊢; omega
theorem lfour_bytes (x : Int) : Bytes (lfour x) := by
  intro y hy
  simp only [lfour, List.mem_cons, List.not_mem_nil, or_false] at hy
  rcases hy with rfl | rfl | rfl | rfl <;> omega
theorem asL_bytes (ws : List Int) : Bytes (asL ws) := by
  intro y hy
  obtain ⟨x, _, hx⟩ := List.mem_flatMap.1 hy
  exact lfour_bytes x y hx
def sumOf (ws vs : List Int) : List Int := List.zipWith (fun x y => (x + y) % 4294967296) ws vs
def blockOf (k nonce : List Int) (c : Int) : List Int := asL (sumOf (qrounds (firstOf k nonce c) 80) (firstOf k nonce c))
theorem sumOf_length (ws vs : List Int) (h : ws.length = vs.length) : (sumOf ws vs).length = ws.length := by simp [sumOf, h]
theorem blockOf_length (k nonce : List Int) (c : Int) : (blockOf k nonce c).length = 64 := by
  rw [blockOf, asL_length, sumOf_length _ _ (by rw [qrounds_length]), qrounds_length, firstOf_length]
theorem blockOf_bytes (k nonce : List Int) (c : Int) : Bytes (blockOf k nonce c) := asL_bytes _
/-- The words when the first i of them are summed. -/
def sumUpto (ws vs : List Int) (i : Nat) : List Int := (sumOf ws vs).take i ++ ws.drop i
theorem sumUpto_zero (ws vs : List Int) : sumUpto ws vs 0 = ws := by simp [sumUpto]
theorem sumUpto_length (ws vs : List Int) (h : ws.length = vs.length) (i : Nat) : (sumUpto ws vs i).length = ws.length := by
  simp [sumUpto, sumOf, h]; omega
theorem sumUpto_full (ws vs : List Int) (h : ws.length = vs.length) (n : Nat) (hn : ws.length = n) : sumUpto ws vs n = sumOf ws vs := by
  unfold sumUpto
  rw [List.take_of_length_le (by rw [sumOf_length _ _ h]; omega), List.drop_of_length_le (by omega), List.append_nil]
theorem sumUpto_get (ws vs : List Int) (h : ws.length = vs.length) (i : Nat) (hi : i < ws.length) : (sumUpto ws vs i).getD i 0 = ws.getD i 0 := by
  have e : ((sumOf ws vs).take i).length = i := by rw [List.length_take, sumOf_length _ _ h]; omega
  unfold sumUpto
  rw [List.getD_eq_getElem?_getD, List.getElem?_append_right (by omega), e, Nat.sub_self, List.getElem?_drop]
  simp
theorem sumUpto_set (ws vs : List Int) (h : ws.length = vs.length) (i : Nat) (hi : i < ws.length) : (sumUpto ws vs i).set i ((ws.getD i 0 + vs.getD i 0) % 4294967296) = sumUpto ws vs (i + 1) := by
  unfold sumUpto
  have hl : (sumOf ws vs).length = ws.length := sumOf_length _ _ h
  have e : ((sumOf ws vs).take i).length = i := by rw [List.length_take]; omega
  rw [List.set_append_right _ _ (by omega), e, Nat.sub_self, List.drop_eq_getElem_cons hi, List.set_cons_zero, List.take_succ_eq_append_getElem (by omega)]
  simp [sumOf, hi, show i < vs.length by omega]
/-- The bytes when the first i words are laid down. -/
def lRow (ws : List Int) (i : Nat) : List Int := asL (ws.take i) ++ List.replicate (64 - 4 * i) 0
theorem lRow_length (ws : List Int) (h : ws.length = 16) (i : Nat) (hi : i ≤ 16) : (lRow ws i).length = 64 := by simp [lRow, asL_length, h]; omega
theorem lRow_full (ws : List Int) (h : ws.length = 16) : lRow ws 16 = asL ws := by
  unfold lRow
  rw [List.take_of_length_le (by omega)]
  simp
theorem lRow_step (ws : List Int) (h : ws.length = 16) (i : Nat) (hi : i < 16) : splice (lRow ws i) (4 * i) (lfour (ws.getD i 0)) = lRow ws (i + 1) := by
  have hl : (asL (ws.take i)).length = 4 * i := by rw [asL_length]; simp; omega
  have h4 : (lfour (ws.getD i 0)).length = 4 := rfl
  have e1 : (lRow ws i).take (4 * i) = asL (ws.take i) := by
    unfold lRow
    rw [List.take_append_of_le_length (by omega), List.take_of_length_le (by omega)]
  have e2 : (lRow ws i).drop (4 * i + 4) = List.replicate (64 - 4 * (i + 1)) 0 := by
    unfold lRow
    rw [List.drop_append, List.drop_of_length_le (by omega), hl, List.nil_append, List.drop_replicate]
    congr 1
    omega
  have e3 : asL (ws.take (i + 1)) = asL (ws.take i) ++ lfour (ws.getD i 0) := by
    have hg : ws.getD i 0 = ws[i]'(by omega) := by simp [show i < ws.length by omega]
    unfold asL
    rw [List.take_succ_eq_append_getElem (by omega), List.flatMap_append, hg, List.flatMap_cons, List.flatMap_nil, List.append_nil]
  unfold splice
  rw [h4, e1, e2, lRow, e3, List.append_assoc]

/-! What comes of bytes. -/
theorem getD_at (l : List Int) (i : Nat) (h : i < l.length) : l.getD i 0 = l[i] := by simp [h]
def keyAt (k nonce : List Int) (c : Int) (i : Nat) : Int := (blockOf k nonce ((c + ((i / 64 : Nat) : Int)) % 4294967296)).getD (i % 64) 0
theorem keyAt_byte (k nonce : List Int) (c : Int) (i : Nat) : 0 ≤ keyAt k nonce c i ∧ keyAt k nonce c i < 256 := (blockOf_bytes _ _ _).get _
theorem keyAt_shift (k nonce : List Int) (c : Int) (j i : Nat) : keyAt k nonce ((c + (j : Int)) % 4294967296) i = keyAt k nonce c (64 * j + i) := by
  unfold keyAt
  rw [show (64 * j + i) / 64 = j + i / 64 by omega, show (64 * j + i) % 64 = i % 64 by omega, Int.emod_add_emod, Int.natCast_add, Int.add_assoc]
theorem keyAt_first (k nonce : List Int) (c : Int) (hc : Word c) (i : Nat) (hi : i < 64) : keyAt k nonce c i = (blockOf k nonce c).getD i 0 := by
  obtain ⟨h1, h2⟩ := hc
  unfold keyAt
  rw [show i / 64 = 0 by omega, show i % 64 = i by omega, show (c + ((0 : Nat) : Int)) % 4294967296 = c by omega]
/-- The bytes when the first n of them are done. -/
def xorUp (k nonce : List Int) (c : Int) (m : List Int) (n : Nat) : List Int := m.mapIdx fun i x => if i < n then bits .xor .u8 x (keyAt k nonce c i) else x
def xorOf (k nonce : List Int) (c : Int) (m : List Int) : List Int := m.mapIdx fun i x => bits .xor .u8 x (keyAt k nonce c i)
theorem xorUp_length (k nonce : List Int) (c : Int) (m : List Int) (n : Nat) : (xorUp k nonce c m n).length = m.length := by simp [xorUp]
theorem xorOf_length (k nonce : List Int) (c : Int) (m : List Int) : (xorOf k nonce c m).length = m.length := by simp [xorOf]
theorem xorUp_zero (k nonce : List Int) (c : Int) (m : List Int) : xorUp k nonce c m 0 = m := by
  apply List.ext_getElem
  · simp [xorUp]
  · intro i h1 h2
    simp [xorUp]
theorem xorUp_full (k nonce : List Int) (c : Int) (m : List Int) (n : Nat) (h : m.length ≤ n) : xorUp k nonce c m n = xorOf k nonce c m := by
  apply List.ext_getElem
  · simp [xorUp, xorOf]
  · intro i h1 h2
    have : i < n := by rw [xorUp_length] at h1; omega
    simp [xorUp, xorOf, this]
theorem xorOf_get (k nonce : List Int) (c : Int) (m : List Int) (i : Nat) (h : i < m.length) : (xorOf k nonce c m).getD i 0 = bits .xor .u8 (m.getD i 0) (keyAt k nonce c i) := by
  simp [xorOf, h]
theorem byte_xor {x p : Int} (hx : 0 ≤ x ∧ x < 256) (hp : 0 ≤ p ∧ p < 256) : 0 ≤ bits .xor .u8 x p ∧ bits .xor .u8 x p < 256 := by
  rw [u8_xor x p hx.1 hx.2 hp.1 hp.2]
  have : x.toNat ^^^ p.toNat < 2 ^ 8 := Nat.xor_lt_two_pow (by omega) (by omega)
  omega
theorem xorOf_bytes (k nonce : List Int) (c : Int) {m : List Int} (h : Bytes m) : Bytes (xorOf k nonce c m) := by
  intro y hy
  obtain ⟨i, hi, rfl⟩ := List.getElem_of_mem hy
  have hm : i < m.length := by rwa [xorOf_length] at hi
  simp only [xorOf, List.getElem_mapIdx]
  exact byte_xor (h _ (List.getElem_mem hm)) (keyAt_byte _ _ _ _)
/-- n bytes from off on, each with its own of b. -/
def maskL (l : List Int) (off n : Nat) (b : List Int) : List Int := l.mapIdx fun i x => if off ≤ i ∧ i < off + n then bits .xor .u8 x (b.getD (i - off) 0) else x
theorem maskL_length (l : List Int) (off n : Nat) (b : List Int) : (maskL l off n b).length = l.length := by simp [maskL]
theorem maskL_zero (l : List Int) (off : Nat) (b : List Int) : maskL l off 0 b = l := by
  apply List.ext_getElem
  · simp [maskL]
  · intro i h1 h2
    have : ¬ (off ≤ i ∧ i < off) := by omega
    simp [maskL, this]
theorem maskL_get (l : List Int) (off n : Nat) (b : List Int) (h : off + n < l.length) : (maskL l off n b).getD (off + n) 0 = l.getD (off + n) 0 := by
  simp [maskL, h]
theorem maskL_step (l : List Int) (off n : Nat) (b : List Int) (h : off + n < l.length) : (maskL l off n b).set (off + n) (bits .xor .u8 (l.getD (off + n) 0) (b.getD n 0)) = maskL l off (n + 1) b := by
  apply List.ext_getElem
  · simp [maskL]
  · intro i h1 h2
    have hi : i < l.length := by rwa [maskL_length] at h2
    rw [List.getElem_set]
    by_cases he : off + n = i
    · subst he
      have : off ≤ off + n ∧ off + n < off + (n + 1) := by omega
      rw [if_pos rfl]
      simp only [maskL, List.getElem_mapIdx, if_pos this, show off + n - off = n by omega]
      simp [h]
    · rw [if_neg he]
      simp only [maskL, List.getElem_mapIdx]
      by_cases h3 : off ≤ i ∧ i < off + n
      · rw [if_pos h3, if_pos (by omega)]
      · rw [if_neg h3, if_neg (by omega)]
theorem xorUp_mask (k nonce : List Int) (c : Int) (m : List Int) (j n : Nat) (hn : n ≤ 64) :
    maskL (xorUp k nonce c m (64 * j)) (64 * j) n (blockOf k nonce ((c + (j : Int)) % 4294967296)) = xorUp k nonce c m (64 * j + n) := by
  apply List.ext_getElem
  · simp [maskL, xorUp]
  · intro i h1 h2
    have hi : i < m.length := by rwa [xorUp_length] at h2
    simp only [maskL, xorUp, List.getElem_mapIdx]
    by_cases h3 : i < 64 * j
    · rw [if_neg (by omega), if_pos h3, if_pos (by omega)]
    · by_cases h4 : i < 64 * j + n
      · rw [if_pos ⟨by omega, h4⟩, if_neg h3, if_pos h4]
        have hk : keyAt k nonce c i = (blockOf k nonce ((c + (j : Int)) % 4294967296)).getD (i - 64 * j) 0 := by
          unfold keyAt
          rw [show i / 64 = j by omega, show i % 64 = i - 64 * j by omega]
        rw [hk]
      · rw [if_neg (by omega), if_neg h3, if_neg h4]
theorem xorOf_twice (k nonce : List Int) (c : Int) {m : List Int} (h : Bytes m) : xorOf k nonce c (xorOf k nonce c m) = m := by
  apply List.ext_getElem
  · simp [xorOf]
  · intro i h1 h2
    simp only [xorOf, List.getElem_mapIdx]
    exact xor_twice8 (h _ (List.getElem_mem h2)) (keyAt_byte _ _ _ _)
theorem ext_getD {a b : List Int} (h : a.length = b.length) (hg : ∀ i, i < a.length → a.getD i 0 = b.getD i 0) : a = b := by
  apply List.ext_getElem h
  intro i h1 h2
  have := hg i h1
  rwa [getD_at _ _ h1, getD_at _ _ h2] at this
theorem getD_append (a b : List Int) (i : Nat) : (a ++ b).getD i 0 = if i < a.length then a.getD i 0 else b.getD (i - a.length) 0 := by
  by_cases h : i < a.length
  · rw [if_pos h, List.getD_eq_getElem?_getD, List.getElem?_append_left h, ← List.getD_eq_getElem?_getD]
  · rw [if_neg h, List.getD_eq_getElem?_getD, List.getElem?_append_right (by omega), ← List.getD_eq_getElem?_getD]
theorem getD_take (a : List Int) (n i : Nat) (h : i < n) : (a.take n).getD i 0 = a.getD i 0 := by
  rw [List.getD_eq_getElem?_getD, List.getElem?_take, if_pos h, ← List.getD_eq_getElem?_getD]
theorem getD_drop (a : List Int) (n i : Nat) : (a.drop n).getD i 0 = a.getD (n + i) 0 := by
  rw [List.getD_eq_getElem?_getD, List.getElem?_drop, ← List.getD_eq_getElem?_getD]
theorem xorOf_split (k nonce : List Int) (c : Int) (m : List Int) (j : Nat) (h : 64 * j ≤ m.length) : xorOf k nonce c (m.take (64 * j)) ++ xorOf k nonce ((c + (j : Int)) % 4294967296) (m.drop (64 * j)) = xorOf k nonce c m := by
  have hl : (xorOf k nonce c (m.take (64 * j))).length = 64 * j := by rw [xorOf_length, List.length_take]; omega
  apply ext_getD
  · rw [List.length_append, hl, xorOf_length, xorOf_length, List.length_drop]; omega
  · intro i h1
    have hi : i < m.length := by rw [List.length_append, hl, xorOf_length, List.length_drop] at h1; omega
    rw [getD_append, hl, xorOf_get _ _ _ _ _ hi]
    by_cases h3 : i < 64 * j
    · rw [if_pos h3, xorOf_get _ _ _ _ _ (by rw [List.length_take]; omega), getD_take _ _ _ h3]
    · rw [if_neg h3, xorOf_get _ _ _ _ _ (by rw [List.length_drop]; omega), getD_drop, keyAt_shift, show 64 * j + (i - 64 * j) = i by omega]
theorem xorOf_zeros (k nonce : List Int) (c : Int) (hc : Word c) : xorOf k nonce c (List.replicate 64 0) = blockOf k nonce c := by
  apply List.ext_getElem
  · rw [xorOf_length, blockOf_length, List.length_replicate]
  · intro i h1 h2
    have hi : i < 64 := by rwa [blockOf_length] at h2
    simp only [xorOf, List.getElem_mapIdx, List.getElem_replicate]
    rw [xor_nil8 (keyAt_byte _ _ _ _), keyAt_first k nonce c hc i hi, getD_at _ _ h2]
theorem xorOf_part (k nonce : List Int) (c : Int) (j n : Nat) (h : 64 * j + 64 ≤ n) : ((xorOf k nonce c (List.replicate n 0)).drop (64 * j)).take 64 = blockOf k nonce ((c + (j : Int)) % 4294967296) := by
  apply List.ext_getElem
  · rw [blockOf_length, List.length_take, List.length_drop, xorOf_length, List.length_replicate]; omega
  · intro i h1 h2
    have hi : i < 64 := by rwa [blockOf_length] at h2
    simp only [List.getElem_take, List.getElem_drop, xorOf, List.getElem_mapIdx, List.getElem_replicate]
    rw [xor_nil8 (keyAt_byte _ _ _ _), ← keyAt_shift, keyAt_first k nonce _ (mod_word _) i hi, getD_at _ _ h2]
def riseK : List Int := [0, 1, 2, 3, 4, 5, 6, 7, 8, 9, 10, 11, 12, 13, 14, 15, 16, 17, 18, 19, 20, 21, 22, 23, 24, 25, 26, 27, 28, 29, 30, 31]
def nonceN : List Int := [0, 0, 0, 9, 0, 0, 0, 74, 0, 0, 0, 0]
theorem block_known : (blockOf riseK nonceN 1).getD 0 0 = 16 ∧ (blockOf riseK nonceN 1).getD 1 0 = 241 ∧ (blockOf riseK nonceN 1).getD 63 0 = 78 := by decide +kernel
theorem quart_known : quart 286331153 16909060 2609737539 19088743 = (3928658676, 3407673550, 1166100270, 1484899515) := by decide +kernel
theorem quart_steps {a b c d : Int} (ha : Word a) (hb : Word b) (hc : Word c) (hd : Word d) : ∃ a1 b1 c1 d1 a2 b2 c2 d2 : Int, quart a b c d = (a2, b2, c2, d2) ∧
    bits .xor .u32 (rotr b2 7) c2 = b1 ∧ (c2 - d2) % 4294967296 = c1 ∧ bits .xor .u32 (rotr d2 8) a2 = d1 ∧ (a2 - b1) % 4294967296 = a1 ∧
    bits .xor .u32 (rotr b1 12) c1 = b ∧ (c1 - d1) % 4294967296 = c ∧ bits .xor .u32 (rotr d1 16) a1 = d ∧ (a1 - b) % 4294967296 = a := by
  obtain ⟨a1, ha1⟩ : ∃ v, v = (a + b) % 4294967296 := ⟨_, rfl⟩
  obtain ⟨d1, hd1⟩ : ∃ v, v = rotl (bits .xor .u32 d a1) 16 := ⟨_, rfl⟩
  obtain ⟨c1, hc1⟩ : ∃ v, v = (c + d1) % 4294967296 := ⟨_, rfl⟩
  obtain ⟨b1, hb1⟩ : ∃ v, v = rotl (bits .xor .u32 b c1) 12 := ⟨_, rfl⟩
  obtain ⟨a2, ha2⟩ : ∃ v, v = (a + b + b1) % 4294967296 := ⟨_, rfl⟩
  obtain ⟨d2, hd2⟩ : ∃ v, v = rotl (bits .xor .u32 d1 a2) 8 := ⟨_, rfl⟩
  obtain ⟨c2, hc2⟩ : ∃ v, v = (c + d1 + d2) % 4294967296 := ⟨_, rfl⟩
  obtain ⟨b2, hb2⟩ : ∃ v, v = rotl (bits .xor .u32 b1 c2) 7 := ⟨_, rfl⟩
  have hq : quart a b c d = (a2, b2, c2, d2) := by
    rw [hb2, hc2, hd2, ha2, hb1, hc1, hd1, ha1]
    rfl
  have wa1 : Word a1 := by rw [ha1]; exact mod_word _
  have wd1 : Word d1 := by rw [hd1]; exact rotl_word (xor_word hd wa1) 16
  have wc1 : Word c1 := by rw [hc1]; exact mod_word _
  have wb1 : Word b1 := by rw [hb1]; exact rotl_word (xor_word hb wc1) 12
  have wa2 : Word a2 := by rw [ha2]; exact mod_word _
  have wd2 : Word d2 := by rw [hd2]; exact rotl_word (xor_word wd1 wa2) 8
  have wc2 : Word c2 := by rw [hc2]; exact mod_word _
  have e1 : bits .xor .u32 (rotr b2 7) c2 = b1 := by rw [hb2, back_rotl7 (xor_word wb1 wc2), xor_twice wb1 wc2]
  have e2 : (c2 - d2) % 4294967296 = c1 := by rw [hc2, hc1]; omega
  have e3 : bits .xor .u32 (rotr d2 8) a2 = d1 := by rw [hd2, back_rotl8 (xor_word wd1 wa2), xor_twice wd1 wa2]
  have e4 : (a2 - b1) % 4294967296 = a1 := by rw [ha2, ha1]; omega
  have e5 : bits .xor .u32 (rotr b1 12) c1 = b := by rw [hb1, back_rotl12 (xor_word hb wc1), xor_twice hb wc1]
  have e6 : (c1 - d1) % 4294967296 = c := by rw [hc1]; obtain ⟨h1, h2⟩ := hc; omega
  have e7 : bits .xor .u32 (rotr d1 16) a1 = d := by rw [hd1, back_rotl16 (xor_word hd wa1), xor_twice hd wa1]
  have e8 : (a1 - b) % 4294967296 = a := by rw [ha1]; obtain ⟨h1, h2⟩ := ha; omega
  exact ⟨a1, b1, c1, d1, a2, b2, c2, d2, hq, e1, e2, e3, e4, e5, e6, e7, e8⟩
end Go.Proofs.YtbfccepddfinoaaDoor
