/- The document's disk of sectors as it stands in memory. -/
import Derived.Test.YtbaijhlkkeongaaSecChoices
import Derived.Test.YtbaijhlkkeongaaSectorImageWalk
namespace Go.Proofs.Ytbaijhlkkeongaa
open Go Go.RowKit Go.Maps

set_option maxRecDepth 100000 in
theorem un_rs : Try.prog.underlying 48 = some (.slice 53) := Try.underlying48
set_option maxRecDepth 100000 in
theorem un_bos : Try.prog.underlying 49 = some (.slice 4) := Try.underlying49
set_option maxRecDepth 100000 in
theorem ag_rs : ∀ w, (isAgg 48).run Try.prog w = .ok false w := by intro w; simp [go_sem]
set_option maxRecDepth 100000 in
theorem ag_bos : ∀ w, (isAgg 49).run Try.prog w = .ok false w := by intro w; simp [go_sem]
set_option maxRecDepth 100000 in
theorem made_b64 : (Try.prog.info? 53).map (fun i => (i.zero, i.size, i.bytes)) = some (some (.agg (u8s zeroK).toArray), 64, 64) := by kernel_rfl
set_option maxRecDepth 100000 in
theorem made_bool : (Try.prog.info? 4).map (fun i => (i.zero, i.size, i.bytes)) = some (some (.bool false), 1, 1) := by kernel_rfl
def rrow (a b c n : Nat) (s l : Int) (o : Bool) : List Value := [.slice (some ⟨a, 0, none⟩) n n, .slice (some ⟨b, 0, none⟩) n n, .slice (some ⟨c, 0, none⟩) n n, .int .i64 s, .int .i64 l, .bool o]
def pendL (p : Nat → Bool) (n : Nat) : List Value := bls ((List.range n).map p)
set_option maxRecDepth 100000 in
theorem pendL_length (p : Nat → Bool) (n : Nat) : (pendL p n).length = n := by simp [pendL, bls]
set_option maxRecDepth 100000 in
theorem pendL_get (p : Nat → Bool) (n i : Nat) (hi : i < n) : (pendL p n)[i]? = some (.bool (p i)) := by simp [pendL, bls, hi]
set_option maxRecDepth 100000 in
theorem pendL_set (p : Nat → Bool) (n i : Nat) (x : Bool) : (pendL p n).set i (.bool x) = pendL (upf p i x) n := by
  apply List.ext_getElem?
  intro j
  rw [List.getElem?_set]
  by_cases hj : j < n
  · by_cases he : i = j
    · subst he
      rw [if_pos rfl, if_pos (by rw [pendL_length]; exact hj), pendL_get _ n i hj, upf_same]
    · rw [if_neg he, pendL_get _ n j hj, pendL_get _ n j hj, upf_other _ _ (fun e => he e.symm)]
  · rw [List.getElem?_eq_none (l := pendL (upf p i x) n) (by rw [pendL_length]; omega)]
    split
    · rw [if_neg (by rw [pendL_length]; omega)]
    · rw [List.getElem?_eq_none (by rw [pendL_length]; omega)]
set_option maxRecDepth 100000 in
theorem pendL_congr (p p' : Nat → Bool) (n : Nat) (h : ∀ i, i < n → p i = p' i) : pendL p n = pendL p' n := by
  unfold pendL
  congr 1
  apply List.map_congr_left
  intro i hi
  exact h i (by simpa using hi)
/-- The plain functions that the document's disk holds. -/
structure RfAt (w : World) (q a b c : Nat) (n : Nat) (nw kp : Nat → List Int) (p : Nat → Bool) (s l : Int) (o : Bool) : Prop where
  row : Row w q (rrow a b c n s l o) 51
  now : Row w a (u8s (flatK nw n)) 53
  kept : Row w b (u8s (flatK kp n)) 53
  pend : Row w c (pendL p n) 4
  nd : [q, a, b, c].Nodup
def pOf (d : Dk) (i : Nat) : Bool := (d.pend i).isSome
/-- The document's disk is as the plain one. -/
def Rf (w : World) (q a b c : Nat) (d : Dk) : Prop := RfAt w q a b c d.n d.now d.kept (pOf d) d.steps d.left d.off
section
variable {w w' w0 : World} {q a b c n : Nat} {nw kp : Nat → List Int} {p : Nat → Bool} {s l : Int} {o : Bool} {d d' : Dk}
set_option maxRecDepth 100000 in
theorem RfAt.keep (h : RfAt w q a b c n nw kp p s l o) (hk : ∀ k ∈ [q, a, b, c], w'.heap[k]? = w.heap[k]?) : RfAt w' q a b c n nw kp p s l o :=
  ⟨by unfold Row; rw [hk q (by simp)]; exact h.row, by unfold Row; rw [hk a (by simp)]; exact h.now, by unfold Row; rw [hk b (by simp)]; exact h.kept, by unfold Row; rw [hk c (by simp)]; exact h.pend, h.nd⟩
set_option maxRecDepth 100000 in
theorem RfAt.lt (h : RfAt w q a b c n nw kp p s l o) : ∀ k ∈ [q, a, b, c], k < w.heap.size := by
  intro k hk
  simp only [List.mem_cons, List.not_mem_nil, or_false] at hk
  rcases hk with rfl | rfl | rfl | rfl
  · exact h.row.lt
  · exact h.now.lt
  · exact h.kept.lt
  · exact h.pend.lt
set_option maxRecDepth 100000 in
theorem RfAt.below (h : RfAt w q a b c n nw kp p s l o) (hb : Below w.heap.size w w') : RfAt w' q a b c n nw kp p s l o := h.keep (fun k hk => hb.block k (h.lt k hk))
set_option maxRecDepth 100000 in
theorem RfAt.congr (h : RfAt w q a b c n nw kp p s l o) {nw' kp' : Nat → List Int} {p' : Nat → Bool} (h1 : ∀ i, i < n → nw i = nw' i) (h2 : ∀ i, i < n → kp i = kp' i) (h3 : ∀ i, i < n → p i = p' i) : RfAt w q a b c n nw' kp' p' s l o :=
  ⟨h.row, by rw [← flatK_congr nw nw' n h1]; exact h.now, by rw [← flatK_congr kp kp' n h2]; exact h.kept, by rw [← pendL_congr p p' n h3]; exact h.pend, h.nd⟩
set_option maxRecDepth 100000 in
/-- The four blocks as rows of a call. -/
theorem RfAt.enter (h : RfAt w q a b c n nw kp p s l o) : Mem w [q, a, b, c] w [(q, rrow a b c n s l o, 51), (a, u8s (flatK nw n), 53), (b, u8s (flatK kp n), 53), (c, pendL p n, 4)] :=
  ⟨rfl, rfl, rfl, Nat.le_refl _, fun _ _ _ => rfl, by
    intro r hr
    simp only [List.mem_cons, List.not_mem_nil, or_false] at hr
    rcases hr with rfl | rfl | rfl | rfl
    · exact h.row
    · exact h.now
    · exact h.kept
    · exact h.pend, by simpa using h.nd, by
    intro r hr
    simp only [List.mem_cons, List.not_mem_nil, or_false] at hr
    rcases hr with rfl | rfl | rfl | rfl <;> simp⟩
set_option maxRecDepth 100000 in
theorem Mem.rf {rows : List (Nat × List Value × TypeId)} (i : Nat) (hm : Mem w0 [q, a, b, c] w rows) (hnd : [q, a, b, c].Nodup) (h0 : rows[i]? = some (q, rrow a b c n s l o, 51)) (h1 : rows[i + 1]? = some (a, u8s (flatK nw n), 53)) (h2 : rows[i + 2]? = some (b, u8s (flatK kp n), 53)) (h3 : rows[i + 3]? = some (c, pendL p n, 4)) : RfAt w q a b c n nw kp p s l o :=
  ⟨hm.get i h0, hm.get (i + 1) h1, hm.get (i + 2) h2, hm.get (i + 3) h3, hnd⟩
end
section
variable {a : Act} {w : World} {dst : Option Tmp} {typ : TypeId} {pos : String} {aft : Array Edge} {gd : Option (Nat × Bool)}
set_option maxRecDepth 100000 in
theorem exec_ixR {x ix : Operand} {kb n cap : Nat} (i : Nat) {ii : Int} (hx : a.eval x = .slice (some ⟨kb, 0, none⟩) n cap) (hix : a.eval ix = .int .i64 ii) (hii : ii = (i : Int)) (hi : i < n) :
    (execOp a.eval { dst := dst, op := .indexAddr 48 x ix, type := typ, pos := pos, after := aft, guard := gd }).run Try.prog w = .ok (.value (.pointer (some ⟨kb, i * 64, none⟩))) w := by
  subst hii
  have h0 : (0 : Int) ≤ (i : Int) ∧ (i : Int) < (n : Int) := by omega
  unfold execOp
  simp [hx, hix, Instr.indexAt, asIntOf, run_underlying un_rs, h0, add_at]
  omega
set_option maxRecDepth 100000 in
theorem rlen {ds : Nat → List Int} {n i : Nat} (h : ∀ i, i < n → (ds i).length = 64) (hi : i < n) : i * 64 + 64 ≤ (u8s (flatK ds n)).length := by have := kept_len [] h hi; simpa using this
set_option maxRecDepth 100000 in
theorem rsub {ds : Nat → List Int} {n i : Nat} (h : ∀ i, i < n → (ds i).length = 64) (hi : i < n) : ((u8s (flatK ds n)).drop (i * 64)).take 64 = u8s (ds i) := by have := kept_sub [] h hi; simpa using this
set_option maxRecDepth 100000 in
theorem rset {ds : Nat → List Int} {n i : Nat} (x : List Int) (h : ∀ i, i < n → (ds i).length = 64) (hx : x.length = 64) (hi : i < n) : splice (u8s (flatK ds n)) (i * 64) (u8s x) = u8s (flatK (upf ds i x) n) := by have := kept_set [] x h hx hi; simpa using this
set_option maxRecDepth 100000 in
theorem exec_ldR {x : Operand} {ds : Nat → List Int} {n kb : Nat} {t : TypeId} (i : Nat) (hr : Row w kb (u8s (flatK ds n)) t) (h : ∀ i, i < n → (ds i).length = 64) (hi : i < n) (hx : a.eval x = .pointer (some ⟨kb, i * 64, none⟩)) :
    (execOp a.eval { dst := dst, op := .load 53 x, type := typ, pos := pos, after := aft, guard := gd }).run Try.prog w = .ok (.value (.agg (u8s (ds i)).toArray)) w :=
  exec_ldsG (i * 64) (u8s (ds i)) hr hx _ un_b64 rfl 64 sz_b64 (rlen h hi) (rsub h hi)
end
/-- Where the power is off nothing is left of it. -/
def Dk.Sane (d : Dk) : Prop := d.off = true → d.left = 0
end Go.Proofs.Ytbaijhlkkeongaa
