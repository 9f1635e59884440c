/- Maps of whatever keys and values, told by which value stands under which key; no statement is proved here. -/
import Derived.Maps.OwnSet
import Derived.Maps.OwnOps
import Derived.DeepKeys4
import Derived.Test.YtbiinchmbclmcaaDoorAnyG
namespace Go.Proofs.YtbiinchmbclmcaaDoor
open Go Go.RowKit Go.Maps
def rdV (v : Value) : Option (DataW Value × List MemPlace) := some (.held v, [])
theorem rdV_inj {v : Value} {D : DataW Value} {ps : List MemPlace} (h : rdV v = some (D, ps)) : D = .held v := by
  unfold rdV at h
  simp only [Option.some.injEq, Prod.mk.injEq] at h
  exact h.1.symm
theorem row_ne_map {w : World} {g m : Nat} {l : List Value} {t : TypeId} {es : Array MapEntry} {c : Nat} (hr : Row w g l t) (hm : w.heap[m]? = some (.map es c)) : g ≠ m := by
  rintro rfl
  unfold Row at hr
  rw [hr] at hm
  cases hm
theorem Mem.updO {w0 w w' : World} {S : List Nat} {rows : List (Nat × List Value × TypeId)} {m : Nat} {es : Array MapEntry} {c : Nat} (hm : Mem w0 S w rows) (hmap : w.heap[m]? = some (.map es c)) (hS : m ∈ S ∨ w0.heap.size ≤ m) (hu : Upd m w w') : Mem w0 S w' rows := by
  refine ⟨hu.os.trans hm.os, hu.tape.trans hm.tape, hu.output.trans hm.output, Nat.le_trans hm.size hu.size, fun k hk hn => ?_, fun r hr => hu.row (hm.row r hr) (row_ne_map (hm.row r hr) hmap), hm.nodup, hm.fresh⟩
  refine (hu.block k (Nat.lt_of_lt_of_le hk hm.size) ?_).trans (hm.block k hk hn)
  rintro rfl
  rcases hS with h | h
  · exact hn h
  · omega
/-- Block m is a map of at most q entries; p says which value stands under which key. -/
def KM (P : Program) (kT : TypeId) (w : World) (m q : Nat) (p : Value → Value → Prop) : Prop :=
  ∃ D, w.ownsMap P kT rdV m q D ∧ (∀ k kl, keyOf P kT k = some kl → (Maps.has D kl = true ↔ ∃ v, p k v)) ∧ (∀ k kl v z, keyOf P kT k = some kl → p k v → D.atKey kl z = .held v)
def putK (p : Value → Value → Prop) (key val : Value) : Value → Value → Prop := fun k v => (k = key ∧ v = val) ∨ (k ≠ key ∧ p k v)
section
variable {P : Program} {kT : TypeId} {w w' : World} {m q : Nat} {p : Value → Value → Prop}
theorem KM.isMap (h : KM P kT w m q p) : ∃ es c, w.heap[m]? = some (.map es c) := by
  obtain ⟨D, ⟨es, c, hb, _⟩, _⟩ := h
  exact ⟨es, c, hb⟩
theorem KM.lt (h : KM P kT w m q p) : m < w.heap.size := by
  obtain ⟨D, ho, _⟩ := h
  exact ho.lt
theorem KM.keep (h : KM P kT w m q p) (hk : w'.heap[m]? = w.heap[m]?) : KM P kT w' m q p := by
  obtain ⟨D, ⟨es, c, hb, F, hs, hD⟩, pm⟩ := h
  exact ⟨D, ⟨es, c, by rw [hk]; exact hb, F, hs, hD⟩, pm⟩
theorem KM.below (h : KM P kT w m q p) (hb : Below w.heap.size w w') : KM P kT w' m q p := h.keep (hb.block m h.lt)
theorem KM.upd {g : Nat} (h : KM P kT w m q p) (hu : Upd g w w') (hg : g ≠ m) : KM P kT w' m q p := h.keep (hu.block m h.lt (fun e => hg e.symm))
theorem KM.new (h : w.heap[m]? = some (.map #[] 0)) : KM P kT w m 0 (fun _ _ => False) :=
  ⟨.map [], ⟨#[], 0, h, ⟨by simp, MapKept.stamped_empty 0, by simp⟩, Nat.le_refl _, rfl⟩, fun k kl _ => by simp [Maps.has], fun _ _ _ _ _ h => h.elim⟩
theorem KM.same {p' : Value → Value → Prop} (h : KM P kT w m q p) (hp : ∀ k v, p k v ↔ p' k v) : KM P kT w m q p' := by
  obtain ⟨D, ho, h1, h2⟩ := h
  exact ⟨D, ho, fun k kl hk => (h1 k kl hk).trans ⟨fun ⟨v, hv⟩ => ⟨v, (hp k v).1 hv⟩, fun ⟨v, hv⟩ => ⟨v, (hp k v).2 hv⟩⟩, fun k kl v z hk hv => h2 k kl v z hk ((hp k v).2 hv)⟩
theorem KM.look (h : KM P kT w m q p) (K : Keyed P kT) {t e : TypeId} (ht : P.underlying t = some (.map kT e)) {z : Value} (hz : (zeroValue e).run P w = .ok z w) {key v : Value} {kl : Lit} (hk : keyOf P kT key = some kl) (hp : p key v) :
    (Instr.lookup t (.map (some m)) key true).run P w = .ok (.tuple #[v, .bool true]) w := by
  obtain ⟨D, ho, h1, h2⟩ := h
  obtain ⟨u, ps, hr, hv⟩ := ho.look_ok K ht hz (show rdV z = some (.held z, []) from rfl) hk
  have e1 := rdV_inj hv
  rw [h2 key kl v _ hk hp] at e1
  simp only [DataW.held.injEq] at e1
  rw [hr, e1, (h1 key kl hk).2 ⟨v, hp⟩]
theorem KM.lookNo (h : KM P kT w m q p) (K : Keyed P kT) {t e : TypeId} (ht : P.underlying t = some (.map kT e)) {z : Value} (hz : (zeroValue e).run P w = .ok z w) {key : Value} {kl : Lit} (hk : keyOf P kT key = some kl) (hp : ∀ v, ¬ p key v) :
    (Instr.lookup t (.map (some m)) key true).run P w = .ok (.tuple #[z, .bool false]) w := by
  obtain ⟨D, ho, h1, h2⟩ := h
  obtain ⟨u, ps, hr, hv⟩ := ho.look_ok K ht hz (show rdV z = some (.held z, []) from rfl) hk
  have e1 := rdV_inj hv
  have hn : Maps.has D kl = false := by
    cases hh : Maps.has D kl with
    | false => rfl
    | true => obtain ⟨v, hv⟩ := (h1 key kl hk).1 hh; exact absurd hv (hp v)
  rw [atKey_of_not_has hn] at e1
  simp only [DataW.held.injEq] at e1
  rw [hr, ← e1, hn]
theorem KM.look1 (h : KM P kT w m q p) (K : Keyed P kT) {t e : TypeId} (ht : P.underlying t = some (.map kT e)) {z : Value} (hz : (zeroValue e).run P w = .ok z w) {key v : Value} {kl : Lit} (hk : keyOf P kT key = some kl) (hp : p key v) :
    (Instr.lookup t (.map (some m)) key false).run P w = .ok v w := by
  obtain ⟨D, ho, h1, h2⟩ := h
  obtain ⟨u, ps, hr, hv⟩ := ho.lookup K ht hz (show rdV z = some (.held z, []) from rfl) hk
  have e1 := rdV_inj hv
  rw [h2 key kl v _ hk hp] at e1
  simp only [DataW.held.injEq] at e1
  rw [hr, e1]
theorem KM.putRun (h : KM P kT w m q p) (K : Keyed P kT) {t e : TypeId} (ht : P.underlying t = some (.map kT e)) (hq : q < 1000000) {key : Value} {kl : Lit} (hk : keyOf P kT key = some kl) (val : Value) :
    ∃ w', (Instr.mapUpdate t (.map (some m)) key val).run P w = .ok () w' ∧ KM P kT w' m (q + 1) (putK p key val) ∧ Upd m w w' := by
  obtain ⟨D, ho, h1, h2⟩ := h
  obtain ⟨w', hr, ho2, hg⟩ := ho.update K ht (by unfold maxLen; omega) hk (d := .held val) (ps := []) (val := val) rfl
  refine ⟨w', hr, ⟨_, ho2, fun k kl' hk' => ?_, fun k kl' v z hk' hv => ?_⟩, ⟨hg.os, hg.tape, hg.output, hg.size, fun k hk hne => hg.block k hk (by simpa using hne)⟩⟩
  · by_cases he : kl' = kl
    · subst he
      rw [has_put_same ho.isMap (K.key hk)]
      have e2 : k = key := K.inj hk' hk
      exact ⟨fun _ => ⟨val, Or.inl ⟨e2, rfl⟩⟩, fun _ => rfl⟩
    · have e2 : k ≠ key := fun e => he (by subst e; exact Option.some.inj (hk'.symm.trans hk))
      rw [has_put_other he, h1 k kl' hk']
      constructor
      · rintro ⟨v, hv⟩; exact ⟨v, Or.inr ⟨e2, hv⟩⟩
      · rintro ⟨v, hv⟩
        rcases hv with ⟨e3, _⟩ | ⟨_, hv⟩
        · exact absurd e3 e2
        · exact ⟨v, hv⟩
  · by_cases he : kl' = kl
    · subst he
      have e2 : k = key := K.inj hk' hk
      rw [atKey_put_same ho.isMap (K.key hk)]
      rcases hv with ⟨_, e3⟩ | ⟨e3, _⟩
      · rw [e3]
      · exact absurd e2 e3
    · have e2 : k ≠ key := fun e => he (by subst e; exact Option.some.inj (hk'.symm.trans hk))
      rw [atKey_put_other he]
      rcases hv with ⟨e3, _⟩ | ⟨_, hv⟩
      · exact absurd e3 e2
      · exact h2 k kl' v z hk' hv
end
section
variable {P : Program} {kT : TypeId} {ops : Array Oper} {rest : List Oper} {a : Act} {w w0 w' : World} {Q : Exit → Act → World → Prop} {dst : Option Tmp} {typ : TypeId} {pos : String} {aft : Array Edge} {gd : Option (Nat × Bool)} {S : List Nat} {rows : List (Nat × List Value × TypeId)} {m q : Nat} {p : Value → Value → Prop}
theorem wpl_mkmap {ty : TypeId} (hm : Mem w0 S w rows) (h : ∀ w' m, w'.heap[m]? = some (.map #[] 0) → w0.heap.size ≤ m → Mem w0 S w' rows → wpList P ops Q rest (a.put dst (.map (some m))) w') :
    wpList P ops Q ({ dst := dst, op := .makeMap ty none, type := typ, pos := pos, after := aft, guard := none } :: rest) a w := by
  refine wpList_plain rfl fun K hK => ?_
  have hh := hK _ _ (h (w.alloc (.map #[] 0)) w.heap.size (heap_alloc_new w _) hm.size (hm.allocO _))
  unfold Oper.wp execOp
  simp only [Option.map_none, run_makeMap, Sem.run_bind, Sem.run_pure, Result.andThen_ok]
  exact hh
theorem wpl_kmPut {x k y : Operand} {t e : TypeId} {key val : Value} {kl : Lit} (st : KM P kT w m q p) (K : Keyed P kT) (ht : P.underlying t = some (.map kT e)) (hq : q < 1000000) (hkey : keyOf P kT key = some kl) (hx : a.eval x = .map (some m)) (hk : a.eval k = key) (hy : a.eval y = val)
    (h : ∀ w', KM P kT w' m (q + 1) (putK p key val) → Upd m w w' → wpList P ops Q rest (a.put dst undef) w') :
    wpList P ops Q ({ dst := dst, op := .mapUpdate t x k y, type := typ, pos := pos, after := aft, guard := none } :: rest) a w := by
  obtain ⟨w', hr, h1, h2⟩ := st.putRun K ht hq hkey val
  refine wpList_plain rfl fun K' hK' => ?_
  have hh := hK' _ _ (h w' h1 h2)
  unfold Oper.wp
  simp [execOp, hx, hk, hy, hr, Result.andThen]
  exact hh
theorem wpl_kmIns {x k y : Operand} {t e : TypeId} {key val : Value} {kl : Lit} (st : KM P kT w m q p) (K : Keyed P kT) (ht : P.underlying t = some (.map kT e)) (hq : q < 1000000) (hkey : keyOf P kT key = some kl) (hx : a.eval x = .map (some m)) (hk : a.eval k = key) (hy : a.eval y = val)
    (h : ∀ w', KM P kT w' m (q + 1) (putK p key val) → Upd m w w' → wpList P ops Q rest (a.put dst undef) w') :
    wpList P ops Q ({ dst := dst, op := .insert t x k y, type := typ, pos := pos, after := aft, guard := none } :: rest) a w := by
  obtain ⟨w', hr, h1, h2⟩ := st.putRun K ht hq hkey val
  refine wpList_plain rfl fun K' hK' => ?_
  have hh := hK' _ _ (h w' h1 h2)
  unfold Oper.wp
  simp [execOp, hx, hk, hy, hr, Result.andThen]
  exact hh
theorem exec_look {x k : Operand} {t : TypeId} {b : Bool} {key r : Value} (hr : (Instr.lookup t (.map (some m)) key b).run P w = .ok r w) (hx : a.eval x = .map (some m)) (hk : a.eval k = key) :
    (execOp a.eval { dst := dst, op := .lookup t x k b, type := typ, pos := pos, after := aft, guard := gd }).run P w = .ok (.value r) w := by
  unfold execOp
  simp only [hx, hk, hr, Sem.run_bind, Sem.run_pure, Result.andThen_ok]
end
end Go.Proofs.YtbiinchmbclmcaaDoor
