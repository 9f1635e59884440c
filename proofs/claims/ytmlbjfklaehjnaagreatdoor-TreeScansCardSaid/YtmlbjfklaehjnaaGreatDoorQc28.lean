import Derived.Test.YtmlbjfklaehjnaaGreatDoorQc21
import Derived.Test.YtmlbjfklaehjnaaGreatDoorQc22
import Derived.Test.YtmlbjfklaehjnaaGreatDoorQc24
import Derived.Test.YtmlbjfklaehjnaaGreatDoorQc27
import Derived.Test.YtmlbjfklaehjnaaGreatDoorQc11
set_option maxRecDepth 100000
set_option maxHeartbeats 4000000
namespace Go.Proofs.YtmlbjfklaehjnaaGreatDoor
open Go Go.RowKit Go.Maps
section
variable {w:World} {gp g mb ml mu:Nat} {kv:Value} {P:Pg} {d:Dk}
theorem secs_put_low {f:Nat→List Int} {at_ n:Nat} {b:List Int} (h:32≤at_):secs (putSecs f at_ b n) 0 32=secs f 0 32:=jc (fun i hi=>i6 f at_ b n _ (Or.inl (by omega)))
theorem secs_high {f f':Nat→List Int} {at_ n:Nat} (h:∀j,32≤j→f' j=f j) (ha:32≤at_):secs f' at_ n=secs f at_ n:=jc (fun i _=>h _ (by omega))
theorem PgAt.noByte {b:Nat} {l:List Value} (h:PgAt w gp g mb kv ml mu P d) (hr:Row w b l 5):b ∉ footP gp g mb kv ml mu:=by
 obtain ⟨es,c,hml⟩:=h.last.isMap
 obtain ⟨es',c',hmu⟩:=h.used.isMap
 obtain ⟨es2,c2,hmb⟩:=h.dk.isMap
 have two:∀ {l':List Value} {t:TypeId},Row w b l' t→t=5:=fun h2=>by
  unfold Row at h2 hr
  rw [hr] at h2
  simp only [Option.some.injEq,Obj.cells.injEq] at h2
  exact h2.2.1.symm
 intro hh
 simp only [footP,foot,List.mem_cons] at hh
 rcases hh with rfl|e|e|rfl|e|e
 ·exact absurd (two h.row) (by decide)
 ·exact ax hr hml e
 ·exact ax hr hmu e
 ·exact absurd (two h.dk.row) (by decide)
 ·exact ax hr hmb e
 ·obtain ⟨p,cap,rfl,hc,h2⟩:=h.dk.kept.ex
  rcases Nat.eq_zero_or_pos d.n with hn|hn
  ·rw [hn] at e;cases p<;>simp [kbOf] at e
  ·obtain ⟨kb,tl,rfl,hr2⟩:=h2 hn
   have:b=kb:=by simp [kbOf] at e;exact e.2
   subst this
   exact absurd (two hr2) (by decide)
end
end Go.Proofs.YtmlbjfklaehjnaaGreatDoor
