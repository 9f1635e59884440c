import Derived.Calls
import Derived.Shelf.Abstract
import Derived.Sort.Grow
import Derived.Sort.Walk0
import Derived.Test.YtdmohffogfbnbaaGreatDoorQp06
import Derived.Maps.RangeWalk
set_option maxRecDepth 100000
set_option maxHeartbeats 4000000
namespace Go.Proofs.YtdmohffogfbnbaaGreatDoor
open Go
theorem ask_drawn {α:Type} (k:Ask α):∀w:World,w.drawn≤(w.ask k).2.drawn:=by
 induction k with
 | done a=>intro w;exact Nat.le_refl _
 | ask what range k ih =>
  intro w
  unfold World.ask
  simp only
  split
  ·exact ih _ w
  ·exact Nat.le_trans (Nat.le_succ _) (ih _ {w with drawn:=w.drawn+1})
theorem sys_drawn (w:World) (c:Sys):w.drawn≤(w.sys c).2.drawn:=by
 have h:=ask_drawn (Kernel.perform c w.os) w
 unfold World.sys
 split
 ·exact Nat.le_refl _
 ·rename_i heq
  rw [heq] at h
  exact h
theorem eR {p:Program} {w w':World} {a:Addr} {v:Value} {b:Bool} {l:List Addr} (h:w.farStore p a v b=.ok (w',l)):w'.drawn=w.drawn:=by
 unfold World.farStore at h
 split at h
 ·split at h
  ·rename_i r hr
   cases h
   unfold World.viewStore at hr
   simp only [bind,Except.bind,pure,Except.pure] at hr
   repeat' (split at hr)
   all_goals first|(cases hr;done)|(cases hr;rfl)|skip
  ·cases h
 ·cases h
def rlow {α:Type} (d:Nat):Result α→Prop
 | .ok _ w=>d≤w.drawn
 | .halt _ w=>d≤w.drawn
theorem dr {α:Type} {c d:Nat} {r:Result α} (h:rlow d r) (hc:c≤d):rlow c r:=by
 cases r<;>exact Nat.le_trans hc h
theorem freeze_drawn (w:World) (a:Addr) (n:Nat):(w.freeze a n).drawn=w.drawn:=by
 unfold World.freeze;split<;>rfl
theorem run_drawn {α:Type} (p:Program) (s:Sem α):∀w:World,rlow w.drawn (s.run p w):=by
 induction s with
 | pure a=>intro w;exact Nat.le_refl _
 | load m a k ih =>
  intro w;unfold Sem.run
  split
  ·exact ih _ w
  ·split
   ·exact ih _ w
   ·exact Nat.le_refl _
 | store m a v k ih =>
  intro w
  cases v
  case agg=>exact Nat.le_refl _
  case tuple=>exact Nat.le_refl _
  all_goals
   unfold Sem.run
   split
   ·split
    ·exact Nat.le_refl _
    ·exact ih (w.setCell a _)
   ·split
    ·rename_i h
     exact dr (ih _) (Nat.le_of_eq (eR h).symm)
    ·exact Nat.le_refl _
 | new o k ih=>intro w;exact ih _ {w with heap:=w.heap.push o}
 | shape r k ih=>intro w;exact ih _ w
 | freeze a n k ih=>intro w;exact dr (ih (w.freeze a n)) (Nat.le_of_eq (freeze_drawn w a n).symm)
 | frozen a k ih=>intro w;exact ih _ w
 | getObj r k ih =>
  intro w;unfold Sem.run
  split
  ·exact Nat.le_refl _
  ·exact ih _ w
  ·exact Nat.le_refl _
 | setObj r o k ih =>
  intro w;unfold Sem.run
  split
  ·exact Nat.le_refl _
  ·exact ih {w with heap:=w.heap.setIfInBounds r o}
  ·exact Nat.le_refl _
 | choose q k ih =>
  intro w;unfold Sem.run
  split
  ·exact ih _ w
  ·exact dr (ih _ {w with drawn:=w.drawn+1}) (Nat.le_succ _)
 | sys c k ih =>
  intro w;unfold Sem.run
  exact dr (ih (w.sys c).1 (w.sys c).2) (sys_drawn w c)
 | program k ih=>intro w;exact ih _ w
 | mark m k ih=>intro w;exact ih w
 | halt h=>intro w;exact Nat.le_refl _
theorem bd {α:Type} {p:Program} {s:Sem α} {w w':World} {a:α} (h:s.run p w=.ok a w'):w.drawn≤w'.drawn:=by
 have:=run_drawn p s w;rw [h] at this;exact this
theorem bB {α:Type} {p:Program} {s:Sem α} {w w':World} {a:Halt} (h:s.run p w=.halt a w'):w.drawn≤w'.drawn:=by
 have:=run_drawn p s w;rw [h] at this;exact this
def glow (d:Nat):GStep→Prop
 | .go _ w _=>d≤w.drawn
 | .comm _ _ _ _ w _=>d≤w.drawn
 | .spawn _ _ w _=>d≤w.drawn
 | .count _ w _=>d≤w.drawn
 | .timer _ _ w _=>d≤w.drawn
 | .alone _ _ w _=>d≤w.drawn
 | .newcoro _ _ _ w _=>d≤w.drawn
 | .coroswitch _ _ _ w _=>d≤w.drawn
 | .collect _ w _=>d≤w.drawn
 | .watch _ w _=>d≤w.drawn
 | .ended _ _ _=>True
theorem cu {d:Nat} {es:Array Event} {s:GStep} (h:glow d s):glow d (GStep.after es s):=by
 cases s<;>exact h
theorem br {c d:Nat} {s:GStep} (h:glow d s) (hc:c≤d):glow c s:=by
 cases s<;>first|exact Nat.le_trans hc h|trivial
theorem cQ (p:Program) (main:Bool) (fr:Frame) (callers:List Frame) (dying:Option Dying) (v:Value) (w:World):glow w.drawn (doReturn p main fr callers dying v w):=by
 unfold doReturn
 simp only []
 repeat' first
  | exact Nat.le_refl _
  | exact trivial
  | split
theorem cS (fr:Frame) (m:String) (w:World):glow w.drawn (endThrow fr m w):=Nat.le_refl _
theorem endWith_low (d:Nat) (w:World) (fd:Nat) (t:ByteArray) (o:Outcome):glow d (endWith w fd t o):=by
 unfold endWith
 simp only []
 repeat' first
  | exact trivial
  | split
theorem da (p:Program) (fr:Frame) (v:Value) (w:World):glow w.drawn (endPrinting p fr v w):=by
 unfold endPrinting
 simp only []
 repeat' first
  | exact Nat.le_refl _
  | exact trivial
  | split
theorem ite_low {c:Prop} [Decidable c] {d:Nat} {a b:GStep} (ha:glow d a) (hb:glow d b):glow d (if c then a else b):=by
 split
 ·exact ha
 ·exact hb
theorem dP (p:Program) (fr:Frame) (cs:List Frame) (dy:Option Dying) (m:String) (w:World):glow w.drawn (endFatal p fr cs dy m w):=by
 unfold endFatal
 simp only []
 repeat' first
  | exact trivial
  | exact bd (by assumption)
  | split
theorem writeOn_low (p:Program) (fr:Frame) (d:Dying) (f:Fatal) (w:World):glow w.drawn (writeOn p fr d f w):=by
 unfold writeOn
 simp only [Sem.runT_eq]
 split
 ·exact trivial
 ·split
  ·rename_i h;exact bd (Prod.mk.inj h).1
  ·rename_i h;exact bB (Prod.mk.inj h).1
  ·exact trivial
  ·exact trivial
theorem die_low (p:Program) (fr:Frame) (d:Dying) (w:World):glow w.drawn (die p fr d w):=by
 unfold die
 simp only [Sem.runT_eq]
 repeat' first
  | exact writeOn_low _ _ _ _ _
  | exact endWith_low _ _ _ _ _
  | exact Nat.le_refl _
  | exact bd (by assumption)
  | exact br (da _ _ _ _) (bB (by assumption))
  | exact trivial
  | refine cu ?_
  | split
theorem en (p:Program) (fr:Frame) (cs:List Frame) (dy:Option Dying) (d:Deferred) (w:World):glow w.drawn (callDeferred p fr cs dy d w):=by
 unfold callDeferred
 simp only [Sem.runT_eq]
 refine ite_low trivial ?_
 refine cu ?_
 repeat' first
  | exact trivial
  | exact bd (by assumption)
  | exact bB (by assumption)
  | exact br (dP _ _ _ _ _ _) (bB (by assumption))
  | exact br (cS _ _ _) (bB (by assumption))
  | split
theorem unwind_low (p:Program) (main:Bool) (fr:Frame) (cs:List Frame) (dy:Option Dying) (w:World):glow w.drawn (unwind p main fr cs dy w):=by
 unfold unwind
 simp only [Sem.runT_eq]
 repeat' first
  | exact en _ _ _ _ _ _
  | exact da _ _ _ _
  | exact cQ _ _ _ _ _ _ _
  | exact br (cQ _ _ _ _ _ _ _) (bd (by assumption))
  | exact Nat.le_refl _
  | exact bd (by assumption)
  | exact trivial
  | refine cu ?_
  | split
theorem early_low (p:Program) (fr:Frame) (cs:List Frame) (dy:Option Dying) (g:Nat) (w:World):glow w.drawn (early p fr cs dy g w):=by
 unfold early
 simp only []
 repeat' first
  | exact Nat.le_refl _
  | exact bd (by assumption)
  | exact trivial
  | (refine Nat.le_trans (bd ‹Sem.run _ _ _=Result.ok _ _›) ?_;exact Nat.le_refl _)
  | split
theorem ea (p:Program) (b:Bool) (fr:Frame) (cs:List Frame) (dy:Option Dying) (s:Sem Next) (w:World):glow w.drawn (stepG.apply p b fr cs dy s w):=by
 unfold stepG.apply
 have e:(if b=true then s.runT p w #[] else (s.run p w,#[])).1=s.run p w:=by split;exact Sem.runT_fst _ _ _ _;rfl
 generalize (if b=true then s.runT p w #[] else (s.run p w,#[]))=r at e
 obtain ⟨r,es⟩:=r
 simp only at e
 subst e
 simp only []
 refine cu ?_
 repeat' first
  | exact trivial
  | exact bd (by assumption)
  | exact bB (by assumption)
  | exact br (dP _ _ _ _ _ _) (bB (by assumption))
  | exact br (cS _ _ _) (bB (by assumption))
  | exact br (cS _ _ _) (bd (by assumption))
  | exact br (early_low _ _ _ _ _ _) (bB (by assumption))
  | split
theorem oper_low (p:Program) (b:Bool) (fr:Frame) (cs:List Frame) (dy:Option Dying) (w:World):glow w.drawn (stepG.oper p b fr cs dy w):=by
 unfold stepG.oper
 repeat' first
  | exact trivial
  | exact ea _ _ _ _ _ _ _
  | split
theorem elim_low {A:Type} {o:Option A} {d:Nat} {a:GStep} {f:A→GStep} (ha:glow d a) (hf:∀x,glow d (f x)):glow d (o.elim a f):=by
 cases o
 ·exact ha
 ·exact hf _
theorem exec_low (p:Program) (main b:Bool) (fr:Frame) (cs:List Frame) (dy:Option Dying) (w:World):glow w.drawn (stepG.exec p main b fr cs dy w):=by
 unfold stepG.exec
 simp only [Sem.runT_eq]
 repeat' first
  | exact trivial
  | exact Nat.le_refl _
  | exact ea _ _ _ _ _ _ _
  | exact oper_low _ _ _ _ _ _
  | refine elim_low ?_ (fun _=>?_)
  | exact bd (by assumption)
  | exact bB (by assumption)
  | exact br (cQ _ _ _ _ _ _ _) (bd (by assumption))
  | exact br (ea _ _ _ _ _ _ _) (bd (by assumption))
  | refine cu ?_
  | split
theorem stepG_low (p:Program) (main:Bool) (g:Goroutine) (w:World) (b:Bool):glow w.drawn (stepG p main g w b):=by
 unfold stepG
 simp only []
 repeat' first
  | exact die_low _ _ _ _
  | exact exec_low _ _ _ _ _ _ _
  | exact unwind_low _ _ _ _ _ _
  | split
theorem eA {rest:Rest} {cases:Array CommCase} {w w':World} (h:waitingAt rest cases w=some w'):w'.drawn=w.drawn:=by
 unfold waitingAt at h
 repeat' first
  | (cases h;done)
  | (cases h;rfl)
  | split at h
def slow (d:Nat):Stepped→Prop
 | .next m=>d≤m.world.drawn
 | .ended _ _=>True
theorem bQ {c d:Nat} {s:Stepped} (h:slow d s) (hc:c≤d):slow c s:=by
 cases s
 ·exact Nat.le_trans hc h
 ·trivial
theorem ey (p:Program) (rest:Rest) (gs:Array Goroutine) (i:Nat) (g:Goroutine) (cases:Array CommCase) (blocking:Bool)
  (shape:CommShape) (w:World):slow w.drawn (communicate p rest gs i g cases blocking shape w).1:=by
 unfold communicate
 simp only []
 repeat' first
  | exact trivial
  | exact Nat.le_refl _
  | exact Nat.le_of_eq (eA (by assumption)).symm
  | (refine Nat.le_trans (bd ‹Sem.run _ _ _=Result.ok (_,_) _›) ?_;exact Nat.le_refl _)
  | (refine Nat.le_trans (bd ‹Sem.run _ _ _=Result.ok (_,_) _›) (Nat.le_trans (bd ‹Sem.run _ _ _=Result.ok (_:Nat) _›) ?_);exact Nat.le_refl _)
  | split
theorem look_low (p:Program) (gs:Array Goroutine) (rest:Rest) (w:World):slow w.drawn (look p gs rest w):=by
 unfold look
 simp only []
 repeat' first
  | exact trivial
  | (refine Nat.le_trans (bd ‹Sem.run _ _ _=Result.ok _ _›) ?_;exact Nat.le_refl _)
  | split
theorem drain_drawn (w:World) (c:Nat):(drain w c).2.drawn=w.drawn:=by
 unfold drain
 split<;>rfl
theorem dX (m:Machine) (k:Nat) (t:Timer) (a b:Nat):(retime m k t a b).2.world.drawn=m.world.drawn:=by
 unfold retime
 simp only []
 split
 ·exact drain_drawn _ _
 ·rfl
theorem fp {m m':Machine} {op:TimerOp} {v:Value} (h:timerOp m op=.ok (v,m')):m'.world.drawn=m.world.drawn:=by
 unfold timerOp at h
 cases op with
 | new t =>
  simp only [] at h
  repeat' first
   | (cases h;done)
   | (cases h;rfl)
   | split at h
 | stop var =>
  simp only [timerOp.named] at h
  split at h
  ·have e:=Except.ok.inj h
   have:=dX m ‹Nat› (m.rest.timers.getD ‹Nat› default) 0 (m.rest.timers.getD ‹Nat› default).period
   rw [e] at this
   exact this
  ·cases h
 | reset var a b =>
  simp only [timerOp.named] at h
  split at h
  ·rename_i m2 ho
   have h2:m2.world.drawn=m.world.drawn:=by
    unfold timerOp.opened at ho
    repeat' first
     | (cases ho;done)
     | (cases ho;rfl)
     | split at ho
   split at h
   ·have e:=Except.ok.inj h
    have:=dX m2 ‹Nat› (m.rest.timers.getD ‹Nat› default) a b
    rw [e] at this
    exact this.trans h2
   ·cases h
  ·cases h
 | deadline a b c d =>
  simp only [] at h
  cases h
  rfl
theorem runT_low (p:Program) (m:Machine) (i:Nat) (b:Bool):slow m.world.drawn (runT p m i b).1:=by
 simp only [runT]
 generalize m.gs.swapAt! _ _=gg
 have hs:=stepG_low p (i==0) gg.1 m.world b
 generalize stepG p _ gg.1 m.world b=s at hs
 cases s<;>simp only []
 all_goals first
  | exact hs
  | exact trivial
  | exact bQ (ey _ _ _ _ _ _ _ _ _) hs
  | exact bQ (look_low _ _ _ _) hs
  | (split;exact trivial;exact hs)
  | skip
 ·repeat' first
   | exact hs
   | exact trivial
   | exact Nat.le_trans hs (Nat.le_of_eq (fp (by assumption)).symm)
   | split
 ·repeat' first
   | exact hs
   | exact trivial
   | split
theorem serve_low (p:Program) (m:Machine) (k:Nat):slow m.world.drawn (serve p m k):=by
 unfold serve
 simp only []
 repeat' first
  | exact trivial
  | exact Nat.le_refl _
  | split
def mlow (d:Nat):Move→Prop
 | .goroutine m _=>d≤m.world.drawn
 | .machine s _=>slow d s
theorem cM {c d:Nat} {s:Move} (h:mlow d s) (hc:c≤d):mlow c s:=by
 cases s
 ·exact Nat.le_trans hc h
 ·exact bQ h hc
theorem ei (p:Program) (m:Machine):mlow m.world.drawn (askOn p m):=by
 unfold askOn
 extract_lets mono rs ds pick
 have hp:∀m:Machine,mlow m.world.drawn (pick m):=by
  intro m
  simp only [pick]
  split
  ·exact trivial
  ·rename_i h
   have h0:=bd h
   split
   ·exact h0
   ·split
    ·exact trivial
    ·rename_i h2
     have h3:=bd h2
     exact Nat.le_trans h0 h3
 clear_value pick rs
 simp only []
 split
 ·exact trivial
 ·rename_i k w h
  have h0:=bd h
  split
  ·exact bQ (serve_low p {m with world:=w} _) h0
  ·split
   ·split
    ·exact h0
    ·split
     ·exact h0
     ·unfold endWith
      try simp only []
      repeat' first
       | exact trivial
       | split
   ·split
    ·exact cM (hp {m with world:=w}) h0
    ·split
     ·exact trivial
     ·rename_i w2 h2
      exact cM (hp {m with world:=w2}) (Nat.le_trans h0 (bd h2))
     ·rename_i w2 h2
      have h3:=bd h2
      exact Nat.le_trans h0 h3
     ·rename_i w2 h2
      have h3:=bd h2
      exact cM (hp (({m with world:=w2}:Machine).advanceTo _)) (Nat.le_trans h0 h3)
theorem ask_low (p:Program) (m:Machine):mlow m.world.drawn (ask p m):=by
 unfold ask
 split
 ·split
  ·exact trivial
  ·rename_i h
   have h0:=bd h
   have hl:=look_low p m.gs m.rest ‹World›
   split
   ·rename_i m2 e
    rw [e] at hl
    exact cM (ei p m2) (Nat.le_trans h0 hl)
   ·exact bQ hl h0
  ·rename_i h
   exact cM (ei p _) (bd h)
 ·exact ei p m
theorem move_low (p:Program) (m:Machine):mlow m.world.drawn (move p m):=by
 unfold move
 repeat' first
  | exact trivial
  | exact Nat.le_refl _
  | exact ask_low p m
  | exact ask_low p {m with rest:={m.rest with slice:=none}}
  | split
theorem step_low (p:Program) (m:Machine):slow m.world.drawn (step p m):=by
 unfold step stepT
 have h:=move_low p m
 cases hm:move p m with
 | goroutine m2 i=>rw [hm] at h;exact bQ (runT_low p m2 i true) h
 | machine s ops=>rw [hm] at h;exact h
theorem runN_low (p:Program) (n:Nat):∀m:Machine,slow m.world.drawn (runN p n m):=by
 induction n with
 | zero=>intro m;exact Nat.le_refl _
 | succ n ih =>
  intro m
  have h:=step_low p m
  unfold runN
  cases hs:step p m with
  | next m2=>rw [hs] at h;exact bQ (ih m2) h
  | ended o w=>exact trivial
theorem steps_drawn {P:Program} {m m':Machine} (h:Steps P m m'):m.world.drawn≤m'.world.drawn:=by
 obtain ⟨n,hn⟩:=h
 have:=runN_low P n m
 rw [hn] at this
 exact this
theorem calls_drawn {P:Program} {f:FuncId} {args:Array Value} {w:World} {v:Value} {R:World→Prop} (h:Calls P f args w fun e w'=>e=.returned v∧R w') :
  Calls P f args w fun e w'=>e=.returned v∧R w'∧w.drawn≤w'.drawn:=by
 intro cs
 obtain ⟨e,w',fr,⟨rfl,hR⟩,hc,hf,hl⟩:=h cs
 exact ⟨_,w',fr,⟨rfl,hR,steps_drawn hc⟩,hc,hf,hl⟩
open Go Go.RowKit Go.Maps Go.Sort
theorem grow_of {W w':World} (hb:Go.RowKit.Below W.heap.size W w') (hd:W.drawn≤w'.drawn):∃q os,w'=grow (W.drewN q) os:=by
 refine ⟨w'.drawn - W.drawn,w'.heap.extract W.heap.size w'.heap.size,?_⟩
 have e1:w'.heap=W.heap++w'.heap.extract W.heap.size w'.heap.size:=by
  apply Array.ext_getElem?
  intro k
  rw [Array.getElem?_append]
  split
  ·next h=>exact hb.block k h
  ·next h =>
   rw [Array.getElem?_extract]
   split
   ·rw [show W.heap.size+(k - W.heap.size)=k by omega]
   ·next h2=>rw [Array.getElem?_eq_none (by omega)]
 have e2:w'.drawn=W.drawn+(w'.drawn - W.drawn):=by omega
 obtain ⟨h1,h2,h3,h4,h5⟩:=W
 obtain ⟨g1,g2,g3,g4,g5⟩:=w'
 have e3:=hb.os
 have e4:=hb.tape
 have e5:=hb.output
 simp only [World.drewN,grow] at *
 subst e3 e4 e5
 rw [←e1,←e2]
abbrev Plc:={ks:List ByteArray // PlOk ks}
def encN (x:Plc):List Value:=pvv x.1
def cfP (x y:Plc):Int:=cfN x.1 y.1
theorem ltP (x y:Plc):ltOf cfP x y=decide (cd x.1<cd y.1):=by
 unfold ltOf cfP cfN cfB
 rw [Bool.eq_iff_iff,decide_eq_true_eq,decide_eq_true_eq,dJ,dJ]
 exact cmpB_neg _ _
theorem swoP:SWO (ltOf cfP) where
 irrefl x:=by rw [ltP];simp [List.lt_irrefl]
 trans x y z h1 h2:=by
  rw [ltP,decide_eq_true_eq] at *
  exact List.lt_trans h1 h2
 ntrans x y z h1 h2:=by
  rw [ltP,decide_eq_false_iff_not] at *
  exact List.not_lt.2 (List.le_trans (List.not_lt.1 h2) (List.not_lt.1 h1))
theorem totP (x y:Plc) (h1:ltOf cfP x y=false) (h2:ltOf cfP y x=false):x=y:=by
 rw [ltP,decide_eq_false_iff_not] at *
 exact Subtype.ext (cd_inj x.2 y.2 (List.le_antisymm (List.not_lt.1 h2) (List.not_lt.1 h1)))
theorem ag_np:∀w,(isAgg 63).run Tryz.prog w=.ok true w:=by intro w;simp [go_sem]
theorem szo_np:∀w,(Go.sizeOf 63).run Tryz.prog w=.ok 2 w:=by intro w;simp [go_sem]
theorem ex (w:World) (g m:Nat) (d:Array Plc) (os:Array Obj) [Inhabited Plc] {k:Nat} (hk:k<w.heap.size) (hg:k≠g):(sortWorldK encN 2 w g 0 m d os).heap[k]?=w.heap[k]?:=by
 show ((w.heap.modify g _)++os)[k]?=w.heap[k]?
 rw [Array.getElem?_append_left (by simpa using hk),Array.getElem?_modify,if_neg (fun h=>hg h.symm)]
theorem MaxL.at0 {w w':World} (h:MaxL w) (hb:w'.heap[0]?=w.heap[0]?):MaxL w':=by
 obtain ⟨m,hm⟩:=h
 exact ⟨m,by rw [World.cell?_of_block (a:=⟨0,0,none⟩) hb];exact hm⟩
theorem MaxL.lt0 {w:World} (h:MaxL w):0<w.heap.size:=by
 obtain ⟨m,hm⟩:=h
 exact block_lt_of_cell hm
theorem sort_n {w:World} {g cap:Nat} (L:List (List ByteArray)) (hL:∀ks∈L,PlOk ks) (cur:Array Value) (e:TypeId) (hg:w.heap[g]?=some (.cells cur e (0,0))) (hg0:0<g) (hM:MaxL w) (hc:∀i ks,L[i]?=some ks→∀j x,(pvv ks)[j]?=some x→w.cell? ⟨g,i * 2+j,none⟩=some x) (hsz:L.length≤100000) :
  Calls Tryz.prog 63 #[.slice (some ⟨g,0,none⟩) L.length cap,.func (.func 64) #[] #[]] w fun e w'=>e=.returned (.tuple #[])∧∃L':List (List ByteArray),L'.Perm L∧L'.Pairwise (fun x y=>¬cd y<cd x)∧(∀i ks,L'[i]?=some ks→∀j x,(pvv ks)[j]?=some x→w'.cell? ⟨g,i * 2+j,none⟩=some x)∧w.grownBy w' (some g):=by
 haveI:Inhabited Plc:=⟨⟨[],PlOk.nil⟩⟩
 obtain ⟨P,hP⟩:∃P:List Plc,P.map (·.1)=L:=by
  refine ⟨L.attach.map fun x=>⟨x.1,hL x.1 x.2⟩,?_⟩
  rw [List.map_map]
  exact List.attach_map_subtype_val L
 obtain ⟨d,hd⟩:∃d:Array Plc,d=P.toArray:=⟨_,rfl⟩
 have hPl:P.length=L.length:=by rw [←hP,List.length_map]
 have hds:d.size=L.length:=by rw [hd];simpa using hPl
 have hdi:∀i,i<L.length→L[i]?=some (d[i]!).1:=fun i hi=>by
  have hip:i<P.length:=by omega
  rw [←hP,List.getElem?_map,List.getElem?_eq_getElem hip,hd]
  simp [hip]
 have hglt:g<w.heap.size:=(Array.getElem?_eq_some_iff.1 hg).1
 have hH:HoldsK encN 2 w g 0 d:=by
  intro t ht
  rw [size_flatK] at ht
  rw [get_flatK _ _ _ _ ht]
  refine ⟨?_,by simp [World.frozen?,hg]⟩
  have h1:=hc (t / 2) _ (hdi (t / 2) (by omega)) (t % 2) ((encN d[t / 2]!)[t % 2]!) (by
   rw [List.getElem!_eq_getElem?_getD]
   unfold encN
   rw [List.getElem?_eq_getElem (by rw [pvv2];omega)];rfl)
  rw [show t / 2 * 2+t % 2=0+t by omega] at h1
  exact h1
 have eg:∀args w,(callFunc 64 args).run Tryz.prog w=.ok (.enter 64 args) w:=enters_of Tryz.func64 (by kernel_rfl) rfl
 have hcmp:CmpLays Tryz.prog 64 #[] encN 2 cfP g 0 d.size w:=fun m os dk _ x y=>by
  have hMW:MaxL (sortWorldK encN 2 w g 0 m dk os):=hM.at0 (ex w g m dk os hM.lt0 (by omega))
  have h1:=calls_drawn (R:=fun w'=>Go.RowKit.Below (sortWorldK encN 2 w g 0 m dk os).heap.size (sortWorldK encN 2 w g 0 m dk os) w') (byCode_n x.2 y.2 _ hMW)
  exact h1.mono (fun e w' h=>⟨h.1,grow_of h.2.1 h.2.2⟩)
 have hcon:=AnyQ.slices_SortFunc_total sortN 2 ag_np szo_np encN (fun x=>pvv2 x.1) (fun x=>aI x.1) cfP swoP 64 #[] g 0 cap d w eg hcmp hH hglt (by omega) totP
 rw [hds] at hcon
 refine Calls.mono (show Calls Tryz.prog 63 _ w _ from hcon) ?_
 rintro e' w' ⟨rfl,n,os,hw⟩
 obtain ⟨M,hM2⟩:∃M,M=d.toList.mergeSort fun x y => !(ltOf cfP) y x:=⟨_,rfl⟩
 rw [←hM2] at hw
 have hMp:M.Perm P:=by
  rw [hM2,hd]
  exact List.mergeSort_perm _ _
 have hMl:M.length=L.length:=by rw [hMp.length_eq,hPl]
 have hMs:M.Pairwise fun x y=>(!(ltOf cfP) y x)=true:=by
  rw [hM2]
  refine List.pairwise_mergeSort (fun a b c h1 h2=>?_) (fun a b=>?_) _
  ·simp only [Bool.not_eq_true'] at *
   exact swoP.ntrans c b a h2 h1
  ·cases h1:ltOf cfP b a with
   | false=>rfl
   | true =>
    cases h2:ltOf cfP a b with
    | false=>rfl
    | true=>exact absurd (swoP.trans a b a h2 h1) (by rw [swoP.irrefl];simp)
 have hH':HoldsK encN 2 w' g 0 M.toArray:=by
  rw [hw]
  exact holdsK_sortWorldK_c encN 2 w g 0 d M.toArray n os hH hglt (by rw [hds];simpa using hMl)
 refine ⟨rfl,M.map (·.1),?_,?_,fun i ks hi j x hx=>?_,?_⟩
 ·rw [←hP];exact hMp.map _
 ·rw [List.pairwise_map]
  refine hMs.imp fun {x y} h=>?_
  rw [ltP] at h
  simpa using h
 ·have hiM:i<M.length:=by
   rcases Nat.lt_or_ge i M.length with h'|h'
   ·exact h'
   ·rw [List.getElem?_eq_none (by simpa using h')] at hi;cases hi
  have hj2:j<2:=by
   rcases Nat.lt_or_ge j 2 with h'|h'
   ·exact h'
   ·rw [List.getElem?_eq_none (by rw [pvv2];exact h')] at hx;cases hx
  have h1:=(HoldsK.cell hH' (i:=i) (c:=j) (by simpa using hiM) hj2).1
  rw [Nat.zero_add] at h1
  rw [h1]
  have e1:M.toArray[i]! = M[i]:=by simp [hiM]
  have e2:M[i].1=ks:=by simpa [hiM] using hi
  have e3:encN M[i]=pvv ks:=by unfold encN;rw [e2]
  rw [e1,e3,List.getElem!_eq_getElem?_getD,hx];rfl
 ·rw [hw]
  refine ⟨rfl,rfl,rfl,?_,fun k hk hne=>?_⟩
  ·show w.heap.size≤((w.heap.modify g _)++os).size
   simp
  ·exact ex w g n M.toArray os hk (fun h=>hne (by rw [h]))
open Go Go.RowKit Go.Maps
theorem run_bsl2 {P:Program} (w:World) {t elem:TypeId} (z l:List Value) (hu:P.underlying t=some (.slice elem)) (hi:(P.info? elem).map (fun i=>(i.zero,i.size))=some (some (.agg z.toArray),2)) (hz:z.length=2) (hl:l.length=2) :
  (Instr.buildSlice t 1 #[(0,.agg l.toArray)]).run P w=.ok (.slice (some ⟨w.heap.size,0,none⟩) 1 1) (w.alloc (.cells l.toArray elem)):=by
 obtain ⟨hz1,hs1⟩:=zero_of_info hi
 cases hq:P.info? elem with
 | none=>simp [hq] at hi
 | some qq =>
  have hs:qq.size=2:=by simpa [hq] using hs1
  have e:∀cs:Array Value,cs.size=2→List.foldl (fun (cs:Array Value) (x:Value×Nat)=>cs.setIfInBounds x.2 x.1) cs l.zipIdx=l.toArray:=by
   intro cs hcs
   apply Array.ext_getElem?
   intro i
   rw [eS l 0 cs i]
   by_cases h:i<2
   ·rw [if_pos (by omega)];simp
   ·rw [if_neg (by omega),Array.getElem?_eq_none (by omega),Array.getElem?_eq_none (by simp;omega)]
  simp [Instr.buildSlice,run_underlying hu,sizeOf,typeInfo,hq,hs,hz1,Value.cells,Instr.fill,hl,hz,newRow,newObj]
  rw [e _ (by simp)]
  rfl
theorem run_bsl5 {P:Program} (w:World) {t elem:TypeId} (z l:List Value) (hu:P.underlying t=some (.slice elem)) (hi:(P.info? elem).map (fun i=>(i.zero,i.size))=some (some (.agg z.toArray),5)) (hz:z.length=5) (hl:l.length=5) :
  (Instr.buildSlice t 1 #[(0,.agg l.toArray)]).run P w=.ok (.slice (some ⟨w.heap.size,0,none⟩) 1 1) (w.alloc (.cells l.toArray elem)):=by
 obtain ⟨hz1,hs1⟩:=zero_of_info hi
 cases hq:P.info? elem with
 | none=>simp [hq] at hi
 | some qq =>
  have hs:qq.size=5:=by simpa [hq] using hs1
  have e:∀cs:Array Value,cs.size=5→List.foldl (fun (cs:Array Value) (x:Value×Nat)=>cs.setIfInBounds x.2 x.1) cs l.zipIdx=l.toArray:=by
   intro cs hcs
   apply Array.ext_getElem?
   intro i
   rw [eS l 0 cs i]
   by_cases h:i<5
   ·rw [if_pos (by omega)];simp
   ·rw [if_neg (by omega),Array.getElem?_eq_none (by omega),Array.getElem?_eq_none (by simp;omega)]
  simp [Instr.buildSlice,run_underlying hu,sizeOf,typeInfo,hq,hs,hz1,Value.cells,Instr.fill,hl,hz,newRow,newObj]
  rw [e _ (by simp)]
  rfl
section
variable {P:Program} {kT:TypeId} {ops:Array Oper} {rest:List Oper} {a:Act} {w w0 w1:World} {Q:Exit→Act→World→Prop} {dst:Option Tmp} {typ:TypeId} {pos:String} {aft:Array Edge} {gd:Option (Nat×Bool)} {S:List Nat} {rows:List (Nat×List Value×TypeId)}
theorem wpl_bslP {x:Operand} (l:List Value) (hl:l.length=2) (hw:Region.wanted {dst:=dst,op:=.buildSlice 87 1 #[(0,x)],type:=typ,pos:=pos,after:=aft,guard:=gd} (yielded ops a.tmps)=true) (hx:a.eval x=.agg l.toArray) (hm:Mem w0 S w rows)
  (h:∀w' g,Mem w0 S w' ((g,l,63)::rows)→Below w.heap.size w w'→wpList Tryz.prog ops Q rest (a.put dst (.slice (some ⟨g,0,none⟩) 1 1)) w') :
  wpList Tryz.prog ops Q ({dst:=dst,op:=.buildSlice 87 1 #[(0,x)],type:=typ,pos:=pos,after:=aft,guard:=gd}::rest) a w:=by
 refine wpList_step fun K hK=>?_
 rw [if_pos hw]
 have hh:=hK _ _ (h _ _ (hm.alloc l 63) ((Below.refl _ _).alloc (Nat.le_refl _) _))
 unfold Oper.wp execOp
 simp only [List.map_toArray,List.map_cons,List.map_nil,hx,run_bsl2 (P:=Tryz.prog) w _ l un_nps info_np rfl hl,Sem.run_bind,Sem.run_pure,Result.andThen_ok]
 exact hh
theorem cn {x:Operand} (l:List Value) (hl:l.length=5) (hw:Region.wanted {dst:=dst,op:=.buildSlice 46 1 #[(0,x)],type:=typ,pos:=pos,after:=aft,guard:=gd} (yielded ops a.tmps)=true) (hx:a.eval x=.agg l.toArray) (hm:Mem w0 S w rows)
  (h:∀w' g,Mem w0 S w' ((g,l,50)::rows)→Below w.heap.size w w'→wpList Tryz.prog ops Q rest (a.put dst (.slice (some ⟨g,0,none⟩) 1 1)) w') :
  wpList Tryz.prog ops Q ({dst:=dst,op:=.buildSlice 46 1 #[(0,x)],type:=typ,pos:=pos,after:=aft,guard:=gd}::rest) a w:=by
 refine wpList_step fun K hK=>?_
 rw [if_pos hw]
 have hh:=hK _ _ (h _ _ (hm.alloc l 50) ((Below.refl _ _).alloc (Nat.le_refl _) _))
 unfold Oper.wp execOp
 simp only [List.map_toArray,List.map_cons,List.map_nil,hx,run_bsl5 (P:=Tryz.prog) w _ l ay info_sp rfl hl,Sem.run_bind,Sem.run_pure,Result.andThen_ok]
 exact hh
theorem ff {x:Operand} {t e:TypeId} {m q:Nat} {p:Value→Value→Prop} (km:KM P kT w m q p) (K:Keyed P kT) (ht:P.underlying t=some (.map kT e)) (hx:a.eval x=.map (some m))
  (h:∀w' r D,w'.ranges P kT rdV m r q D (Maps.has D) (Maps.size D)→(∀k kl,keyOf P kT k=some kl→(Maps.has D kl=true↔∃v,p k v))→Below w.heap.size w w'→w.heap.size≤r→r<w'.heap.size→wpList P ops Q rest (a.put dst (.pointer (some ⟨r,0,none⟩))) w') :
  wpList P ops Q ({dst:=dst,op:=.range t x,type:=typ,pos:=pos,after:=aft,guard:=none}::rest) a w:=by
 obtain ⟨D,ho,h1,h2⟩:=km
 refine wpList_range_own w rfl x t rfl kT e K ht rdV m q D hx ho ?_
 intro w' hrg hg hs
 exact h w' w.heap.size D hrg h1 ⟨hg.os,hg.tape,hg.output,hg.size,fun k hk=>hg.block k hk (by simp)⟩ (Nat.le_refl _) (by omega)
theorem aC {x:Operand} {r:Nat} {v:Value} (hr:(Instr.next (.pointer (some ⟨r,0,none⟩)) false typ).run P w=.ok v w1) (hx:a.eval x=.pointer (some ⟨r,0,none⟩)) (h:wpList P ops Q rest (a.put dst v) w1) :
  wpList P ops Q ({dst:=dst,op:=.next x false,type:=typ,pos:=pos,after:=aft,guard:=none}::rest) a w:=by
 refine wpList_plain rfl fun K hK=>?_
 have hh:=hK _ _ h
 unfold Oper.wp
 simp [execOp,hx,hr,Result.andThen]
 exact hh
theorem aN {x:Operand} {r:Nat} {v:Value} (hr:(Instr.entry (.pointer (some ⟨r,0,none⟩))).run P w=.ok v w) (hx:a.eval x=.pointer (some ⟨r,0,none⟩)) :
  (execOp a.eval {dst:=dst,op:=.entry x,type:=typ,pos:=pos,after:=aft,guard:=gd}).run P w=.ok (.value v) w:=by
 unfold execOp
 simp only [hx,hr,Sem.run_bind,Sem.run_pure,Result.andThen_ok]
end
theorem d9 {w:World} {P:Program} {k:TypeId} {R:Value→Option (DataW Value×List MemPlace)} {b r n:Nat} {D:DataW Value} {left:Lit→Bool} {cnt:Nat} (h:w.ranges P k R b r n D left cnt):cnt≤n:=by
 obtain ⟨es,_,_,_,_,_,_,hs,_,_,_,hl,_⟩:=h
 rw [←hl]
 exact Nat.le_trans (by unfold leftOf;exact Array.size_filter_le ..) hs
theorem dh {left:Lit→Bool} {kl z:Lit} (hk:WideAt.IsKeyLit kl):(left z && !z.sameKey kl)=false↔(left z=false∨z=kl):=by
 by_cases h:z=kl
 ·subst h;simp [WideAt.sameKey_self hk]
 ·simp [Maps.sameKey_ne h,h]
structure ColW (w2 wr:World) (r:Nat) (eT:TypeId) (K:Nat) (F:List ByteArray→List Value) (v:Value) (L:List (List ByteArray)):Prop where
 upd:Upd r w2 wr
 own:wr.ownsRow w2.heap.size eT K v L.length (L.flatMap F)
theorem upd_of_grown {r:Nat} {w w':World} (h:w.grownBy w' (some r)):Upd r w w':=⟨h.os,h.tape,h.output,h.size,fun k hk hn=>h.block k hk (by simpa using hn)⟩
section
variable {w2 wr w':World} {r:Nat} {eT:TypeId} {K:Nat} {F:List ByteArray→List Value} {v:Value} {L:List (List ByteArray)}
theorem ColW.below (h:ColW w2 wr r eT K F v L) (hb:Below wr.heap.size wr w'):ColW w2 w' r eT K F v L:=⟨h.upd.trans (Upd.of_below hb),aq h.own hb⟩
theorem ColW.next (h:ColW w2 wr r eT K F v L) (hg:wr.grownBy w' (some r)) (hr:r<w2.heap.size):ColW w2 w' r eT K F v L:=by
 refine ⟨h.upd.trans (upd_of_grown hg),World.ownsRow.kept h.own hg ?_⟩
 cases hv:v.ownBlock with
 | none=>exact Or.inl rfl
 | some k =>
  refine Or.inr (fun e=>?_)
  have:=(World.ownsRow.lt h.own k hv).1
  simp only [Option.some.injEq] at e
  omega
theorem ColW.ne (h:ColW w2 wr r eT K F v L) {k:Nat} (hk:k<w2.heap.size):some k≠v.ownBlock:=fun e=>by have:=(World.ownsRow.lt h.own k e.symm).1;omega
theorem ColW.app {ks:List ByteArray} {v':Value} (h:ColW w2 wr r eT K F v L) (hg:wr.grownBy w' v.ownBlock) (ho:w'.ownsRow w2.heap.size eT K v' (L.length+1) (L.flatMap F++F ks)):ColW w2 w' r eT K F v' (L++[ks]):=by
 refine ⟨⟨hg.os.trans h.upd.os,hg.tape.trans h.upd.tape,hg.output.trans h.upd.output,Nat.le_trans h.upd.size hg.size,fun k hk hn=>(hg.block k (Nat.lt_of_lt_of_le hk h.upd.size) (h.ne hk)).trans (h.upd.block k hk hn)⟩,?_⟩
 ·rw [List.length_append,List.flatMap_append]
  simpa using ho
end
theorem NmAt.updO {w w':World} {nb m c r:Nat} {p:Nms} (h:NmAt w nb m c p) (hu:Upd r w w') (h1:r≠nb) (h2:r≠m):NmAt w' nb m c p:=by
 obtain ⟨q,hq,hk⟩:=h.map
 exact ⟨hu.row h.row (fun e=>h1 e.symm),⟨q,hq,hk.upd hu h2⟩,h.ok⟩
structure ColL (p:Nms) (T:List ByteArray→Bool) (D:DataW Value) (L:List (List ByteArray)) (left:Lit→Bool):Prop where
 sub:∀kl,left kl=true→Maps.has D kl=true
 mem:∀ks∈L,hasN p ks=true∧T ks=true
 all:∀ks kl,PlOk ks→keyOf Tryz.prog 63 (.agg (pvv ks).toArray)=some kl→hasN p ks=true→T ks=true→left kl=false→ks∈L
 gone:∀ks kl,ks∈L→keyOf Tryz.prog 63 (.agg (pvv ks).toArray)=some kl→left kl=false
 nd:L.Nodup
theorem ColL.start {p:Nms} {T:List ByteArray→Bool} {D:DataW Value} (h1:∀k kl,keyOf Tryz.prog 63 k=some kl→(Maps.has D kl=true↔∃v,NmK p k v)):ColL p T D [] (Maps.has D):=by
 refine ⟨fun _ h=>h,fun _ h=>(by cases h),fun ks kl hk hkl hl _ hno=>?_,fun _ _ h=>(by cases h),List.nodup_nil⟩
 obtain ⟨x,hx,rfl⟩:=aE.1 hl
 have:=(h1 _ kl hkl).2 ⟨_,x,hx,rfl,rfl⟩
 rw [hno] at this;cases this
theorem ColL.skip {p:Nms} {T:List ByteArray→Bool} {ks:List ByteArray} {D:DataW Value} {L:List (List ByteArray)} {left:Lit→Bool} {kl:Lit} (h:ColL p T D L left) (hk:PlOk ks) (hkl:keyOf Tryz.prog 63 (.agg (pvv ks).toArray)=some kl) (hu:T ks=false):ColL p T D L (fun z=>left z && !z.sameKey kl):=by
 have hK:=aQ.key hkl
 refine ⟨fun z hz=>h.sub z (by simp at hz;exact hz.1),h.mem,fun ks' kl' hk' hkl' hl hu' hz=>?_,fun ks' kl' hm hkl'=>(dh hK).2 (Or.inl (h.gone ks' kl' hm hkl')),h.nd⟩
 rcases (dh hK).1 hz with h1|h1
 ·exact h.all ks' kl' hk' hkl' hl hu' h1
 ·subst h1
  have:=cB hk' hk (aQ.inj hkl' hkl)
  subst this
  rw [hu] at hu';cases hu'
theorem ColL.more {p:Nms} {T:List ByteArray→Bool} {ks:List ByteArray} {D:DataW Value} {L:List (List ByteArray)} {left:Lit→Bool} {kl:Lit} (h:ColL p T D L left) (hk:PlOk ks) (hkl:keyOf Tryz.prog 63 (.agg (pvv ks).toArray)=some kl) (hl:hasN p ks=true) (hlk:left kl=true) (hu:T ks=true):ColL p T D (L++[ks]) (fun z=>left z && !z.sameKey kl):=by
 have hK:=aQ.key hkl
 refine ⟨fun z hz=>h.sub z (by simp at hz;exact hz.1),fun x hx=>?_,fun ks' kl' hk' hkl' hl' hu' hz=>?_,fun ks' kl' hm hkl'=>?_,?_⟩
 ·rcases List.mem_append.1 hx with h1|h1
  ·exact h.mem x h1
  ·rw [List.mem_singleton.1 h1];exact ⟨hl,hu⟩
 ·rcases (dh hK).1 hz with h1|h1
  ·exact List.mem_append.2 (Or.inl (h.all ks' kl' hk' hkl' hl' hu' h1))
  ·subst h1
   have:=cB hk' hk (aQ.inj hkl' hkl)
   subst this
   exact List.mem_append.2 (Or.inr (List.mem_singleton.2 rfl))
 ·rcases List.mem_append.1 hm with h1|h1
  ·exact (dh hK).2 (Or.inl (h.gone ks' kl' h1 hkl'))
  ·rw [List.mem_singleton.1 h1,hkl] at hkl'
   exact (dh hK).2 (Or.inr (Option.some.inj hkl').symm)
 ·refine List.nodup_append.2 ⟨h.nd,by simp,fun a ha b hb=>?_⟩
  rw [List.mem_singleton.1 hb]
  rintro rfl
  have:=h.gone a kl ha hkl
  rw [hlk] at this;cases this
theorem nodup_fst {p:Nms} (h:p.Pairwise fun x y=>cd x.1<cd y.1):(p.map (·.1)).Nodup:=by
 rw [List.Nodup,List.pairwise_map]
 exact h.imp fun {x y} h1 e=>by rw [e] at h1;exact List.lt_irrefl _ h1
theorem ColL.whole {p:Nms} {T:List ByteArray→Bool} {D:DataW Value} {L:List (List ByteArray)} {left:Lit→Bool} (hp:NmOk p) (h:ColL p T D L left) (h0:∀kl,left kl=false):L.Perm ((p.filter fun x=>T x.1).map (·.1)):=by
 refine (List.perm_ext_iff_of_nodup h.nd (nodup_fst (hp.srt.sublist List.filter_sublist))).2 fun ks=>?_
 rw [List.mem_map]
 constructor
 ·intro hk
  obtain ⟨h1,h2⟩:=h.mem ks hk
  obtain ⟨x,hx,rfl⟩:=aE.1 h1
  exact ⟨x,List.mem_filter.2 ⟨hx,h2⟩,rfl⟩
 ·rintro ⟨x,hx,rfl⟩
  obtain ⟨h1,h2⟩:=List.mem_filter.1 hx
  obtain ⟨kl,hkl⟩:=dF (hp.ok x h1)
  exact h.all x.1 kl (hp.ok x h1) hkl (aE.2 ⟨x,h1,rfl⟩) h2 (h0 kl)
theorem eq {α:Type} {f:α→List UInt8}:∀ {A B:List α},A.Perm B→A.Pairwise (fun a b=>¬f b<f a)→B.Pairwise (fun a b=>f a<f b)→A=B:=by
 intro A
 induction A with
 | nil=>intro B h _ _;exact (List.nil_perm.1 h).symm
 | cons a A ih =>
  intro B h hA hB
  cases B with
  | nil=>exact absurd h.symm (by simp)
  | cons b B =>
   obtain ⟨a1,a2⟩:=List.pairwise_cons.1 hA
   obtain ⟨b1,b2⟩:=List.pairwise_cons.1 hB
   have hab:a=b:=by
    rcases List.mem_cons.1 (h.mem_iff.1 (List.mem_cons_self ..)) with h1|h1
    ·exact h1
    ·rcases List.mem_cons.1 (h.mem_iff.2 (List.mem_cons_self ..)) with h2|h2
     ·exact h2.symm
     ·exact absurd (b1 a h1) (a1 b h2)
   subst hab
   rw [ih ((List.perm_cons a).1 h) a2 b2]
theorem flat_getN {F:List ByteArray→List Value} {K:Nat} (hF:∀x,(F x).length=K) {L:List (List ByteArray)}:∀ {i:Nat} {ks:List ByteArray},L[i]?=some ks→∀j x,(F ks)[j]?=some x→(L.flatMap F)[i * K+j]?=some x:=by
 induction L with
 | nil=>intro i ks h;simp at h
 | cons y L ih =>
  intro i ks h j x hx
  have hjK:j<K:=by
   rcases Nat.lt_or_ge j K with h'|h'
   ·exact h'
   ·rw [List.getElem?_eq_none (by rw [hF];exact h')] at hx;cases hx
  rw [List.flatMap_cons]
  cases i with
  | zero =>
   simp only [List.getElem?_cons_zero,Option.some.injEq] at h
   subst h
   rw [Nat.zero_mul,Nat.zero_add,List.getElem?_append_left (by rw [hF];exact hjK)]
   exact hx
  | succ i =>
   rw [List.getElem?_append_right (by rw [hF,Nat.succ_mul];omega),hF,show (i+1) * K+j - K=i * K+j by rw [Nat.succ_mul];omega]
   exact ih (by simpa using h) j x hx
def PlN (B:Nat) (w:World) (v:Value) (L:List (List ByteArray)):Prop :=
 ∃p cap,v=.slice p L.length cap∧(0<L.length→∃b,p=some ⟨b,0,none⟩∧B≤b∧b<w.heap.size∧∀i ks,L[i]?=some ks→∀j x,(pvv ks)[j]?=some x→w.cell? ⟨b,i * 2+j,none⟩=some x)
open Go Go.RowKit Go.Maps
theorem under_n {w:World} {nb m c:Nat} {p:Nms} (h:NmAt w nb m c p) (hcc:c≤90000) (hM:MaxL w) {pl:List ByteArray} (hp:PlOk pl) :
  Calls Tryz.prog 46 #[.pointer (some ⟨nb,0,none⟩),.agg (pvv pl).toArray] w fun e w'=>∃v,e=.returned v∧PlN w.heap.size w' v ((undN p pl).map (·.1))∧Below w.heap.size w w':=by
 have hm:=Mem.start w
 have HM:Hid (MaxL w):=hM
 have HR:Hid (NmAt w nb m c p):=h
 have HP:Hid (∀_:Unit,PlOk pl):=fun _=>hp
 have HOK:Hid (NmOk p):=h.ok
 obtain ⟨q,hq,km⟩:=h.map
 have hmlt:=km.lt
 have hnlt:=Row.lt h.row
 have HKM:Hid (KM Tryz.prog 63 w m q (NmK p)):=km
 obtain ⟨T,hT⟩:∃T:List ByteArray→Bool,T=fun ks=>undB ks pl:=⟨_,rfl⟩
 have HT:Hid (∀ks,PlOk ks→∀W,MaxL W→Calls Tryz.prog 62 #[.agg (pvv ks).toArray,.agg (pvv pl).toArray] W fun e w'=>e=.returned (.bool (T ks))∧Below W.heap.size W w'):=fun ks hk W hW=>by rw [hT];exact isUnder_n hk hp W hW
 have HTN:Hid (∀_:Unit,(undN p pl)=p.filter fun x=>T x.1):=fun _=>by rw [hT];rfl
 clear h hp km hT hM
 go_enter Tryz.func46,Tryz.ntmps46
 go_wp2_with (first
  | ((with_reducible refine ab (some 3) (.box 63 (.tmp 1)) ?_);refine aU (pvv pl) rfl hm ?_;clear hm;intro w1 g3 hm)
  | ((with_reducible refine ab (some 10) (.load 67 (.tmp 9)) ?_);go_must (refine aa (.map (some m)) rfl (ad 0 (.map (some m)) ((HR.out.below hm.below).row) rfl cE rfl) ?_))
  | ((with_reducible refine ab (some 11) (.range 67 (.tmp 10)) ?_);go_must (refine ff (HKM.out.below hm.below) aQ bW rfl ?_);intro w2 r D hrg hD hb2 hr1 hr2))
 go_frame
 have hg3:g3<w1.heap.size:=Row.lt (hm.get 0 rfl)
 have hw1:=hm.size
 have hz2:=hb2.size
 have hgB:g3<w2.heap.size:=by omega
 have hrB:r<w2.heap.size:=hr2
 have hwr:w.heap.size≤r:=by omega
 have hgr:g3≠r:=by omega
 have hwB:w.heap.size≤w2.heap.size:=by omega
 have HDD:Hid (∀k kl,keyOf Tryz.prog 63 k=some kl→(Maps.has D kl=true↔∃v,NmK p k v)):=hD
 have HB2:Hid (Below w.heap.size w w2):=aD hm.below hm.size hb2
 have HROW:Hid (Row w2 g3 (pvv pl) 63):=Row.bel (hm.get 0 rfl) hb2
 have HM2:Hid (MaxL w2):=HM.out.below HB2.out
 have HU0:Hid (ColW w2 w2 r 63 2 pvv (.slice none 0 0) []∧ColL p T D [] (Maps.has D)∧w2.ranges Tryz.prog 63 rdV m r q D (Maps.has D) (Maps.size D)):=⟨⟨Upd.refl _ _,⟨rfl,Or.inl ⟨rfl,rfl⟩⟩⟩,ColL.start hD,hrg⟩
 have hr0:r≠0:=by have:=HM.out.lt0;omega
 clear hm hb2 hrg hD hg3 hw1 hr1 hr2 hz2
 go_loopw [5] (fun vx wr=>∃v L left cnt,v=vx∧L.length+cnt≤q∧Hid (ColW w2 wr r 63 2 pvv v L∧ColL p T D L left∧wr.ranges Tryz.prog 63 rdV m r q D left cnt)) (fun _ wr=>wr.rangeLeft m r)
 case atStart=>exact ⟨_,[],_,_,rfl,by have:=d9 HU0.out.2.2;simp only [List.length_nil];omega,HU0⟩
 case round =>
  obtain ⟨v,L,left,cnt,rfl,hlc,HU⟩:=hrel
  rcases World.ranges.next HU.out.2.2 aQ 0 with ⟨h0,hl0,hrun⟩|⟨key,vv,kl,y,w3,cnt',hkey,hlk,hv,hat,hrun,hrg1,hlt,hgr1,hsz,hen⟩
  ·have HRUN:Hid ((Instr.next (.pointer (some ⟨r,0,none⟩)) false 0).run Tryz.prog wr=.ok (.tuple #[.bool false]) wr):=hrun
   have HL0:Hid (∀kl,left kl=false):=hl0
   have HPERM:Hid (L.Perm ((undN p pl).map (·.1))):=by rw [HTN.out ()];exact HU.out.2.1.whole HOK.out hl0
   have HBW:Hid (Below w.heap.size w wr):=be HB2.out HU.out.1.upd hwr hwB
   clear hrun hl0
   rcases HU.out.1.own.2 with ⟨hv,hz⟩|⟨g,cap,cur,hv,hgb,hgc,r1,r2,r3,r4⟩
   ·subst hv
    have hL:L=[]:=List.length_eq_zero_iff.1 hz
    subst hL
    have HE:Hid (∀_:Unit,(undN p pl).map (·.1)=[]):=fun _=>(List.nil_perm.1 HPERM.out)
    go_wp2_with (first
     | ((with_reducible refine ab (some 12) (.next (.tmp 11) false) ?_);go_must (refine aC HRUN.out rfl ?_))
     | (go_at_call 63;refine (show Calls Tryz.prog 63 _ _ _ from AnyF.slices_SortFunc_none sortN none 0 _ _).mono ?_;rintro e w' ⟨he,hw⟩;subst he hw))
    go_ret
    exact ⟨_,rfl,⟨none,0,by rw [HE.out ()];rfl,fun h=>absurd h (by rw [HE.out ()];simp)⟩,HBW.out⟩
   ·subst hv
    have HSO:Hid (∀_:Unit,Calls Tryz.prog 63 #[.slice (some ⟨g,0,none⟩) L.length cap,.func (.func 64) #[] #[]] wr fun e w'=>e=.returned (.tuple #[])∧∃L':List (List ByteArray),L'.Perm L∧L'.Pairwise (fun x y=>¬cd y<cd x)∧(∀i ks,L'[i]?=some ks→∀j x,(pvv ks)[j]?=some x→w'.cell? ⟨g,i * 2+j,none⟩=some x)∧wr.grownBy w' (some g)):=fun _=>by
     refine sort_n L (fun ks hks=>?_) cur _ hgc (by omega) ?_ (fun i ks hi j x hx=>?_) (by omega)
     ·obtain ⟨x,hx,rfl⟩:=aE.1 (HU.out.2.1.mem ks hks).1
      exact HOK.out.ok x hx
     ·exact HM2.out.at0 (HU.out.1.upd.block 0 HM2.out.lt0 (fun e=>hr0 e.symm))
     ·have h1:=flat_getN pvv2 hi j x hx
      have h2:=World.ownsRow.cells HU.out.1.own rfl (i * 2+j) x h1
      rw [bn,Nat.zero_add] at h2
      exact h2
    obtain ⟨N,hN⟩:∃N,N=L.length:=⟨_,rfl⟩
    have HN9:Hid (∀_:Unit,N=L.length):=fun _=>hN
    rw [←hN] at HSO ⊢
    clear hN r1 r2 r3 r4 hgc
    go_wp2_with (first
     | ((with_reducible refine ab (some 12) (.next (.tmp 11) false) ?_);go_must (refine aC HRUN.out rfl ?_))
     | (go_at_call 63;refine (HSO.out ()).mono ?_;rintro e w' ⟨he,L',hp9,hs9,hc9,hg9⟩;subst he;have H9:Hid (L'.Perm L∧L'.Pairwise (fun x y=>¬cd y<cd x)∧(∀i ks,L'[i]?=some ks→∀j x,(pvv ks)[j]?=some x→w'.cell? ⟨g,i * 2+j,none⟩=some x)∧wr.grownBy w' (some g)):=⟨hp9,hs9,hc9,hg9⟩;clear hp9 hs9 hc9 hg9))
    go_ret
    obtain ⟨hp9,hs9,hc9,hg9⟩:=H9.out
    have hglt:=(World.ownsRow.lt HU.out.1.own g rfl).2
    have hLL:L'=(undN p pl).map (·.1):=eq (f:=cd) (hp9.trans HPERM.out) hs9 (by
     rw [List.pairwise_map]
     exact (HOK.out.und pl).srt)
    have hN8:N=((undN p pl).map (·.1)).length:=by rw [HN9.out (),HPERM.out.length_eq]
    refine ⟨.slice (some ⟨g,0,none⟩) N cap,rfl,⟨some ⟨g,0,none⟩,cap,by rw [←hN8],fun _=>⟨g,rfl,by omega,Nat.lt_of_lt_of_le hglt hg9.size,by rw [←hLL];exact hc9⟩⟩,?_⟩
    ·exact ⟨hg9.os.trans HBW.out.os,hg9.tape.trans HBW.out.tape,hg9.output.trans HBW.out.output,Nat.le_trans HBW.out.size hg9.size,fun k hk=>(hg9.block k (Nat.lt_of_lt_of_le hk HBW.out.size) (by simp;omega)).trans (HBW.out.block k hk)⟩
  ·obtain ⟨v0,x0,hx0,hke,_⟩:=(HDD.out key kl hkey).1 (HU.out.2.1.sub kl hlk)
   obtain ⟨ks,hks⟩:∃ks,ks=x0.1:=⟨_,rfl⟩
   rw [←hks] at hke
   subst hke
   have hk:PlOk ks:=by rw [hks];exact HOK.out.ok x0 hx0
   have HKS:Hid (∀_:Unit,PlOk ks):=fun _=>hk
   have HRUN:Hid ((Instr.next (.pointer (some ⟨r,0,none⟩)) false 0).run Tryz.prog wr=.ok (.tuple #[.bool true,.agg (pvv ks).toArray,vv]) w3):=hrun
   have HEN:Hid ((Instr.entry (.pointer (some ⟨r,0,none⟩))).run Tryz.prog w3=.ok (.tuple #[.agg (pvv ks).toArray,vv]) w3):=hen
   have HU1:Hid (ColW w2 w3 r 63 2 pvv v L):=HU.out.1.next hgr1 hrB
   have HRG:Hid (w3.ranges Tryz.prog 63 rdV m r q D (fun z=>left z && !z.sameKey kl) cnt'):=hrg1
   have HKEY:Hid (keyOf Tryz.prog 63 (.agg (pvv ks).toArray)=some kl∧left kl=true∧hasN p ks=true):=⟨hkey,hlk,aE.2 ⟨x0,hx0,hks.symm⟩⟩
   have HR3:Hid (Row w3 g3 (pvv pl) 63):=HU1.out.upd.row HROW.out hgr
   have HM3:Hid (MaxL w3):=HM2.out.at0 (HU1.out.upd.block 0 HM2.out.lt0 (fun e=>hr0 e.symm))
   obtain ⟨b,hb⟩:∃b,b=T ks:=⟨_,rfl⟩
   have HTK:Hid (∀W,MaxL W→Calls Tryz.prog 62 #[.agg (pvv ks).toArray,.agg (pvv pl).toArray] W fun e w'=>e=.returned (.bool b)∧Below W.heap.size W w'):=fun W hW=>by rw [hb];exact HT.out ks hk W hW
   have HTB:Hid (∀_:Unit,T ks=b):=fun _=>hb.symm
   have hm:=Mem.start w3
   clear hrun hen hgr1 hrg1 hkey hlk hk hv hat hsz hb hks hx0
   have hne:∀k,k<w2.heap.size→some k≠v.ownBlock:=fun k hk=>HU1.out.ne hk
   have HNE:Hid (∀k,k<w2.heap.size→some k≠v.ownBlock):=hne
   clear hne
   cases b with
   | true =>
    obtain ⟨N,hN⟩:∃N,N=L.length:=⟨_,rfl⟩
    have HN9:Hid (∀_:Unit,N=L.length):=fun _=>hN
    have hN9:N≤100000:=by omega
    clear hN
    go_wp2_with (first
     | ((with_reducible refine ab (some 12) (.next (.tmp 11) false) ?_);go_must (refine aC HRUN.out rfl ?_))
     | ((with_reducible refine ab (some 14) (.entry (.tmp 11)) ?_);go_must (refine aa (.tuple #[.agg (pvv ks).toArray,vv]) rfl (aN HEN.out rfl) ?_))
     | ((with_reducible refine ab (some 6) (.alloc 63) ?_);refine ae _ aL hm ?_;clear hm;intro w4 g6 hm)
     | ((with_reducible refine ab none (.store 63 (.tmp 6) (.tmp 15)) ?_);refine af 0 (pvv ks) hm rfl rfl rfl 2 au rfl rfl (aI _) ?_;clear hm;intro w5 hm)
     | ((with_reducible refine ab (some 16) (.load 63 (.tmp 6)) ?_);refine av 0 hm rfl rfl _ aH rfl 2 au (by rfl) ?_)
     | ((with_reducible refine ab (some 17) (.load 63 (.tmp 3)) ?_);go_must (refine aa (.agg (pvv pl).toArray) rfl (al 0 (pvv pl) (Row.bel HR3.out hm.below) rfl _ aH rfl 2 au (Nat.le_refl 2) rfl) ?_))
     | (go_at_call 62;refine (HTK.out _ (HM3.out.below hm.below)).mono ?_;rintro e w' ⟨he,hb⟩;subst he;replace hm:=hm.call hb;clear hb)
     | ((with_reducible refine ab (some 20) (.load 63 (.tmp 6)) ?_);refine av 0 hm rfl rfl _ aH rfl 2 au (by rfl) ?_)
     | ((with_reducible refine ab (some 21) (.buildSlice 87 1 #[(0,.tmp 20)]) ?_);go_must (refine wpl_bslP (pvv ks) rfl rfl rfl hm ?_);clear hm;intro w6 g8 hm hb8)
     | ((with_reducible refine ab (some 22) (.call {callee:=.builtin .append,args:=#[.tmp 19,.tmp 21],argTypes:=#[87,87]}) ?_);go_must (refine bg (.agg (pvv []).toArray) 2 32 rfl un_nps made_np rfl (by omega) (by omega) (n:=N) (cs:=L.flatMap pvv) (by rw [HN9.out ()];exact aq HU1.out.own hm.below) (Nat.le_trans HU1.out.upd.size hm.size) rfl rfl (hm.get 0 rfl) rfl (aI ks) hN9 ?_);intro v9 w9 ho9 hg9 hl9;have H9:Hid (w9.ownsRow w2.heap.size 63 2 v9 (N+1) (L.flatMap pvv++pvv ks)):=ho9;have HG9:Hid (World.grownBy _ w9 (Value.ownBlock v)):=hg9;clear ho9 hg9 hl9))
    go_roundw
    case rel =>
     exact ⟨v9,L++[ks],_,cnt',rfl,by rw [List.length_append];simp only [List.length_cons,List.length_nil];omega,⟨(HU1.out.below hm.below).app HG9.out (by rw [←HN9.out ()];exact H9.out),HU.out.2.1.more (HKS.out ()) HKEY.out.1 HKEY.out.2.2 HKEY.out.2.1 (HTB.out ()),((HRG.out.kept (an hm.below) (by simp) (by simp)).kept HG9.out (HNE.out m (by omega)) (HNE.out r (by omega)))⟩⟩
    case measure =>
     rw [((HRG.out.kept (an hm.below) (by simp) (by simp)).kept HG9.out (HNE.out m (by omega)) (HNE.out r (by omega))).left_eq,HU.out.2.2.left_eq]
     exact hlt
   | false =>
    go_wp2_with (first
     | ((with_reducible refine ab (some 12) (.next (.tmp 11) false) ?_);go_must (refine aC HRUN.out rfl ?_))
     | ((with_reducible refine ab (some 14) (.entry (.tmp 11)) ?_);go_must (refine aa (.tuple #[.agg (pvv ks).toArray,vv]) rfl (aN HEN.out rfl) ?_))
     | ((with_reducible refine ab (some 6) (.alloc 63) ?_);refine ae _ aL hm ?_;clear hm;intro w4 g6 hm)
     | ((with_reducible refine ab none (.store 63 (.tmp 6) (.tmp 15)) ?_);refine af 0 (pvv ks) hm rfl rfl rfl 2 au rfl rfl (aI _) ?_;clear hm;intro w5 hm)
     | ((with_reducible refine ab (some 16) (.load 63 (.tmp 6)) ?_);refine av 0 hm rfl rfl _ aH rfl 2 au (by rfl) ?_)
     | ((with_reducible refine ab (some 17) (.load 63 (.tmp 3)) ?_);go_must (refine aa (.agg (pvv pl).toArray) rfl (al 0 (pvv pl) (Row.bel HR3.out hm.below) rfl _ aH rfl 2 au (Nat.le_refl 2) rfl) ?_))
     | (go_at_call 62;refine (HTK.out _ (HM3.out.below hm.below)).mono ?_;rintro e w' ⟨he,hb⟩;subst he;replace hm:=hm.call hb;clear hb))
    go_roundw
    case rel =>
     exact ⟨v,L,_,cnt',rfl,by omega,⟨HU1.out.below hm.below,HU.out.2.1.skip (HKS.out ()) HKEY.out.1 (HTB.out ()),HRG.out.kept (an hm.below) (by simp) (by simp)⟩⟩
    case measure =>
     rw [(HRG.out.kept (an hm.below) (by simp) (by simp)).left_eq,HU.out.2.2.left_eq]
     exact hlt
open Go Go.RowKit Go.Maps Go.Sort
def StN (B:Nat) (w:World) (v:Value) (L:List ByteArray):Prop :=
 ∃p cap,v=.slice p L.length cap∧(0<L.length→∃b,p=some ⟨b,0,none⟩∧B≤b∧b<w.heap.size∧∀i x,L[i]?=some x→w.cell? ⟨b,i,none⟩=some (.string x))
theorem app_lt {A u v:List UInt8}:A++u<A++v↔u<v:=by
 induction A with
 | nil=>rfl
 | cons a A ih =>
  rw [List.cons_append,List.cons_append,List.cons_lt_cons_iff,ih]
  exact ⟨fun h=>h.elim (fun h=>absurd h (UInt8.lt_irrefl _)) (·.2),fun h=>Or.inr ⟨rfl,h⟩⟩
theorem end_lt:∀ {a b:List UInt8},0 ∉ a→0 ∉ b→a++[0]<b++[0]→a<b
 | [],[],_,_,h=>absurd h (List.lt_irrefl _)
 | [],_::_,_,_,_=>by simp
 | x::a,[],ha,_,h=>by
  rw [List.nil_append,List.cons_append,List.cons_lt_cons_iff] at h
  rcases h with h|h
  ·exact absurd h (by simp)
  ·exact absurd (by rw [h.1];exact List.mem_cons_self ..) ha
 | x::a,y::b,ha,hb,h=>by
  rw [List.cons_append,List.cons_append,List.cons_lt_cons_iff] at h
  rw [List.cons_lt_cons_iff]
  rcases h with h|h
  ·exact Or.inl h
  ·exact Or.inr ⟨h.1,end_lt (fun h=>ha (List.mem_cons_of_mem _ h)) (fun h=>hb (List.mem_cons_of_mem _ h)) h.2⟩
theorem cd_last {ks:List ByteArray} (h0:ks≠[]):cd ks=codeOf (ks.dropLast.map bs)++(bs (lastS ks)++[0]):=by
 conv=>lhs;rw [←dS h0]
 unfold cd
 rw [List.map_append,dA]
 rfl
theorem last0S {ks:List ByteArray} (h:PlOk ks) (h0:ks≠[]):0 ∉ bs (lastS ks):=by
 refine no0 h _ (List.mem_map.2 ⟨lastS ks,?_,rfl⟩)
 have h1:lastS ks∈ks.dropLast++[lastS ks]:=by simp
 rwa [dS h0] at h1
theorem kidsN_srt {p:Nms} (hp:NmOk p) (s:ByteArray):(kidsN p s).Pairwise fun x y=>bs x<bs y:=by
 unfold kidsN
 rw [List.pairwise_map]
 refine (hp.srt.sublist List.filter_sublist).imp_of_mem fun {x y} hx hy h=>?_
 obtain ⟨x1,x2⟩:=List.mem_filter.1 hx
 obtain ⟨y1,y2⟩:=List.mem_filter.1 hy
 simp only [Bool.and_eq_true,decide_eq_true_eq,Bool.not_eq_true',decide_eq_false_iff_not] at x2 y2
 have e:x.1.dropLast=y.1.dropLast:=tx_inj (hp.ok x x1).drop (hp.ok y y1).drop (x2.1.trans y2.1.symm)
 rw [cd_last x2.2,cd_last y2.2,e,app_lt] at h
 exact end_lt (last0S (hp.ok x x1) x2.2) (last0S (hp.ok y y1) y2.2) h
theorem sort_s {w:World} {g cap:Nat} (S:List ByteArray) (cur:Array Value) (e:TypeId) (hg:w.heap[g]?=some (.cells cur e (0,0))) (hc:∀i x,S[i]?=some x→w.cell? ⟨g,i,none⟩=some (.string x)) (hsz:S.length≤100000) (R:List ByteArray) (hR:S.Perm R) (hs:R.Pairwise fun x y=>bs x<bs y) :
  Calls Tryz.prog 60 #[.slice (some ⟨g,0,none⟩) S.length cap] w fun e w'=>e=.returned (.tuple #[])∧(∀i x,R[i]?=some x→w'.cell? ⟨g,i,none⟩=some (.string x))∧w.grownBy w' (some g):=by
 have hglt:g<w.heap.size:=(Array.getElem?_eq_some_iff.1 hg).1
 obtain ⟨ss,hss⟩:∃ss,ss=S.map bs:=⟨_,rfl⟩
 have hsl:ss.length=S.length:=by rw [hss,List.length_map]
 have hH:Holds encStr w g 0 ss.toArray:=by
  intro j hj
  have hj2:j<S.length:=by simpa [hsl] using hj
  refine ⟨?_,by simp [World.frozen?,hg]⟩
  rw [Nat.zero_add,hc j S[j] (by simp [hj2]),hss]
  simp only [encStr]
  congr 1
  simp [hj2,bs]
 have hcon:=AnyM.slices_Sort_string sortS g 0 cap ss w hH hglt (by omega)
 rw [hsl] at hcon
 refine Calls.mono (show Calls Tryz.prog 60 _ w _ from hcon) ?_
 rintro e' w' ⟨rfl,n,os,hw⟩
 obtain ⟨M,hM⟩:∃M,M=ss.mergeSort fun x y=>decide (x≤y):=⟨_,rfl⟩
 rw [←hM] at hw
 have hMp:M.Perm (R.map bs):=by
  rw [hM,hss]
  exact (List.mergeSort_perm _ _).trans (hR.map bs)
 have hMs:M.Pairwise fun x y=>¬y<x:=by
  rw [hM]
  refine (List.pairwise_mergeSort (le:=fun x y:List UInt8=>decide (x≤y)) (fun a b c h1 h2=>?_) (fun a b=>?_) ss).imp fun {x y} h=>?_
  ·rw [decide_eq_true_eq] at *
   exact List.le_trans h1 h2
  ·rw [Bool.or_eq_true,decide_eq_true_eq,decide_eq_true_eq]
   exact List.le_total a b
  ·exact List.not_lt.2 (of_decide_eq_true h)
 have hMR:M=R.map bs:=eq (f:=id) hMp hMs (by rw [List.pairwise_map];exact hs)
 have hMl:M.length=ss.length:=by rw [hMp.length_eq,List.length_map,hsl,hR.length_eq]
 have hH':Holds encStr w' g 0 M.toArray:=by
  rw [hw]
  refine holds_grow encStr _ os g 0 M.toArray (by rw [size_putRow];exact hglt) (holds_putRow encStr _ g 0 ss.toArray M.toArray (holds_ahead encStr w n g 0 _ hH) (by simpa using hMl))
 refine ⟨rfl,fun i x hx=>?_,?_⟩
 ·have hiR:i<R.length:=by
   rcases Nat.lt_or_ge i R.length with h'|h'
   ·exact h'
   ·rw [List.getElem?_eq_none h'] at hx;cases hx
  have h1:=(hH' i (by rw [hMR];simpa using hiR)).1
  rw [Nat.zero_add] at h1
  rw [h1,hMR]
  have e1:R[i]=x:=by simpa [hiR] using hx
  simp only [encStr]
  simp [hiR,e1,bs]
 ·rw [hw]
  refine ⟨rfl,rfl,rfl,?_,fun k hk hne=>?_⟩
  ·show w.heap.size≤((w.heap.modify g _)++os).size
   simp
  ·show ((w.heap.modify g _)++os)[k]?=w.heap[k]?
   rw [Array.getElem?_append_left (by simpa using hk),Array.getElem?_modify,if_neg (fun h=>hne (by rw [h]))]
def kT (s:ByteArray) (ks:List ByteArray):Bool:=decide (tx ks.dropLast=s) && !decide (ks=[])
def kF (ks:List ByteArray):List Value:=[.string (lastS ks)]
theorem kF1 (ks:List ByteArray):(kF ks).length=1:=rfl
end Go.Proofs.YtdmohffogfbnbaaGreatDoor
