import Derived.Test.YtlpnafdkhoimhaaGreatDoorQr44
set_option maxRecDepth 100000
set_option maxHeartbeats 4000000
namespace Go.Proofs.YtlpnafdkhoimhaaGreatDoor
open Go Go.RowKit Go.Sort Go.Maps
def opk:Nat→List ByteArray
 | 0=>[kA]
 | 1=>[kA,kB]
 | _=>[kC]
def opP:Nat→Pls
 | 0=>[]
 | i+1=>(opk i,((2 * i:Nat):Int))::opP i
def opK (root:List Int) (D:Nat→List Int):Nat→List Int
 | 0=>root
 | 1=>D 0
 | _=>root
def tO (root:List Int) (D:Nat→List Int):Nat→Slt
 | 0=>newS
 | i+1=>putS (tO root D i) (2 * i) (entN (tO root D i) (2 * i) (opK root D i) (D i))
theorem tO_puts (root:List Int) (D:Nat→List Int):∀i,(tO root D i).puts=i
 | 0=>rfl
 | i+1=>by show (tO root D i).puts+1=i+1;rw [tO_puts root D i]
theorem k_ac:¬kA=kC:=by intro h;have:=congrArg bs h;simp [bs,kA,kC] at this
theorem op_lk {i j:Nat} (hi:i<j) (hj:j≤3):lkp (opP j) (opk i)=some (2 * (i:Int)):=by
 have e:(i=0∧j=1)∨(i=0∧j=2)∨(i=1∧j=2)∨(i=0∧j=3)∨(i=1∧j=3)∨(i=2∧j=3):=by omega
 have h3:¬kC=kA:=fun e=>k_ac e.symm
 rcases e with ⟨rfl,rfl⟩|⟨rfl,rfl⟩|⟨rfl,rfl⟩|⟨rfl,rfl⟩|⟨rfl,rfl⟩|⟨rfl,rfl⟩
 ·simp [lkp,opP,opk]
 ·simp [lkp,opP,opk]
 ·simp [lkp,opP,opk]
 ·simp [lkp,opP,opk,h3]
 ·simp [lkp,opP,opk]
 ·simp [lkp,opP,opk]
theorem op_no {i:Nat} (hi:i<3):lkp (opP i) (opk i)=none:=by
 have e:i=0∨i=1∨i=2:=by omega
 have h2:=k_ac
 rcases e with rfl|rfl|rfl
 ·simp [lkp,opP,opk]
 ·simp [lkp,opP,opk]
 ·simp [lkp,opP,opk,h2]
theorem op_ne (i:Nat):opk i≠[]:=by
 match i with
 | 0=>exact fun h=>by cases h
 | 1=>exact fun h=>by cases h
 | _+2=>exact fun h=>by cases h
theorem op_up {i j:Nat} (hi:i<3) (hj:i≤j) (hj3:j≤3):hasB (opP j) (opk i).dropLast=true:=by
 have e:i=0∨i=1∨i=2:=by omega
 rcases e with rfl|rfl|rfl
 ·simp [hasB,opk]
 ·have h1:=op_lk (i:=0) (j:=j) (by omega) hj3
  have e2:(opk 1).dropLast=opk 0:=rfl
  rw [e2,hasB,h1];rfl
 ·simp [hasB,opk]
theorem op_vac {i:Nat} (hi:i<3):vacE (opP i) true (opk i)=0:=by
 have h1:hasB (opP i) (opk i)=false:=by rw [hasB,op_no hi];simp [op_ne i]
 unfold vacE
 rw [if_neg (by simp),if_neg (by simp [op_ne i]),if_neg (by rw [h1];simp),if_pos (op_up hi (Nat.le_refl _) (by omega))]
theorem op_has {i j:Nat} (hi:i<j) (hj:j≤3):hasB (opP j) (opk i)=true:=by rw [hasB,op_lk hi hj];rfl
theorem tO_get {root:List Int} {D:Nat→List Int} (hl:∀j,(D j).length=32) (hb:∀j,Bytes (D j)):∀i j,j<i→i≤3→getV (tO root D i).held (2 * (j:Int)) (opK root D j)=(D j,0)
 | 0,_,h,_=>absurd h (by omega)
 | i+1,j,h,h3=>by
  by_cases e:j=i
  ·subst e
   have:=ig (t:=tO root D j) (i:=2 * j) (by omega) (opK root D j) (D j) (hl j) (hb j)
   rw [show (2:Int) * (j:Int)=((2 * j:Nat):Int) by omega]
   exact this
  ·have h1:(tO root D (i+1)).held (2 * j)=(tO root D i).held (2 * j):=aN (tO root D i).held _ (show 2 * j≠2 * i by omega)
   rw [gF (2 * j) (by omega) h1]
   exact tO_get hl hb i j (by omega) (by omega)
theorem op_key {root:List Int} {D:Nat→List Int} (hl:∀j,(D j).length=32) (hb:∀j,Bytes (D j)) {i j n:Nat} (hi:i<j) (hj:j≤3) (hin:i<n) (hn:n≤3):keyR (tO root D n).held (opP j) root (opk i)=(D i,0):=by
 have e:i=0∨i=1∨i=2:=by omega
 rcases e with rfl|rfl|rfl
 ·exact iS (op_lk (i:=0) hi hj) (tO_get hl hb n 0 hin hn)
 ·exact keyR_two (op_lk (i:=0) (by omega) hj) (tO_get hl hb n 0 (by omega) hn) (op_lk (i:=1) hi hj) (tO_get hl hb n 1 hin hn)
 ·exact iS (op_lk (i:=2) hi hj) (tO_get hl hb n 2 hin hn)
theorem op_kek {root:List Int} {D:Nat→List Int} (hl:∀j,(D j).length=32) (hb:∀j,Bytes (D j)) {i:Nat} (hi:i<3):keyR (tO root D i).held (opP i) root (opk i).dropLast=(opK root D i,0):=by
 have e:i=0∨i=1∨i=2:=by omega
 rcases e with rfl|rfl|rfl
 ·exact f9 _ _ _
 ·exact op_key hl hb (i:=0) (j:=1) (n:=1) (by omega) (by omega) (by omega) (by omega)
 ·exact f9 _ _ _
open Go Go.RowKit Go.Sort Go.Maps
def opS:Nat→ByteArray
 | 0=>⟨#[97]⟩
 | 1=>⟨#[97,47,98]⟩
 | _=>⟨#[99]⟩
def opR:List Value:=[.string (opS 0),.string (opS 1),.string (opS 2)]
theorem ik {i:Nat} (h:i<3):segsB (opS i)=opk i:=by rcases lt3 h with rfl|rfl|rfl<;>rfl
theorem opS_is {i:Nat} (h:i<3):isP (bs (opS i))=true:=by rcases lt3 h with rfl|rfl|rfl<;>rfl
theorem fW {i:Nat} (h:i<3):(opS i).size≤1000:=by rcases lt3 h with rfl|rfl|rfl<;>decide
theorem iA {i:Nat} (h:i<3):opR[i]?=some (.string (opS i)):=by rcases lt3 h with rfl|rfl|rfl<;>rfl
theorem built_op:Tryz.prog.built 51 [(0,.string (opS 0)),(1,.string (opS 1)),(2,.string (opS 2))]=some opR.toArray:=by kernel_rfl
theorem opR_one:∀v∈opR,v.oneCell'=true:=by intro v hv;simp [opR] at hv;rcases hv with rfl|rfl|rfl<;>rfl
def Oe (w0 w:World) (g mb:Nat) (kv:Value) (sb hb rb m:Nat) (root:List Int) (D:Nat→List Int) (i:Nat) (rows:List (Nat×List Value×TypeId)):Prop :=
 ∃d,Rv w0 w g mb kv sb hb d (tO root D i) (1000+1000 * i) rb m i root (opP i) rows
structure Ob (w0 w:World) (g mb:Nat) (kv:Value) (sb hb rb m s2 h2:Nat) (root:List Int) (D:Nat→List Int) (d:Dk) (rows:List (Nat×List Value×TypeId)):Prop where
 sv:Sv w0 w g mb kv s2 h2 d (tO root D 3) 5000 rows
 rg:RgAt w rb m sb 3 root (opP 3)
 sl:SlAt w g mb kv sb hb d (tO root D 3)
 apr:∀r∈rows,r.1≠rb
 aps:∀r∈rows,r.1 ∉ footS g mb kv sb hb
def Obe (w0 w:World) (g mb:Nat) (kv:Value) (sb hb rb m s2 h2:Nat) (root:List Int) (D:Nat→List Int) (rows:List (Nat×List Value×TypeId)):Prop:=∃d,Ob w0 w g mb kv sb hb rb m s2 h2 root D d rows
structure Ow (w0 w:World) (g mb:Nat) (kv:Value) (sb hb rb m s2 h2 r2 m2:Nat) (root:List Int) (D:Nat→List Int) (i:Nat) (rows:List (Nat×List Value×TypeId)):Prop where
 ex:∃d,Rv w0 w g mb kv s2 h2 d (tO root D 3) 5000 r2 m2 i root (opP i) rows∧SlAt w g mb kv sb hb d (tO root D 3)
 rg:RgAt w rb m sb 3 root (opP 3)
 apr:∀r∈rows,r.1≠rb
 aps:∀r∈rows,r.1 ∉ footS g mb kv sb hb
 nm:rb≠m2∧m≠m2∧m2 ∉ footS g mb kv sb hb
section
variable {w0 w w':World} {g mb:Nat} {kv:Value} {sb hb rb m s2 h2 r2 m2:Nat} {root:List Int} {D:Nat→List Int} {i:Nat} {rows:List (Nat×List Value×TypeId)}
theorem Oe.below (h:Oe w0 w g mb kv sb hb rb m root D i rows) (hbb:Below w.heap.size w w'):Oe w0 w' g mb kv sb hb rb m root D i rows:=by
 obtain ⟨d,h1⟩:=h
 exact ⟨d,h1.below hbb⟩
theorem Oe.mem (h:Oe w0 w g mb kv sb hb rb m root D i rows):Mem w0 [] w rows:=by
 obtain ⟨d,h1⟩:=h
 exact h1.sv.mem
theorem oe_create (h:Oe w0 w g mb kv sb hb rb m root D i rows) (ht:Tab w0) (hq:QTab w0) (hM:MaxL w0) (hi:i<3) (hl:∀j,(D j).length=32) (hb9:∀j,Bytes (D j)) (s:ByteArray) (hs:s=opS i) (X:List Int) (hX:X=D i) (z:Int) (hz:z=2 * (i:Int)) :
  Calls Tryz.prog 14 #[.pointer (some ⟨rb,0,none⟩),.string s,.int .i64 z,.agg (u8s X).toArray] w fun e w'=>e=.returned (.int .i64 0)∧Oe w0 w' g mb kv sb hb rb m root D (i+1) rows:=by
 obtain ⟨d,h1⟩:=h
 subst hs hX hz
 have hv:vacE (opP i) (isP (bs (opS i))) (segsB (opS i))=0:=by rw [opS_is hi,ik hi];exact op_vac hi
 have:=gm h1 ht hq hM (by omega) (by rw [tO_puts];omega) (by omega) (opS i) (fW hi) hv (2 * i) (by omega) (opK root D i) (by rw [ik hi];exact op_kek hl hb9 hi) (D i) (hl i) (hb9 i) _ rfl
 rw [ik hi] at this
 rw [show (2:Int) * (i:Int)=((2 * i:Nat):Int) by omega]
 refine this.mono (fun e w' hh=>?_)
 obtain ⟨he,d',hr⟩:=hh
 exact ⟨he,d',hr⟩
theorem oe_crash (h:Oe w0 w g mb kv sb hb rb m root D i rows) (cs:List Int) (vc:Value) (hcb:Bytes cs) (hs:SlOld w0 vc cs) :
  Calls Tryz.prog 20 #[.pointer (some ⟨g,0,none⟩),vc] w fun e w'=>e=.returned (.tuple #[])∧Oe w0 w' g mb kv sb hb rb m root D i rows:=by
 obtain ⟨d,h1⟩:=h
 refine (crash_v h1.sv cs vc hcb (h1.sv.old hs)).mono (fun e w' hh=>?_)
 obtain ⟨he,h2,hu⟩:=hh
 exact ⟨he,_,h1.turn h2 (hu.mono (fun q hq=>by simp [footS,hq]))⟩
theorem oe_open (h:Oe w0 w g mb kv sb hb rb m root D 3 rows) (ht:Tab w0) :
  Calls Tryz.prog 21 #[.pointer (some ⟨g,0,none⟩)] w fun e w'=>∃s2 h2,e=.returned (.tuple #[.pointer (some ⟨s2,0,none⟩),.int .i64 0])∧Obe w0 w' g mb kv sb hb rb m s2 h2 root D rows:=by
 obtain ⟨d,hr⟩:=h
 have h:=hr.sv
 have e1:=inv_load h.inv
 refine (openS_any g mb kv d 4000 h.cm.off h.cm.left h.inv.n h.inv.n2 h.cm.nm (by omega) (by rw [e1];exact h.inv.ok) (fun q hq=>h.at_.two q (by simp [footS,hq])) w (h.tab ht) h.at_.dk).mono ?_
 rintro e w' ⟨s2,h2,rfl,ha,hs,hh,hu⟩
 rw [e1,inv_open h.inv] at ha
 refine ⟨s2,h2,rfl,d,h.again ha h.inv (h.cm.mono (by omega)) hs hh hu,?_,h.at_.disk ha.dk hu,hr.ap,h.apart⟩
 obtain ⟨q9,_,km⟩:=hr.rg.map
 exact hr.rg.keep (hu.block rb (Row.lt hr.rg.row) (fun hf=>hr.ar (by simp [footS,hf]))) (hu.block m km.lt (fun hf=>hr.am (by simp [footS,hf])))
theorem Obe.mem (h:Obe w0 w g mb kv sb hb rb m s2 h2 root D rows):Mem w0 [] w rows:=by
 obtain ⟨d,h1⟩:=h
 exact h1.sv.mem
theorem Obe.below (h:Obe w0 w g mb kv sb hb rb m s2 h2 root D rows) (hbb:Below w.heap.size w w'):Obe w0 w' g mb kv sb hb rb m s2 h2 root D rows:=by
 obtain ⟨d,h1⟩:=h
 exact ⟨d,h1.sv.below hbb,h1.rg.below hbb,h1.sl.below hbb,h1.apr,h1.aps⟩
theorem ob_new (h:Obe w0 w g mb kv sb hb rb m s2 h2 root D rows) (hl:root.length=32) (hb9:Bytes root) :
  Calls Tryz.prog 19 #[.agg (u8s root).toArray,.pointer (some ⟨s2,0,none⟩)] w fun e w'=>∃r2 m2,e=.returned (.pointer (some ⟨r2,0,none⟩))∧Ow w0 w' g mb kv sb hb rb m s2 h2 r2 m2 root D 0 rows:=by
 obtain ⟨d,h1⟩:=h
 refine (newR_r root hl hb9 s2 w).mono ?_
 rintro e w' ⟨r2,m2,rfl,hrg,hr2,hm2,hb4⟩
 have hsz:=h1.sv.mem.size
 obtain ⟨q9,_,km⟩:=h1.rg.map
 have hk:=km.lt
 have hrb:=Row.lt h1.rg.row
 refine ⟨r2,m2,rfl,⟨d,⟨h1.sv.below hb4,hrg,Nat.le_trans hsz hr2,Nat.le_trans hsz hm2,fun hf=>(by have:=cT h1.sv.at_ _ hf;omega),fun hf=>(by have:=cT h1.sv.at_ _ hf;omega),fun r hr=>?_⟩,h1.sl.below hb4⟩,h1.rg.below hb4,h1.apr,h1.aps,by omega,by omega,fun hf=>?_⟩
 ·have:=Row.lt (h1.sv.mem.row r hr);omega
 ·have:=cT h1.sl _ hf;omega
theorem Ow.below (h:Ow w0 w g mb kv sb hb rb m s2 h2 r2 m2 root D i rows) (hbb:Below w.heap.size w w'):Ow w0 w' g mb kv sb hb rb m s2 h2 r2 m2 root D i rows:=by
 obtain ⟨d,h1,h2⟩:=h.ex
 exact ⟨⟨d,h1.below hbb,h2.below hbb⟩,h.rg.below hbb,h.apr,h.aps,h.nm⟩
theorem Ow.mem (h:Ow w0 w g mb kv sb hb rb m s2 h2 r2 m2 root D i rows):Mem w0 [] w rows:=by
 obtain ⟨d,h1,h2⟩:=h.ex
 exact h1.sv.mem
theorem Ow.tail {r:Nat×List Value×TypeId} (h:Ow w0 w g mb kv sb hb rb m s2 h2 r2 m2 root D i (r::rows)):Ow w0 w g mb kv sb hb rb m s2 h2 r2 m2 root D i rows:=by
 obtain ⟨d,h1,h2⟩:=h.ex
 exact ⟨⟨d,h1.tail,h2⟩,h.rg,fun q hq=>h.apr q (List.mem_cons_of_mem _ hq),fun q hq=>h.aps q (List.mem_cons_of_mem _ hq),h.nm⟩
theorem Ow.add (h:Ow w0 w g mb kv sb hb rb m s2 h2 r2 m2 root D i rows) {q:Nat} {l:List Value} {ty:TypeId} (hbb:Below w.heap.size w w') (hr:Row w' q l ty) (hq:w.heap.size≤q):Ow w0 w' g mb kv sb hb rb m s2 h2 r2 m2 root D i ((q,l,ty)::rows):=by
 obtain ⟨d,h1,h2⟩:=h.ex
 have h3:=Row.lt h.rg.row
 refine ⟨⟨d,h1.add hbb hr hq,h2.below hbb⟩,h.rg.below hbb,fun r hr=>?_,fun r hr hf=>?_,h.nm⟩
 ·rcases List.mem_cons.1 hr with rfl|hr
  ·show q≠rb;omega
  ·exact h.apr r hr
 ·rcases List.mem_cons.1 hr with rfl|hr
  ·have:=cT h2 _ hf
   simp at this
   omega
  ·exact h.aps r hr hf
theorem Ow.updR (h:Ow w0 w g mb kv sb hb rb m s2 h2 r2 m2 root D i rows) (j:Nat) {q:Nat} {l l':List Value} {ty:TypeId} (hj:rows[j]?=some (q,l,ty)) (hu:Upd q w w') (hr:Row w' q l' ty):Ow w0 w' g mb kv sb hb rb m s2 h2 r2 m2 root D i (rows.set j (q,l',ty)):=by
 obtain ⟨d,h1,h2⟩:=h.ex
 have hmem:(q,l,ty)∈rows:=List.mem_of_getElem? hj
 obtain ⟨q9,_,km⟩:=h.rg.map
 obtain ⟨es,cc,hmap⟩:=km.isMap
 have hqm:q≠m:=b6 (h1.sv.mem.row _ hmem) hmap
 have hqr:=h.apr _ hmem
 have hqf:=h.aps _ hmem
 refine ⟨⟨d,h1.updR j hj hu hr,h2.keep (fun x hx=>hu.block x (cT h2 x hx) (fun e=>hqf (e▸hx)))⟩,h.rg.keep (hu.block rb (Row.lt h.rg.row) (fun e=>hqr e.symm)) (hu.block m km.lt (fun e=>hqm e.symm)),fun r hr=>?_,fun r hr=>?_,h.nm⟩
 ·rcases List.mem_or_eq_of_mem_set hr with hr|rfl
  ·exact h.apr r hr
  ·exact hqr
 ·rcases List.mem_or_eq_of_mem_set hr with hr|rfl
  ·exact h.aps r hr
  ·exact hqf
theorem ow_attach (h:Ow w0 w g mb kv sb hb rb m s2 h2 r2 m2 root D i rows) (hM:MaxL w0) (hi:i<3) (s:ByteArray) (hs:s=opS i) (z:Int) (hz:z=2 * (i:Int)) :
  Calls Tryz.prog 16 #[.pointer (some ⟨r2,0,none⟩),.string s,.int .i64 z] w fun e w'=>e=.returned (.int .i64 0)∧Ow w0 w' g mb kv sb hb rb m s2 h2 r2 m2 root D (i+1) rows:=by
 obtain ⟨d,h1,h2⟩:=h.ex
 subst hs hz
 have hv:vacE (opP i) (isP (bs (opS i))) (opk i)=0:=by rw [opS_is hi];exact op_vac hi
 refine (lk h1.rg (by omega) (opS i) (fW hi) (h1.maxl hM) (2 * (i:Int)) (opk i) (ik hi).symm 0 hv.symm).mono (fun e w' hh=>?_)
 obtain ⟨he,hr,hu⟩:=hh
 rw [if_pos rfl,show (2:Int) * (i:Int)=((2 * i:Nat):Int) by omega] at hr
 obtain ⟨q9,_,km⟩:=h.rg.map
 obtain ⟨n1,n2,n3⟩:=h.nm
 refine ⟨he,⟨d,h1.updM hu hr,h2.keep (fun x hx=>hu.block x (cT h2 x hx) ?_)⟩,h.rg.keep (hu.block rb (Row.lt h.rg.row) (by simpa using n1)) (hu.block m km.lt (by simpa using n2)),h.apr,h.aps,h.nm⟩
 simp only [List.mem_singleton]
 rintro rfl
 exact n3 hx
theorem op_keyV {held:Nat→Option Ent} {j:Nat} {X:List Int} (hi:i<j) (hj:j≤3) (hk:keyR held (opP j) root (opk i)=(X,0)):keyV held (opP j) root (isP (bs (opS i))) (segsB (opS i))=(X,0):=by
 rw [opS_is (by omega),ik (by omega)]
 unfold keyV
 rw [if_neg (by simp),if_neg (by rw [op_has hi hj];simp)]
 exact hk
theorem ow_key (h:Ow w0 w g mb kv sb hb rb m s2 h2 r2 m2 root D (i+1) rows) (ht:Tab w0) (hq:QTab w0) (hM:MaxL w0) (hi:i<3) (hl:∀j,(D j).length=32) (hb9:∀j,Bytes (D j)) (s:ByteArray) (hs:s=opS i) (X:List Int) (hX:X=D i) :
  Calls Tryz.prog 12 #[.pointer (some ⟨r2,0,none⟩),.string s] w fun e w'=>e=.returned (.tuple #[.agg (u8s X).toArray,.int .i64 0])∧Ow w0 w' g mb kv sb hb rb m s2 h2 r2 m2 root D (i+1) rows:=by
 obtain ⟨d,h1,h2⟩:=h.ex
 subst hs hX
 refine (key_r h1.rg h1.sv.at_ (h1.sv.tab ht) (h1.sv.qtab hq) (opS i) (fW hi) (h1.maxl hM) (segsB (opS i)) rfl (D i) 0 (op_keyV (by omega) (by omega) (op_key hl hb9 (by omega) (by omega) hi (Nat.le_refl _)))).mono (fun e w' hh=>?_)
 exact ⟨hh.1,h.below hh.2⟩
theorem ow_mount (h:Ow w0 w g mb kv sb hb rb m s2 h2 r2 m2 root D (i+1) rows) (ht:Tab w0) (hq:QTab w0) (hM:MaxL w0) (hi:i<3) (hl:∀j,(D j).length=32) (hb9:∀j,Bytes (D j)) (s:ByteArray) (hs:s=opS i) (mt:ByteArray) (hmt:mt.size≤1000) (Y:List Int) (hY:Y=mntOf (D i) mt) :
  Calls Tryz.prog 22 #[.pointer (some ⟨r2,0,none⟩),.string s,.string mt] w fun e w'=>e=.returned (.tuple #[.agg (u8s Y).toArray,.int .i64 0])∧Ow w0 w' g mb kv sb hb rb m s2 h2 r2 m2 root D (i+1) rows:=by
 obtain ⟨d,h1,h2⟩:=h.ex
 subst hs
 refine (mount_r h1.rg h1.sv.at_ (h1.sv.tab ht) (h1.sv.qtab hq) (opS i) (fW hi) (h1.maxl hM) mt hmt (segsB (opS i)) rfl (D i) 0 (op_keyV (by omega) (by omega) (op_key hl hb9 (by omega) (by omega) hi (Nat.le_refl _))) (hl i) (hb9 i) Y (by rw [if_pos rfl];exact hY)).mono (fun e w' hh=>?_)
 exact ⟨hh.1,h.below hh.2⟩
theorem ow_mount1 (h:Ow w0 w g mb kv sb hb rb m s2 h2 r2 m2 root D (i+1) rows) (ht:Tab w0) (hq:QTab w0) (hM:MaxL w0) (hi:i<3) (hl:∀j,(D j).length=32) (hb9:∀j,Bytes (D j)) (s:ByteArray) (hs:s=opS i) (mt:ByteArray) (hmt:mt.size≤1000) (Y:List Int) (hY:Y=mntOf (D i) mt) :
  Calls Tryz.prog 22 #[.pointer (some ⟨rb,0,none⟩),.string s,.string mt] w fun e w'=>e=.returned (.tuple #[.agg (u8s Y).toArray,.int .i64 0])∧Ow w0 w' g mb kv sb hb rb m s2 h2 r2 m2 root D (i+1) rows:=by
 obtain ⟨d,h1,h2⟩:=h.ex
 subst hs
 refine (mount_r h.rg h2 (h1.sv.tab ht) (h1.sv.qtab hq) (opS i) (fW hi) (h1.maxl hM) mt hmt (segsB (opS i)) rfl (D i) 0 (op_keyV hi (Nat.le_refl _) (op_key hl hb9 hi (Nat.le_refl _) hi (Nat.le_refl _))) (hl i) (hb9 i) Y (by rw [if_pos rfl];exact hY)).mono (fun e w' hh=>?_)
 exact ⟨hh.1,h.below hh.2⟩
end
open Go Go.RowKit Go.Sort Go.Maps
theorem opens_walk (dd root:List Int) (ch:List Int) (pc:Option Addr) (nc cc:Nat) (hdl:dd.length=96) (hdb:Bytes dd) (hrl:root.length=32) (hrb9:Bytes root) (hcb:Bytes ch) (w:World) (hc:SlOld w (.slice pc nc cc) ch) (ht:Tab w) (hq:QTab w) (hM:MaxL w) :
  Calls Tryz.prog 5 #[.agg (u8s dd).toArray,.agg (u8s root).toArray,.slice pc nc cc] w fun e w'=>e=.returned (.bool true)∧Below w.heap.size w w':=by
 have HT:Hid (Tab w):=ht
 have HQ:Hid (QTab w):=hq
 have HX:Hid (MaxL w):=hM
 have hm:=Mem.start w
 have HDL:Hid (∀_:Unit,dd.length=96):=fun _=>hdl
 have HKL:Hid (∀(_:Unit) j,(keyI dd j).length=32):=fun _ j=>jC hdl j
 have HKB:Hid (∀j,Bytes (keyI dd j)):=ln hdb
 have HRL:Hid (∀_:Unit,root.length=32):=fun _=>hrl
 have HRB:Hid (Bytes root):=hrb9
 have HC:Hid (SlOld w (.slice pc nc cc) ch):=hc
 have HCB:Hid (Bytes ch):=hcb
 clear ht hq hM hdl hdb hrl hrb9 hc hcb
 by_cases hbig:20<nc
 ·have hb1:decide ((20:Int)<(nc:Int))=true:=decide_eq_true (by omega)
  have hb2:(20:Int)<(nc:Int):=by omega
  clear hbig
  go_enter Tryz.func5,Tryz.ntmps5
  go_wp2_with (first
   | ((with_reducible refine ae (some 3) (.box 50 (.tmp 0)) ?_);go_must (refine az (u8s dd) rfl hm ?_);clear hm;intro wx3 q3 hm)
   | ((with_reducible refine ae (some 4) (.box 43 (.tmp 1)) ?_);go_must (refine az (u8s root) rfl hm ?_);clear hm;intro wx4 q4 hm)
   | (go_at_call 8;refine (cQ _ (Tab.mem HT.out hm (by simp)) (QTab.mem HQ.out hm (by simp)) (HX.out.below hm.below)).mono ?_;rintro e w1 ⟨rfl,hb1⟩;replace hm:=hm.call hb1;clear hb1;have HT1:Hid (Tab w1):=Tab.mem HT.out hm (by simp);have HQ1:Hid (QTab w1):=QTab.mem HQ.out hm (by simp);have HX1:Hid (MaxL w1):=HX.out.below hm.below;have HBW:Hid (Below w.heap.size w w1):=hm.below;have HR3:Hid (Row w1 q3 (u8s dd) 50):=hm.get 1 rfl;have HR4:Hid (Row w1 q4 (u8s root) 43):=hm.get 0 rfl;have HC1:Hid (SlOld w1 (.slice pc nc cc) ch):=HC.out.below hm.below;clear hm;have hm:=Mem.start w1;clear HT HQ HX))
  go_ret
  exact ⟨rfl,HBW.out⟩
 ·have hb1:decide ((20:Int)<(nc:Int))=false:=decide_eq_false (by omega)
  have hb2:¬(20:Int)<(nc:Int):=by omega
  clear hbig
  go_enter Tryz.func5,Tryz.ntmps5
  go_wp2_with (first
   | ((with_reducible refine ae (some 3) (.box 50 (.tmp 0)) ?_);go_must (refine az (u8s dd) rfl hm ?_);clear hm;intro wx3 q3 hm)
   | ((with_reducible refine ae (some 4) (.box 43 (.tmp 1)) ?_);go_must (refine az (u8s root) rfl hm ?_);clear hm;intro wx4 q4 hm)
   | (go_at_call 8;refine (cQ _ (Tab.mem HT.out hm (by simp)) (QTab.mem HQ.out hm (by simp)) (HX.out.below hm.below)).mono ?_;rintro e w1 ⟨rfl,hb1⟩;replace hm:=hm.call hb1;clear hb1;have HT1:Hid (Tab w1):=Tab.mem HT.out hm (by simp);have HQ1:Hid (QTab w1):=QTab.mem HQ.out hm (by simp);have HX1:Hid (MaxL w1):=HX.out.below hm.below;have HBW:Hid (Below w.heap.size w w1):=hm.below;have HR3:Hid (Row w1 q3 (u8s dd) 50):=hm.get 1 rfl;have HR4:Hid (Row w1 q4 (u8s root) 43):=hm.get 0 rfl;have HC1:Hid (SlOld w1 (.slice pc nc cc) ch):=HC.out.below hm.below;clear hm;have hm:=Mem.start w1;clear HT HQ HX)
   | (go_at_call 17;go_must (refine (new_anyD 64 _).mono ?_);rintro e w2 ⟨g,rfl,mb,kv,hd,hf,hb1⟩;rw [clamp64] at hd;have HD:Hid (DkAt w2 g mb kv (Dk.new 64)):=hd;have HF:Hid (∀q∈foot g mb kv,w1.heap.size≤q):=fun q hq=>Nat.le_trans hm.size (hf q hq);replace hm:=hm.call hb1;clear hd hf hb1)
   | (go_at_call 18;go_must (refine (make_new (by omega) (by omega) hm HD.out HF.out (by simp) HT1.out HQ1.out).mono ?_);rintro e w3 ⟨sb,hb,rfl,st,_,_,_⟩;obtain ⟨d0,hd0⟩:∃x,x=makeD (Dk.new 64):=⟨_,rfl⟩;rw [←hd0] at st;clear hd0 hm HD HF)
   | ((with_reducible refine ae (some 36) (.build 51 #[(0,.const (.string {data:=#[97]})),(1,.const (.string {data:=#[97,47,98]})),(2,.const (.string {data:=#[99]}))]) ?_);go_must (refine ay opR [(0,.string (opS 0)),(1,.string (opS 1)),(2,.string (opS 2))] rfl built_op ?_))
   | ((with_reducible refine ae (some 10) (.alloc 51) ?_);go_must (refine aY _ zero_s3 ?_);intro wa q10 hba hqa hra;replace st:=st.add hba hra hqa;clear hba hqa hra)
   | ((with_reducible refine ae none (.store 51 (.tmp 10) (.tmp 36)) ?_);go_must (refine bH opR (st.mem.get 0 rfl) rfl rfl 3 sz_s3 rfl rfl opR_one ?_);intro wb hub hrb;replace st:=st.upd 0 rfl hub hrb;clear hub hrb)
   | ((with_reducible refine ae (some 37) (.load 43 (.tmp 4)) ?_);go_must (refine aj (.agg (u8s root).toArray) rfl (au 0 (u8s root) (Row.bel HR4.out st.mem.below) rfl _ aw rfl 32 aq (by rw [aa,HRL.out ()];omega) (by rw [List.drop_zero,List.take_of_length_le (by rw [aa,HRL.out ()];omega)])) ?_))
   | (go_at_call 19;go_must (refine (newR_r root (HRL.out ()) HRB.out sb _).mono ?_);rintro e w4 ⟨rb,m,rfl,hrg,hrb,hmm,hb4⟩;have HST:Hid (Oe w1 w4 g mb kv sb hb rb m root (keyI dd) 0 [(q10,opR,51)]):=⟨d0,st.below hb4,hrg,Nat.le_trans st.mem.size hrb,Nat.le_trans st.mem.size hmm,fun hf=>(by have:=cT st.at_ _ hf;omega),fun hf=>(by have:=cT st.at_ _ hf;omega),fun r hr=>(by have:=Row.lt (st.mem.row r hr);omega)⟩;clear hrg hrb hmm hb4 st;have st:=HST.out;clear HST))
  go_loopw [12] (fun vi wr=>∃i:Nat,i≤3∧vi=.int .i64 (i:Int)∧Hid (Oe w1 wr g mb kv sb hb rb m root (keyI dd) i [(q10,opR,51)])) (fun vi _=>match vi with | .int _ q=>3 - q.toNat|_=>0)
  case atStart=>exact ⟨0,by omega,rfl,st⟩
  case round =>
   clear st
   obtain ⟨i,hi,rfl,HST⟩:=hrel
   have st:=HST.out
   clear HST
   by_cases hi3:i<3
   ·have hli:(i:Int)<3:=by omega
    have hw:IntKind.i64.wrap ((i:Int)+1)=(i:Int)+1:=dt _ (by omega) (by omega)
    have hw2:IntKind.i64.wrap (2 * (i:Int))=2 * (i:Int):=dt _ (by omega) (by omega)
    obtain ⟨X,hX⟩:∃X,X=keyI dd i:=⟨_,rfl⟩
    have HXX:Hid (∀_:Unit,X=keyI dd i):=fun _=>hX
    have HXL:Hid (∀_:Unit,X.length=32):=fun _=>by rw [hX];exact HKL.out () i
    have HDC:Hid (∀_:Unit,((u8s dd).drop (i * 32)).take 32=u8s X):=fun _=>by rw [hX];exact fx hi3
    clear hX
    go_wp2_with fail
    refine aA ?_
    refine aC (T:=fun W=>(Row W q10 opR 51∧Row W q3 (u8s dd) 50)) (by kernel_rfl) st.mem ?_
    intro wz hbz hmz
    replace st:=st.below hbz
    have HTW:Hid (Row wz q10 opR 51∧Row wz q3 (u8s dd) 50):=⟨st.mem.get 0 rfl,Row.bel HR3.out st.mem.below⟩
    clear hbz hmz
    refine aT 0 (v:=.pointer (some ⟨rb,0,none⟩)) rfl (by kernel_rfl) rfl (fun W _=>by go_simp) HTW.out ?_
    go_simp
    refine aT 1 (v:=.int .i64 (i:Int)) rfl (by kernel_rfl) rfl (fun W _=>by go_simp) HTW.out ?_
    go_simp
    refine aT 2 (v:=.pointer (some ⟨q10,i,none⟩)) rfl (by kernel_rfl) rfl (fun W _=>cN i rfl rfl rfl hi3) HTW.out ?_
    go_simp
    refine aT 3 (v:=.string (opS i)) rfl (by kernel_rfl) rfl (fun W hW=>aK i (.string (opS i)) hW.1 rfl dx (iA hi3)) HTW.out ?_
    go_simp
    refine aT 4 (v:=.int .i64 (i:Int)) rfl (by kernel_rfl) rfl (fun W _=>by go_simp) HTW.out ?_
    go_simp
    refine aT 5 (v:=.int .i64 (2 * (i:Int))) rfl (by kernel_rfl) rfl (fun W _=>by go_simp) HTW.out ?_
    go_simp
    refine aT 6 (v:=.int .i64 (i:Int)) rfl (by kernel_rfl) rfl (fun W _=>by go_simp) HTW.out ?_
    go_simp
    refine aT 7 (v:=.pointer (some ⟨q3,i * 32,none⟩)) rfl (by kernel_rfl) rfl (fun W _=>iE i rfl rfl rfl hi3) HTW.out ?_
    go_simp
    refine aT 8 (v:=.agg (u8s X).toArray) rfl (by kernel_rfl) rfl (fun W hW=>au (i * 32) (u8s X) hW.2 rfl _ aw rfl 32 aq (by rw [aa,HDL.out ()];omega) (HDC.out ())) HTW.out ?_
    go_simp
    refine aO 9 (by kernel_rfl) rfl rfl ?_
    intro K hK
    go_wp2_with ((go_at_call 14;go_must (refine (oe_create st HT1.out HQ1.out HX1.out hi3 (fun j=>HKL.out () j) HKB.out (opS i) rfl X (HXX.out ()) _ rfl).mono ?_);rintro e wc ⟨rfl,st9⟩;have HTW':Hid (Row wc q10 opR 51∧Row wc q3 (u8s dd) 50):=⟨st9.mem.get 0 rfl,Row.bel HR3.out st9.mem.below⟩;clear HTW;have HTW:=HTW';clear HTW';replace st:=st9;clear st9))
    refine hK _ _ HTW.out ?_
    clear hK K
    go_simp
    refine aT 10 (v:=.bool false) rfl (by kernel_rfl) rfl (fun W _=>by go_simp) HTW.out ?_
    go_simp
    refine wpAnyH_done (by kernel_rfl) ?_ _
    simp only [endsIn]
    clear HTW
    go_wp2_with fail
    go_roundw
    case rel=>exact ⟨i+1,by omega,by go_num,st⟩
    case measure=>show 3 - ((i:Int)+1).toNat<3 - (i:Int).toNat;omega
   ·have hin:3=i:=by omega
    have hli:¬(i:Int)<3:=by omega
    subst hin
    clear hi3 hi
    go_wp2_with (first
     | (go_at_call 20;go_must (refine (oe_crash st ch _ HCB.out HC1.out).mono ?_);rintro e wc ⟨rfl,st9⟩;replace st:=st9;clear st9)
     | (go_at_call 21;go_must (refine (oe_open st HT1.out).mono ?_);rintro e wo ⟨s2,h2,rfl,st9⟩;replace st:=st9;clear st9)
     | ((with_reducible refine ae (some 65) (.load 43 (.tmp 4)) ?_);go_must (refine aj (.agg (u8s root).toArray) rfl (au 0 (u8s root) (Row.bel HR4.out st.mem.below) rfl _ aw rfl 32 aq (by rw [aa,HRL.out ()];omega) (by rw [List.drop_zero,List.take_of_length_le (by rw [aa,HRL.out ()];omega)])) ?_))
     | (go_at_call 19;go_must (refine (ob_new st (HRL.out ()) HRB.out).mono ?_);rintro e wn ⟨r2,m2,rfl,st9⟩;replace st:=st9;clear st9))
    go_loopw [16] (fun vi wr=>∃i:Nat,i≤3∧vi=.int .i64 (i:Int)∧Hid (Ow w1 wr g mb kv sb hb rb m s2 h2 r2 m2 root (keyI dd) i [(q10,opR,51)])) (fun vi _=>match vi with | .int _ q=>3 - q.toNat|_=>0)
    case atStart=>exact ⟨0,by omega,rfl,st⟩
    case round =>
     clear st
     obtain ⟨i,hi,rfl,HST⟩:=hrel
     have st:=HST.out
     clear HST
     by_cases hi3:i<3
     ·have hli:(i:Int)<3:=by omega
      have hw:IntKind.i64.wrap ((i:Int)+1)=(i:Int)+1:=dt _ (by omega) (by omega)
      have hw2:IntKind.i64.wrap (2 * (i:Int))=2 * (i:Int):=dt _ (by omega) (by omega)
      obtain ⟨X,hX⟩:∃X,X=keyI dd i:=⟨_,rfl⟩
      have HXX:Hid (∀_:Unit,X=keyI dd i):=fun _=>hX
      have HXL:Hid (∀_:Unit,X.length=32):=fun _=>by rw [hX];exact HKL.out () i
      have HDC:Hid (∀_:Unit,((u8s dd).drop (i * 32)).take 32=u8s X):=fun _=>by rw [hX];exact fx hi3
      obtain ⟨M,hMM⟩:∃M,M=mntOf (keyI dd i) ⟨#[120]⟩:=⟨_,rfl⟩
      have HML:Hid (∀_:Unit,M.length=32):=fun _=>by rw [hMM];exact bk _ _ _
      have HMM:Hid (∀_:Unit,M=mntOf (keyI dd i) ⟨#[120]⟩):=fun _=>hMM
      have tk1:Nat:=0
      clear hX hMM
      go_wp2_with (first
       | ((with_reducible refine ae (some 74) (.indexAddr 51 (.tmp 10) (.tmp 73)) ?_);go_must (refine aj (.pointer (some ⟨q10,i,none⟩)) rfl (cN i rfl rfl rfl hi3) ?_))
       | ((with_reducible refine ae (some 75) (.load 9 (.tmp 74)) ?_);go_must (refine aj (.string (opS i)) rfl (aK i (.string (opS i)) (st.mem.get 0 rfl) rfl dx (iA hi3)) ?_))
       | (go_at_call 16;go_must (refine (ow_attach st HX1.out hi3 (opS i) rfl _ rfl).mono ?_);rintro e wp ⟨rfl,st9⟩;replace st:=st9;clear st9)
       | ((with_reducible refine ae (some 83) (.indexAddr 51 (.tmp 10) (.tmp 82)) ?_);go_must (refine aj (.pointer (some ⟨q10,i,none⟩)) rfl (cN i rfl rfl rfl hi3) ?_))
       | ((with_reducible refine ae (some 84) (.load 9 (.tmp 83)) ?_);go_must (refine aj (.string (opS i)) rfl (aK i (.string (opS i)) (st.mem.get 0 rfl) rfl dx (iA hi3)) ?_))
       | (go_at_call 12;go_must (refine (ow_key st HT1.out HQ1.out HX1.out hi3 (fun j=>HKL.out () j) HKB.out (opS i) rfl X (HXX.out ())).mono ?_);rintro e wp ⟨rfl,st9⟩;replace st:=st9;clear st9)
       | ((with_reducible refine ae (some 17) (.alloc 43) ?_);go_must (refine aY _ aD ?_);intro wa q17 hba hqa hra;replace st:=st.add hba hra hqa;clear hba hqa hra)
       | ((with_reducible refine ae none (.store 43 (.tmp 17) (.tmp 86)) ?_);go_must (refine bH (u8s X) (st.mem.get 0 rfl) rfl rfl 32 aq (by simp [aa]) (by rw [aa,HXL.out ()]) (ai _) ?_);intro wb hub hrb;replace st:=st.updR 0 rfl hub hrb;clear hub hrb)
       | ((with_reducible refine ae (some 91) (.indexAddr 51 (.tmp 10) (.tmp 90)) ?_);go_must (refine aj (.pointer (some ⟨q10,i,none⟩)) rfl (cN i rfl rfl rfl hi3) ?_))
       | ((with_reducible refine ae (some 92) (.load 9 (.tmp 91)) ?_);go_must (refine aj (.string (opS i)) rfl (aK i (.string (opS i)) (st.mem.get 1 rfl) rfl dx (iA hi3)) ?_))
       | (go_at_call 22;(first|(clear tk1;go_must (refine (ow_mount st HT1.out HQ1.out HX1.out hi3 (fun j=>HKL.out () j) HKB.out (opS i) rfl ⟨#[120]⟩ (by decide) M (HMM.out ())).mono ?_);rintro e wp ⟨rfl,st9⟩;replace st:=st9;clear st9)|(go_must (refine (ow_mount1 st HT1.out HQ1.out HX1.out hi3 (fun j=>HKL.out () j) HKB.out (opS i) rfl ⟨#[120]⟩ (by decide) M (HMM.out ())).mono ?_);rintro e wp ⟨rfl,st9⟩;replace st:=st9;clear st9)))
       | ((with_reducible refine ae (some 19) (.alloc 43) ?_);go_must (refine aY _ aD ?_);intro wa q19 hba hqa hra;replace st:=st.add hba hra hqa;clear hba hqa hra)
       | ((with_reducible refine ae none (.store 43 (.tmp 19) (.tmp 94)) ?_);go_must (refine bH (u8s M) (st.mem.get 0 rfl) rfl rfl 32 aq (by simp [aa]) (by rw [aa,HML.out ()]) (ai _) ?_);intro wb hub hrb;replace st:=st.updR 0 rfl hub hrb;clear hub hrb)
       | ((with_reducible refine ae (some 99) (.indexAddr 51 (.tmp 10) (.tmp 98)) ?_);go_must (refine aj (.pointer (some ⟨q10,i,none⟩)) rfl (cN i rfl rfl rfl hi3) ?_))
       | ((with_reducible refine ae (some 100) (.load 9 (.tmp 99)) ?_);go_must (refine aj (.string (opS i)) rfl (aK i (.string (opS i)) (st.mem.get 2 rfl) rfl dx (iA hi3)) ?_))
       | ((with_reducible refine ae (some 21) (.alloc 43) ?_);go_must (refine aY _ aD ?_);intro wa q21 hba hqa hra;replace st:=st.add hba hra hqa;clear hba hqa hra)
       | ((with_reducible refine ae none (.store 43 (.tmp 21) (.tmp 102)) ?_);go_must (refine bH (u8s M) (st.mem.get 0 rfl) rfl rfl 32 aq (by simp [aa]) (by rw [aa,HML.out ()]) (ai _) ?_);intro wb hub hrb;replace st:=st.updR 0 rfl hub hrb;clear hub hrb))
      refine aA ?_
      refine aC (T:=fun W=>(Row W q17 (u8s X) 43∧Row W q19 (u8s M) 43∧Row W q21 (u8s M) 43∧Row W q3 (u8s dd) 50)) (by kernel_rfl) st.mem ?_
      intro wz hbz hmz
      replace st:=st.below hbz
      have HTW:Hid (Row wz q17 (u8s X) 43∧Row wz q19 (u8s M) 43∧Row wz q21 (u8s M) 43∧Row wz q3 (u8s dd) 50):=⟨st.mem.get 2 rfl,st.mem.get 1 rfl,st.mem.get 0 rfl,Row.bel HR3.out st.mem.below⟩
      clear hbz hmz
      refine aT 0 (v:=.int .i64 0) rfl (by kernel_rfl) rfl (fun W _=>by go_simp) HTW.out ?_
      go_simp
      refine aT 1 (v:=.bool false) rfl (by kernel_rfl) rfl (fun W _=>by go_simp) HTW.out ?_
      go_simp
      refine aT 2 (v:=.bool false) rfl (by kernel_rfl) rfl (fun W _=>by go_simp) HTW.out ?_
      go_simp
      refine aG 3 (v:=.agg (u8s X).toArray) rfl (by kernel_rfl) rfl (fun W hW=>au 0 (u8s X) hW.1 rfl _ aw rfl 32 aq (by rw [aa,HXL.out ()];omega) (by rw [List.drop_zero,List.take_of_length_le (by rw [aa,HXL.out ()];omega)])) HTW.out ?_
      go_simp
      refine aG 4 (v:=.int .i64 (i:Int)) rfl (by kernel_rfl) rfl (fun W _=>by go_simp) HTW.out ?_
      go_simp
      refine aG 5 (v:=.pointer (some ⟨q3,i * 32,none⟩)) rfl (by kernel_rfl) rfl (fun W _=>iE i rfl rfl rfl hi3) HTW.out ?_
      go_simp
      refine aG 6 (v:=.agg (u8s X).toArray) rfl (by kernel_rfl) rfl (fun W hW=>au (i * 32) (u8s X) hW.2.2.2 rfl _ aw rfl 32 aq (by rw [aa,HDL.out ()];omega) (HDC.out ())) HTW.out ?_
      go_simp
      refine aG 7 (v:=.bool false) rfl (by kernel_rfl) rfl (fun W hW=>iT 5 32 .u8 X rfl rfl aw b7 aQ eu (HXL.out ())) HTW.out ?_
      go_simp
      refine aT 8 (v:=.bool false) rfl (by kernel_rfl) rfl (fun W _=>by go_simp) HTW.out ?_
      go_simp
      refine aT 9 (v:=.bool false) rfl (by kernel_rfl) rfl (fun W _=>by go_simp) HTW.out ?_
      go_simp
      refine aG 10 (v:=.int .i64 0) rfl (by kernel_rfl) rfl (fun W _=>by go_simp) HTW.out ?_
      go_simp
      refine aG 11 (v:=.bool false) rfl (by kernel_rfl) rfl (fun W _=>by go_simp) HTW.out ?_
      go_simp
      refine aT 12 (v:=.bool false) rfl (by kernel_rfl) rfl (fun W _=>by go_simp) HTW.out ?_
      go_simp
      refine aT 13 (v:=.bool false) rfl (by kernel_rfl) rfl (fun W _=>by go_simp) HTW.out ?_
      go_simp
      refine aG 14 (v:=.int .i64 0) rfl (by kernel_rfl) rfl (fun W _=>by go_simp) HTW.out ?_
      go_simp
      refine aG 15 (v:=.bool false) rfl (by kernel_rfl) rfl (fun W _=>by go_simp) HTW.out ?_
      go_simp
      refine aT 16 (v:=.bool false) rfl (by kernel_rfl) rfl (fun W _=>by go_simp) HTW.out ?_
      go_simp
      refine aT 17 (v:=.bool false) rfl (by kernel_rfl) rfl (fun W _=>by go_simp) HTW.out ?_
      go_simp
      refine aG 18 (v:=.agg (u8s M).toArray) rfl (by kernel_rfl) rfl (fun W hW=>au 0 (u8s M) hW.2.1 rfl _ aw rfl 32 aq (by rw [aa,HML.out ()];omega) (by rw [List.drop_zero,List.take_of_length_le (by rw [aa,HML.out ()];omega)])) HTW.out ?_
      go_simp
      refine aG 19 (v:=.agg (u8s M).toArray) rfl (by kernel_rfl) rfl (fun W hW=>au 0 (u8s M) hW.2.2.1 rfl _ aw rfl 32 aq (by rw [aa,HML.out ()];omega) (by rw [List.drop_zero,List.take_of_length_le (by rw [aa,HML.out ()];omega)])) HTW.out ?_
      go_simp
      refine aG 20 (v:=.bool false) rfl (by kernel_rfl) rfl (fun W hW=>iT 5 32 .u8 M rfl rfl aw b7 aQ eu (HML.out ())) HTW.out ?_
      go_simp
      refine aT 21 (v:=.bool false) rfl (by kernel_rfl) rfl (fun W _=>by go_simp) HTW.out ?_
      go_simp
      refine wpAnyH_done (by kernel_rfl) ?_ _
      simp only [endsIn]
      clear HTW
      go_wp2_with fail
      go_roundw
      case rel=>exact ⟨i+1,by omega,by go_num,st.tail.tail.tail⟩
      case measure=>show 3 - ((i:Int)+1).toNat<3 - (i:Int).toNat;omega
     ·have hin:3=i:=by omega
      have hli:¬(i:Int)<3:=by omega
      subst hin
      clear hi3 hi
      go_wp2_with fail
      go_ret
      exact ⟨rfl,cA HBW.out HBW.out.size st.mem.below⟩
end Go.Proofs.YtlpnafdkhoimhaaGreatDoor
