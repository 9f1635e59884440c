import Derived.Test.YtnllomcajijbjaaGreatDoorQp23
import Derived.Test.YtnllomcajijbjaaGreatDoorQp03
import Derived.Test.YtnllomcajijbjaaGreatDoorCards
import Derived.Test.YtnllomcajijbjaaGreatDoorTie
import Derived.ProofKit
import Derived.OpenShut
import Derived.ChangeOld
import Derived.Deep.DeepHandedRow
import Derived.Lib.LaidTab
import Derived.Lay
import Derived.Test.YtnllomcajijbjaaGreatDoorQp04
import Derived.Deep.Slices
import Derived.ChangeMaps5
import Derived.Test.YtnllomcajijbjaaGreatDoorQp07
import Derived.Test.YtnllomcajijbjaaGreatDoorQp21
set_option maxRecDepth 100000
set_option maxHeartbeats 4000000
namespace Go.Proofs.YtnllomcajijbjaaGreatDoor
open Go Go.RowKit Go.Maps
section
variable {w0 w w':World} {g mb:Nat} {kv:Value} {sb hb:Nat} {d:Dk} {t:Slt} {k k':Nat} {rows:List (Nat×List Value×TypeId)}
theorem Sp.tail {r:Nat×List Value×TypeId} (h:Sp w0 w g mb kv sb hb d t k (r::rows)):Sp w0 w g mb kv sb hb d t k rows:=⟨h.mem.tail,h.at_,h.n,h.n2,h.nm,h.new,fun q hq=>h.apart q (List.mem_cons_of_mem _ hq)⟩
theorem Sp.more (h:Sp w0 w g mb kv sb hb d t k rows) (hk:k≤k'):Sp w0 w g mb kv sb hb d t k' rows:=⟨h.mem,h.at_,h.n,h.n2,h.nm.mono hk,h.new,h.apart⟩
theorem Sp.add (h:Sp w0 w g mb kv sb hb d t k rows) {q:Nat} {l:List Value} {ty:TypeId} (hbb:Below w.heap.size w w') (hr:Row w' q l ty) (hq:w.heap.size≤q):Sp w0 w' g mb kv sb hb d t k ((q,l,ty)::rows):=by
 refine ⟨h.mem.callNew hbb hr hq,h.at_.below hbb,h.n,h.n2,h.nm,h.new,fun r hr=>?_⟩
 rcases List.mem_cons.1 hr with rfl|hr
 ·intro hk
  have:=h.at_.lt _ hk
  simp at this
  omega
 ·exact h.apart r hr
theorem Sp.upd (h:Sp w0 w g mb kv sb hb d t k rows) (i:Nat) {q:Nat} {l l':List Value} {ty:TypeId} (hi:rows[i]?=some (q,l,ty)) (hu:Upd q w w') (hr:Row w' q l' ty):Sp w0 w' g mb kv sb hb d t k (rows.set i (q,l',ty)):=by
 have hmem:=List.mem_of_getElem? hi
 have ha:=h.apart _ hmem
 refine ⟨h.mem.upd i hi hu hr,h.at_.keep (fun k hk=>hu.block k (h.at_.lt k hk) (fun e=>ha (e▸hk))),h.n,h.n2,h.nm,h.new,fun r hr=>?_⟩
 rcases List.mem_or_eq_of_mem_set hr with h1|h1
 ·exact h.apart r h1
 ·subst h1
  exact ha
end
def Pn (w0 w:World) (g mb:Nat) (kv:Value) (sb hb:Nat) (b:Bool) (t:Slt) (k:Nat) (M:Nat→Mdl) (rows:List (Nat×List Value×TypeId)):Prop :=
 ∃d,Sp w0 w g mb kv sb hb d t k rows∧Inv d t∧d.off=false∧(b=true→d.left=0)∧agB t.held M 24=true
def Pd (w0 w:World) (g mb:Nat) (kv:Value) (sb hb:Nat) (t:Slt) (i:Nat) (N:Option Ent) (k:Nat) (rows:List (Nat×List Value×TypeId)):Prop :=
 ∃d,Sp w0 w g mb kv sb hb d {t with dead:=true} k rows∧∀cs,∃y p,(y=t.held i∨y=none∨y=N)∧(p=t.puts∨p=t.puts+1)∧Tn (d.crash cs) ⟨upf t.held i y,p,false⟩
def Pt (w0 w:World) (g mb:Nat) (kv:Value) (sb hb:Nat) (t:Slt) (i:Nat) (N:Option Ent) (k:Nat) (rows:List (Nat×List Value×TypeId)):Prop :=
 ∃d y p,Sp w0 w g mb kv sb hb d {t with dead:=true} k rows∧(y=t.held i∨y=none∨y=N)∧(p=t.puts∨p=t.puts+1)∧Tn d ⟨upf t.held i y,p,false⟩∧d.left=0∧d.off=false
def Pe (w0 w:World) (g mb:Nat) (kv:Value) (sb hb:Nat) (t:Slt) (k:Nat) (rows:List (Nat×List Value×TypeId)):Prop:=∃d,Sv w0 w g mb kv sb hb d t k rows
def MB (M:Nat→Mdl):Prop:=∀i,i<24→(0≤(M i).2.1∧(M i).2.1<256)∧0≤(M i).2.2∧(M i).2.2<256
theorem MB.upf {M:Nat→Mdl} (h:MB M) (k:Nat) (x:Mdl) (hx:(0≤x.2.1∧x.2.1<256)∧0≤x.2.2∧x.2.2<256):MB (Go.Proofs.YtnllomcajijbjaaGreatDoor.upf M k x):=by
 intro i hi
 rw [eR]
 split
 ·exact hx
 ·exact h i hi
section
variable {w0 w w':World} {g mb:Nat} {kv:Value} {sb hb:Nat} {b:Bool} {t:Slt} {k:Nat} {M:Nat→Mdl} {rows:List (Nat×List Value×TypeId)}
theorem Pn.below (h:Pn w0 w g mb kv sb hb b t k M rows) (hbb:Below w.heap.size w w'):Pn w0 w' g mb kv sb hb b t k M rows:=by
 obtain ⟨d,h1,h2⟩:=h
 exact ⟨d,h1.below hbb,h2⟩
theorem Pn.mem (h:Pn w0 w g mb kv sb hb b t k M rows):Mem w0 [] w rows:=by
 obtain ⟨d,h1,h2⟩:=h
 exact h1.mem
theorem Pn.tail {r:Nat×List Value×TypeId} (h:Pn w0 w g mb kv sb hb b t k M (r::rows)):Pn w0 w g mb kv sb hb b t k M rows:=by
 obtain ⟨d,h1,h2⟩:=h
 exact ⟨d,h1.tail,h2⟩
theorem Pn.more {k':Nat} (h:Pn w0 w g mb kv sb hb b t k M rows) (hk:k≤k'):Pn w0 w g mb kv sb hb b t k' M rows:=by
 obtain ⟨d,h1,h2⟩:=h
 exact ⟨d,h1.more hk,h2⟩
theorem Pn.add (h:Pn w0 w g mb kv sb hb b t k M rows) {q:Nat} {l:List Value} {ty:TypeId} (hbb:Below w.heap.size w w') (hr:Row w' q l ty) (hq:w.heap.size≤q):Pn w0 w' g mb kv sb hb b t k M ((q,l,ty)::rows):=by
 obtain ⟨d,h1,h2⟩:=h
 exact ⟨d,h1.add hbb hr hq,h2⟩
theorem Pn.updR (h:Pn w0 w g mb kv sb hb b t k M rows) (i:Nat) {q:Nat} {l l':List Value} {ty:TypeId} (hi:rows[i]?=some (q,l,ty)) (hu:Upd q w w') (hr:Row w' q l' ty):Pn w0 w' g mb kv sb hb b t k M (rows.set i (q,l',ty)):=by
 obtain ⟨d,h1,h2⟩:=h
 exact ⟨d,h1.upd i hi hu hr,h2⟩
theorem Pn.cell (h:Pn w0 w g mb kv sb hb b t k M rows) {c o:Nat} {v:Value} (hc:w0.cell? ⟨c,o,none⟩=some v):w.cell? ⟨c,o,none⟩=some v :=
 (h.mem.old (p:=⟨c,o,none⟩) (block_lt_of_cell hc) (by simp)).trans hc
theorem aN (h:Pn w0 w g mb kv sb hb b t k M rows) (a:Int) (ha:0≤a) (ha2:a≤1000) (b':Bool) (hb':b'=decide (a=0)) :
  Calls Tryz.prog 7 #[.pointer (some ⟨g,0,none⟩),.int .i64 a] w fun e w'=>e=.returned (.tuple #[])∧Pn w0 w' g mb kv sb hb b' t k M rows:=by
 obtain ⟨d,h1,h2,h3,h4,h5⟩:=h
 refine (power_p h1 h3 a ha ha2).mono (fun e w' hh=>?_)
 exact ⟨hh.1,_,hh.2,inv_left_any h2 a,h3,fun hb=>(by rw [hb'] at hb;simpa using hb),h5⟩
theorem pn_put (h:Pn w0 w g mb kv sb hb b t k M rows) (ht:Tab w0) (hq:QTab w0) (hk:k≤1000000) (hp:t.puts<200) (i:Nat) (hi:i<24) (x y:Int) (hx:0≤x∧x<256) (hy:0≤y∧y<256) :
  Calls Tryz.prog 8 #[.pointer (some ⟨sb,0,none⟩),.int .i64 (i:Int),.agg (u8s (keyB x)).toArray,.agg (u8s (keyB y)).toArray] w fun e w' =>
   (e=.returned (.int .i64 0)∧∃t',Pn w0 w' g mb kv sb hb b t' (k+1000) (upf M i (true,x,y)) rows∧t'.puts≤t.puts+1)∨(b=false∧e=.returned (.int .i64 61)∧Pd w0 w' g mb kv sb hb t i (some (entN t i (keyB x) (keyB y))) (k+1000) rows):=by
 obtain ⟨d,h1,h2,h3,h4,h5⟩:=h
 have hag:agB (putS t i (entN t i (keyB x) (keyB y))).held (upf M i (true,x,y)) 24=true:=gh h5 (by
  rw [cB rfl]
  exact decide_eq_true (unw_own (keyB x) (keyB y) i (t.puts+1) (aD y) (bg hy)))
 cases b with
 | true =>
  refine (put_w (h1.sv h2 (h4 rfl) h3) ht hq hk hp i hi (keyB x) (keyB y) (aD x) (bg hx) (aD y) (bg hy) _ rfl).mono (fun e w' hh=>?_)
  obtain ⟨he,⟨d',hs⟩,_⟩:=hh
  exact Or.inl ⟨he,_,⟨d',hs.sp,hs.inv,hs.cm.off,fun _=>hs.cm.left,hag⟩,Nat.le_refl _⟩
 | false =>
  refine (put_p h1 h2 h3 ht hq hk hp i hi (keyB x) (keyB y) (aD x) (bg hx) (aD y) (bg hy)).mono (fun e w' hh=>?_)
  rcases hh with ⟨he,D,g1,g2,g3⟩|⟨he,D,g1,g2⟩
  ·exact Or.inl ⟨he,_,⟨D,g1,g2,g3,fun hb=>(by cases hb),hag⟩,Nat.le_refl _⟩
  ·exact Or.inr ⟨rfl,he,D,g1,g2⟩
theorem pn_erase (h:Pn w0 w g mb kv sb hb b t k M rows) (hk:k≤1000000) (i:Nat) (hi:i<24) :
  Calls Tryz.prog 10 #[.pointer (some ⟨sb,0,none⟩),.int .i64 (i:Int)] w fun e w' =>
   (e=.returned (.int .i64 0)∧∃t',Pn w0 w' g mb kv sb hb b t' (k+1000) (upf M i (false,0,0)) rows∧t'.puts≤t.puts)∨(b=false∧e=.returned (.int .i64 61)∧Pd w0 w' g mb kv sb hb t i none (k+1000) rows):=by
 obtain ⟨d,h1,h2,h3,h4,h5⟩:=h
 have hag:agB (eraS t i).held (upf M i (false,0,0)) 24=true:=gh h5 (by rw [cQ rfl];rfl)
 cases b with
 | true =>
  refine (erase_w (h1.sv h2 (h4 rfl) h3) hk i hi _ rfl).mono (fun e w' hh=>?_)
  obtain ⟨he,⟨d',hs⟩,_⟩:=hh
  exact Or.inl ⟨he,_,⟨d',hs.sp,hs.inv,hs.cm.off,fun _=>hs.cm.left,hag⟩,Nat.le_refl _⟩
 | false =>
  refine (erase_p h1 h2 h3 hk i hi).mono (fun e w' hh=>?_)
  rcases hh with ⟨he,D,g1,g2,g3⟩|⟨he,D,g1,g2⟩
  ·exact Or.inl ⟨he,_,⟨D,g1,g2,g3,fun hb=>(by cases hb),hag⟩,Nat.le_refl _⟩
  ·refine Or.inr ⟨rfl,he,D,g1,fun cs=>?_⟩
   obtain ⟨y,hy,hT⟩:=g2 cs
   exact ⟨y,t.puts,hy.elim Or.inl (fun e=>Or.inr (Or.inl e)),Or.inl rfl,hT⟩
theorem pn_refI (h:Pn w0 w g mb kv sb hb b t k M rows) (i:Int) (hi:okI i=false):refI t i=70:=by
 obtain ⟨d,h1,h2,_⟩:=h
 unfold refI
 rw [if_neg (by rw [h2.dead];simp),if_neg (by rw [hi];simp)]
theorem iK (h:Pn w0 w g mb kv sb hb b t k M rows) (i:Int) (hi:okI i=false) (kek key:List Int) :
  Calls Tryz.prog 8 #[.pointer (some ⟨sb,0,none⟩),.int .i64 i,.agg (u8s kek).toArray,.agg (u8s key).toArray] w fun e w'=>e=.returned (.int .i64 70)∧Pn w0 w' g mb kv sb hb b t k M rows:=by
 have hr:=pn_refI h i hi
 obtain ⟨d,h1,h2⟩:=h
 refine (put_no g mb kv sb hb d t i kek key (by rw [hr];omega) w h1.at_).mono ?_
 rintro e w' ⟨rfl,h3⟩
 exact ⟨by rw [hr],d,h1.below h3,h2⟩
theorem iJ (h:Pn w0 w g mb kv sb hb b t k M rows) (i:Int) (hi:okI i=false) :
  Calls Tryz.prog 10 #[.pointer (some ⟨sb,0,none⟩),.int .i64 i] w fun e w'=>e=.returned (.int .i64 70)∧Pn w0 w' g mb kv sb hb b t k M rows:=by
 have hr:=pn_refI h i hi
 obtain ⟨d,h1,h2⟩:=h
 refine (erase_no g mb kv sb hb d t i (by rw [hr];omega) w h1.at_).mono ?_
 rintro e w' ⟨rfl,rfl⟩
 exact ⟨by rw [hr],d,h1,h2⟩
theorem eu (h:Pn w0 w g mb kv sb hb b t k M rows) (ht:Tab w0) (hq:QTab w0) (i:Int) (x:Int) (hx:0≤x∧x<256) (Z:List Int) (z:Int) (hz:getV t.held i (keyB x)=(Z,z)) :
  Calls Tryz.prog 11 #[.pointer (some ⟨sb,0,none⟩),.int .i64 i,.agg (u8s (keyB x)).toArray] w fun e w'=>e=.returned (.tuple #[.agg (u8s Z).toArray,.int .i64 z])∧Pn w0 w' g mb kv sb hb b t k M rows:=by
 obtain ⟨d,h1,h2⟩:=h
 refine (dM g mb kv sb hb d t i (keyB x) (aD x) (bg hx) w (h1.tab ht) (h1.qtab hq) h1.at_).mono ?_
 rintro e w' ⟨rfl,h3⟩
 exact ⟨by rw [hz],d,h1.below h3,h2⟩
theorem pn_len (h:Pn w0 w g mb kv sb hb b t k M rows) (i:Int) (x:Int) {Z:List Int} {z:Int} (hz:getV t.held i (keyB x)=(Z,z)):Z.length=32:=by
 obtain ⟨d,h1,h2,_⟩:=h
 have h9:(getV t.held i (keyB x)).1.length=32:=by
  unfold getV
  split
  ·split
   ·rfl
   ·rename_i e he
    exact eh _ _ (h2.ok.held _ _ he).2.len
  ·rfl
 rw [hz] at h9
 exact h9
theorem ez (h:Pn w0 w g mb kv sb hb b t k M rows) (cs:List Int) (vc:Value) (hcb:Bytes cs) (hs:SlOld w0 vc cs) :
  Calls Tryz.prog 13 #[.pointer (some ⟨g,0,none⟩),vc] w fun e w'=>e=.returned (.tuple #[])∧Pn w0 w' g mb kv sb hb true t k M rows:=by
 obtain ⟨d,h1,h2,h3,h4,h5⟩:=h
 refine (crash_p h1 cs vc hcb (h1.old hs)).mono (fun e w' hh=>?_)
 have hc:=iX h1.nm cs
 exact ⟨hh.1,_,hh.2,(inv_crash h2 cs).1,hc.off,fun _=>hc.left,h5⟩
theorem fI (h:Pn w0 w g mb kv sb hb true t k M rows) (ht:Tab w0) (hk:k≤1000000) :
  Calls Tryz.prog 14 #[.pointer (some ⟨g,0,none⟩)] w fun e w'=>∃s2 h2,e=.returned (.tuple #[.pointer (some ⟨s2,0,none⟩),.int .i64 0])∧Pn w0 w' g mb kv s2 h2 true t (k+1000) M rows:=by
 obtain ⟨d,h1,h2,h3,h4,h5⟩:=h
 refine (open_v (h1.sv h2 (h4 rfl) h3) ht hk).mono (fun e w' hh=>?_)
 obtain ⟨s2,h2',he,hs⟩:=hh
 exact ⟨s2,h2',he,d,hs.sp,hs.inv,hs.cm.off,fun _=>hs.cm.left,h5⟩
theorem aV (h:Pn w0 w g mb kv sb hb true t k M rows) (ht:Tab w0) (hq:QTab w0) (hM:MB M) :
  Calls Tryz.prog 15 #[.pointer (some ⟨sb,0,none⟩),.agg (modL M 24).toArray] w fun e w'=>e=.returned (.bool true)∧Pn w0 w' g mb kv sb hb true t k M rows:=by
 obtain ⟨d,h1,h2,h3,h4,h5⟩:=h
 refine (alike_s (h1.sv h2 (h4 rfl) h3) ht hq M hM).mono (fun e w' hh=>?_)
 obtain ⟨he,hs⟩:=hh
 rw [h5] at he
 exact ⟨he,d,hs.sp,hs.inv,hs.cm.off,fun _=>hs.cm.left,h5⟩
end
section
variable {w0 w w':World} {g mb:Nat} {kv:Value} {sb hb:Nat} {t:Slt} {i:Nat} {N:Option Ent} {k:Nat} {M:Nat→Mdl} {rows:List (Nat×List Value×TypeId)}
theorem Pd.below (h:Pd w0 w g mb kv sb hb t i N k rows) (hbb:Below w.heap.size w w'):Pd w0 w' g mb kv sb hb t i N k rows:=by
 obtain ⟨d,h1,h2⟩:=h
 exact ⟨d,h1.below hbb,h2⟩
theorem Pd.mem (h:Pd w0 w g mb kv sb hb t i N k rows):Mem w0 [] w rows:=by
 obtain ⟨d,h1,h2⟩:=h
 exact h1.mem
theorem Pd.updR (h:Pd w0 w g mb kv sb hb t i N k rows) (j:Nat) {q:Nat} {l l':List Value} {ty:TypeId} (hj:rows[j]?=some (q,l,ty)) (hu:Upd q w w') (hr:Row w' q l' ty):Pd w0 w' g mb kv sb hb t i N k (rows.set j (q,l',ty)):=by
 obtain ⟨d,h1,h2⟩:=h
 exact ⟨d,h1.upd j hj hu hr,h2⟩
theorem pd_dead (h:Pd w0 w g mb kv sb hb t i N k rows) :
  Calls Tryz.prog 12 #[.pointer (some ⟨sb,0,none⟩)] w fun e w'=>e=.returned (.bool true)∧Pd w0 w' g mb kv sb hb t i N k rows:=by
 obtain ⟨d,h1,h2⟩:=h
 refine (dead_any g mb kv sb hb d _ w h1.at_).mono ?_
 rintro e w' ⟨rfl,rfl⟩
 exact ⟨rfl,d,h1,h2⟩
theorem pd_put (h:Pd w0 w g mb kv sb hb t i N k rows) (j:Int) (kek key:List Int) :
  Calls Tryz.prog 8 #[.pointer (some ⟨sb,0,none⟩),.int .i64 j,.agg (u8s kek).toArray,.agg (u8s key).toArray] w fun e w'=>e=.returned (.int .i64 260)∧Pd w0 w' g mb kv sb hb t i N k rows:=by
 obtain ⟨d,h1,h2⟩:=h
 refine (put_dead h1 rfl j kek key).mono (fun e w' hh=>?_)
 exact ⟨hh.1,d,hh.2,h2⟩
theorem pd_crash (h:Pd w0 w g mb kv sb hb t i N k rows) (cs:List Int) (vc:Value) (hcb:Bytes cs) (hs:SlOld w0 vc cs) :
  Calls Tryz.prog 13 #[.pointer (some ⟨g,0,none⟩),vc] w fun e w'=>e=.returned (.tuple #[])∧Pt w0 w' g mb kv sb hb t i N k rows:=by
 obtain ⟨d,h1,h2⟩:=h
 refine (crash_p h1 cs vc hcb (h1.old hs)).mono (fun e w' hh=>?_)
 obtain ⟨y,p,hy,hp,hT⟩:=h2 cs
 exact ⟨hh.1,_,y,p,hh.2,hy,hp,hT,rfl,rfl⟩
theorem pt_open (h:Pt w0 w g mb kv sb hb t i N k rows) (ht:Tab w0) (hk:k≤1000000) :
  Calls Tryz.prog 14 #[.pointer (some ⟨g,0,none⟩)] w fun e w'=>∃s2 h2 y p,e=.returned (.tuple #[.pointer (some ⟨s2,0,none⟩),.int .i64 0])∧Pe w0 w' g mb kv s2 h2 ⟨upf t.held i y,p,false⟩ (k+1000) rows∧(y=t.held i∨y=none∨y=N)∧(p=t.puts∨p=t.puts+1):=by
 obtain ⟨d,y,p,h1,hy,hp,hT,hl,ho⟩:=h
 refine (open_p h1 hT hl ho ht hk).mono (fun e w' hh=>?_)
 obtain ⟨s2,h2,he,D,hs⟩:=hh
 exact ⟨s2,h2,y,p,he,⟨D,hs⟩,hy,hp⟩
theorem Pe.mem (h:Pe w0 w g mb kv sb hb t k rows):Mem w0 [] w rows:=by
 obtain ⟨d,h1⟩:=h
 exact h1.mem
theorem Pe.updR (h:Pe w0 w g mb kv sb hb t k rows) (j:Nat) {q:Nat} {l l':List Value} {ty:TypeId} (hj:rows[j]?=some (q,l,ty)) (hu:Upd q w w') (hr:Row w' q l' ty):Pe w0 w' g mb kv sb hb t k (rows.set j (q,l',ty)):=by
 obtain ⟨d,h1⟩:=h
 exact ⟨d,h1.upd j hj hu hr⟩
theorem fg (h:Pe w0 w g mb kv sb hb t k rows) (ht:Tab w0) (hq:QTab w0) (hM:MB M) (r:Bool) (hr:agB t.held M 24=r) :
  Calls Tryz.prog 15 #[.pointer (some ⟨sb,0,none⟩),.agg (modL M 24).toArray] w fun e w'=>e=.returned (.bool r)∧Pe w0 w' g mb kv sb hb t k rows:=by
 obtain ⟨d,h1⟩:=h
 refine (alike_s h1 ht hq M hM).mono (fun e w' hh=>?_)
 rw [hr] at hh
 exact ⟨hh.1,d,hh.2⟩
theorem Pe.pn (h:Pe w0 w g mb kv sb hb t k rows) (ha:agB t.held M 24=true):Pn w0 w g mb kv sb hb true t k M rows:=by
 obtain ⟨d,h1⟩:=h
 exact ⟨d,h1.sp,h1.inv,h1.cm.off,fun _=>h1.cm.left,ha⟩
end
/-- What a crash left, where neither the elder nor the newer model agrees. -/
theorem cut_left {t:Slt} {M:Nat→Mdl} {i:Nat} (hi:i<24) {x y:Int} (hy:0≤y∧y<256) (h:agB t.held M 24=true) {u:Option Ent} (hu:u=t.held i∨u=none∨u=some (entN t i (keyB x) (keyB y))) (h1:agB (upf t.held i u) M 24=false) (h2:agB (upf t.held i u) (upf M i (true,x,y)) 24=false):agB (upf t.held i u) (upf M i (false,0,0)) 24=true:=by
 rcases hu with rfl|rfl|rfl
 ·rw [agB_slot h hi,dh.1 h i hi] at h1
  cases h1
 ·exact gh h (by rw [cQ rfl];rfl)
 ·rw [gh h (by
   rw [cB rfl]
   exact decide_eq_true (unw_own (keyB x) (keyB y) i (t.puts+1) (aD y) (bg hy)))] at h2
  cases h2
theorem cut_era {t:Slt} {M:Nat→Mdl} {i:Nat} (hi:i<24) (h:agB t.held M 24=true) {u:Option Ent} (hu:u=t.held i∨u=none∨u=none) (h1:agB (upf t.held i u) M 24=false):agB (upf t.held i u) (upf M i (false,0,0)) 24=true:=by
 have e:u=t.held i∨u=none:=by rcases hu with e|e|e<;>simp [e]
 rcases e with rfl|rfl
 ·rw [agB_slot h hi,dh.1 h i hi] at h1
  cases h1
 ·exact gh h (by rw [cQ rfl];rfl)
theorem Pn.ag {w0 w:World} {g mb:Nat} {kv:Value} {sb hb:Nat} {b:Bool} {t:Slt} {k:Nat} {M:Nat→Mdl} {rows:List (Nat×List Value×TypeId)} (h:Pn w0 w g mb kv sb hb b t k M rows):agB t.held M 24=true:=by
 obtain ⟨d,h1,h2,h3,h4,h5⟩:=h
 exact h5
open Go Go.ChangeShapes Go.WideShapes Go.ChangeAt Go.RowKit
theorem own:ownKnob Tryz.prog.godebug=none:=by kernel_rfl
theorem laidOut:laidOutB Tryz.prog=true:=by kernel_rfl
theorem cells_w64:Tryz.prog.cellsOf 184=64:=by kernel_rfl
theorem cells_u32:Tryz.prog.cellsOf 72=1:=by kernel_rfl
theorem js:Tryz.prog.cellsOf 5=1:=by kernel_rfl
theorem table_type:(Tryz.prog.globals[1]?).map (·.type)=some 184:=by kernel_rfl
/-- The listed table gives what the walks ask for. -/
theorem tab_of {W:World} (nm:String) (hn:Tryz.prog.globalNamed nm=some 1) (h:Lib.TabIs Tryz.prog W nm .u32 kTab):Tab W:=by
 intro j hj
 exact h.cell hn j (by simpa [kTab] using hj)
open Go Go.ChangeShapes Go.WideShapes Go.ChangeAt Go.RowKit
open Go Go.ChangeShapes Go.WideShapes Go.ChangeAt Go.RowKit
open Go Go.ChangeShapes Go.WideShapes Go.ChangeAt Go.RowKit
theorem fz:Tryz.prog.cellsOf 3=1:=by kernel_rfl
theorem cells_i4:Tryz.prog.cellsOf 177=4:=by kernel_rfl
theorem un_int:Tryz.prog.underlying 3=some (.int .i64):=Tryz.underlying3
theorem places_type:(Tryz.prog.globals[0]?).map (·.type)=some 178:=by kernel_rfl
/-- An array of arrays of integers that reads as the table holds the table's numbers, cell for cell. -/
theorem jF {H:Type} {enc:TypeId×Value→H} {P:Program} {w:World} {base:Nat} {sp:Nat→Bool} {held:Bool} {fuel:Nat} {t e f:TypeId} {n m:Nat} {k:IntKind} {cs:List Value} {zs:List (List Int)} {p:List MemPlace}
  (ht:P.underlying t=some (.array n e)) (he:P.underlying e=some (.array m f)) (hf:P.underlying f=some (.int k)) (hcf:P.cellsOf f=1) (hce:P.cellsOf e=m) (hzn:zs.length=n)
  (h:DataW.trod enc P w base sp held fuel t cs=some (.agg (zs.map fun z=>Lib.tabData k z),p)):∀i,i<n→(cs.drop (i * m)).take m=(zs.getD i []).map fun z=>Value.int k z:=by
 cases fuel with
 | zero=>simp [DataW.trod] at h
 | succ fuel =>
  simp only [DataW.trod,ht] at h
  split at h
  ·rename_i hl
   obtain ⟨xs,hm,hx⟩:=Option.map_eq_some_iff.1 h
   have hxs:xs.map (·.1)=zs.map fun z=>(Lib.tabData k z:DataW H):=by
    have:=congrArg Prod.fst hx
    simpa using this
   intro i hi
   obtain ⟨b,hb,hfb⟩:=Lib.mapM_at hm i i (by simp [hi])
   have h2:(xs.map (·.1))[i]?=some b.1:=by simp [hb]
   rw [hxs] at h2
   have hz:zs[i]?=some (zs.getD i []):=by simp [show i<zs.length by omega]
   simp only [List.getElem?_map,hz,Option.map_some,Option.some.injEq] at h2
   obtain ⟨b1,b2⟩:=b
   simp only at h2
   subst h2
   rw [hce] at hfb
   exact Lib.cells_of_tab he hf hcf hce hfb
  ·cases h
def placesI:List (List Int):=[[0,4,8,12],[1,5,9,13],[2,6,10,14],[3,7,11,15],[0,5,10,15],[1,6,11,12],[2,7,8,13],[3,4,9,14]]
theorem places_flat:∀j:Fin 32,(placesI.getD (j.val / 4) []).getD (j.val % 4) 0=qFlat.getD j.val 0:=by decide +kernel
theorem places_len:∀i:Fin 8,(placesI.getD i.val []).length=4:=by decide +kernel
theorem qtab_of {W:World} (nm:String) {rest:List (String×DataW Unit)} (hn:Tryz.prog.globalNamed nm=some 0) (h:laidMet Tryz.prog ((nm,.agg (placesI.map fun z=>Lib.tabData .i64 z))::rest) W):QTab W:=by
 obtain ⟨ps,⟨g',t',cs,fuel,p,q,hg',ht',hvar,hd,_,_⟩,_⟩:=h
 obtain rfl:=Option.some.inj (hn.symm.trans hg')
 obtain rfl:=Option.some.inj (places_type.symm.trans ht')
 have hall:=jF un_i84 un_i4 un_int fz cells_i4 rfl hd
 intro j hj
 have hc:=World.var?_cell hn hvar j
 have h4:j / 4<8:=by omega
 have hr:=hall (j / 4) h4
 have h5:cs.toList[j]?=some (.int .i64 (qFlat.getD j 0)):=by
  have h6:((cs.toList.drop (j / 4 * 4)).take 4)[j % 4]?=cs.toList[j]?:=by
   rw [List.getElem?_take,if_pos (by omega),List.getElem?_drop,show j / 4 * 4+j % 4=j by omega]
  rw [←h6,hr,←places_flat ⟨j,hj⟩]
  have hl:=places_len ⟨j / 4,h4⟩
  exact i64s_get _ _ (by rw [hl];omega)
 rw [hc,←Array.getElem?_toList]
 exact h5
theorem laid_tail {P:Program} {W:World} {x:String×DataW Unit} {rest:List (String×DataW Unit)} (h:laidMet P (x::rest) W):laidMet P rest W:=by
 obtain ⟨n,d⟩:=x
 obtain ⟨ps,⟨g,t,cs,fuel,p,q,_,_,_,_,hr,rfl⟩,hnd,hc⟩:=h
 exact ⟨q,hr,(List.nodup_append.1 hnd).2.1,fun b off hm=>hc b off (List.mem_append_right _ hm)⟩
theorem tab_laid {W:World} (h:laidMetH Tryz.prog Rows.slotsPlayRow.laid W):Tab W :=
 tab_of (Rows.slotsPlayRow.named.headD default) (by kernel_rfl) (Lib.tabIs_of_head (by kernel_rfl) table_type un_w64 Tryz.underlying72 cells_u32 cells_w64 h)
theorem qtab_laid {W:World} (h:laidMetH Tryz.prog Rows.slotsPlayRow.laid W):QTab W :=
 qtab_of (Rows.slotsPlayRow.named.getLastD default) (by kernel_rfl) (laid_tail (show laidMet Tryz.prog Rows.slotsPlayRow.laid W from h))
open Go Go.ChangeShapes Go.WideShapes Go.ChangeAt Go.RowKit
theorem un_stps:Tryz.prog.underlying 22=some (.slice 35):=Tryz.underlying22
theorem un_stp:∃fs,Tryz.prog.underlying 35=some (.struct fs)∧(fs[0]?).map (fun f=>(f.type,f.offset))=some (3,0)∧(fs[1]?).map (fun f=>(f.type,f.offset))=some (3,1)∧(fs[2]?).map (fun f=>(f.type,f.offset))=some (5,2)∧(fs[3]?).map (fun f=>(f.type,f.offset))=some (5,3)∧(fs[4]?).map (fun f=>(f.type,f.offset))=some (3,4)∧(fs[5]?).map (fun f=>(f.type,f.offset))=some (33,5)∧fs.size=6 :=
 ⟨match Tryz.prog.underlying 35 with|some (.struct fs)=>fs|_=>#[],by kernel_rfl,by kernel_rfl,by kernel_rfl,by kernel_rfl,by kernel_rfl,by kernel_rfl,by kernel_rfl,by kernel_rfl⟩
theorem cells_stp:Tryz.prog.cellsOf 35=6:=by kernel_rfl
theorem cells_bs:Tryz.prog.cellsOf 33=1:=by kernel_rfl
structure Stp where
 wh:Int
 i:Int
 kek:Int
 key:Int
 pw:Int
 pc:Option Addr
 cc:Nat
 cs:List Int
def stp0:Stp:=⟨0,0,0,0,0,none,0,[]⟩
def Stp.row (x:Stp):List Value:=[.int .i64 x.wh,.int .i64 x.i,.int .u8 x.kek,.int .u8 x.key,.int .i64 x.pw,.slice x.pc x.cs.length x.cc]
structure Stp.Good (x:Stp) (W:World):Prop where
 kek:0≤x.kek∧x.kek<256
 key:0≤x.key∧x.key<256
 hi:x.pw≤9223372036854775807
 sc:SlOld W (.slice x.pc x.cs.length x.cc) x.cs
 bc:Bytes x.cs
theorem open_bsCell {H:Type} {enc:TypeId×Value→H} {W:World} {v:Value} {n:Nat} {x:DataW H×List MemPlace} (hf:DataW.trod enc Tryz.prog W 0 (fun _=>true) true n 33 [v]=some x) :
  ∃(p:Option Addr) (c:Nat) (cs:List Int),v=.slice p cs.length c∧SlOld W (.slice p cs.length c) cs∧Bytes cs:=by
 rcases open_ints aU cy js hf with ⟨hcs,_⟩|⟨x,l,c,zs,hcs,_,hl,_,hz,_,hcell,hwz⟩
 ·simp only [List.cons.injEq,and_true] at hcs
  exact ⟨none,0,[],hcs,⟨none,0,rfl,Nat.le_refl _,fun h=>absurd h (by simp)⟩,by intro y hy;cases hy⟩
 ·simp only [List.cons.injEq,and_true] at hcs
  have hzl:zs.length=c:=by simpa using hz
  have htl:(zs.take l).length=l:=by simp;omega
  refine ⟨some x,c,zs.take l,by rw [htl];exact hcs,⟨some x,c,rfl,by rw [htl];exact hl,fun h0=>?_⟩,?_⟩
  ·obtain ⟨b,off,rfl,hc⟩:=ints_at hcell (by omega)
   exact ⟨b,off,rfl,Seg.take (fun j hj=>hc j hj) l⟩
  ·intro y hy
   have:=bounds_u8 (hwz y (List.mem_of_mem_take hy))
   omega
theorem open_stp {H:Type} {enc:TypeId×Value→H} {W:World} {cs:List Value} {n:Nat} {x:DataW H×List MemPlace} (hf:DataW.trod enc Tryz.prog W 0 (fun _=>true) true n 35 cs=some x):∃s:Stp,cs=s.row∧s.Good W:=by
 obtain ⟨fs,hu,h0,h1,h2,h3,h4,h5,hsz⟩:=un_stp
 obtain ⟨xs,m,rfl,_,hl,hxl,hget⟩:=DataW.trod_struct hu hf
 rw [cells_stp] at hl
 have key:∀(i:Nat) (T:TypeId),(fs[i]?).map (fun f=>(f.type,f.offset))=some (T,i)→Tryz.prog.cellsOf T=1→i<6→∃y c,cs[i]?=some c∧DataW.trod enc Tryz.prog W 0 (fun _=>true) true m T [c]=some y:=by
  intro i T hi hc hi5
  obtain ⟨f,hf1,hf2⟩:=Option.map_eq_some_iff.1 hi
  simp only [Prod.mk.injEq] at hf2
  obtain ⟨rfl,hfo⟩:=hf2
  have hg:=hget i f hf1
  rw [hc,hfo] at hg
  have hx:xs[i]?=some (xs[i]'(by omega)):=by simp [show i<xs.length by omega]
  rw [hx] at hg
  have hc1:cs[i]?=some (cs[i]'(by omega)):=by simp [show i<cs.length by omega]
  have hd:(cs.drop i).take 1=[cs[i]'(by omega)]:=by
   rw [List.drop_eq_getElem_cons (show i<cs.length by omega)]
   rfl
  rw [hd] at hg
  exact ⟨_,_,hc1,hg⟩
 obtain ⟨y0,c0,e0,t0⟩:=key 0 _ h0 fz (by omega)
 obtain ⟨y1,c1,e1,t1⟩:=key 1 _ h1 fz (by omega)
 obtain ⟨y2,c2,e2,t2⟩:=key 2 _ h2 js (by omega)
 obtain ⟨y3,c3,e3,t3⟩:=key 3 _ h3 js (by omega)
 obtain ⟨y4,c4,e4,t4⟩:=key 4 _ h4 fz (by omega)
 obtain ⟨y5,c5,e5,t5⟩:=key 5 _ h5 cells_bs (by omega)
 obtain ⟨z0,g0,_,_⟩:=DataW.trod_int un_int t0
 obtain ⟨z1,g1,_,_⟩:=DataW.trod_int un_int t1
 obtain ⟨z2,g2,_,w2⟩:=DataW.trod_int cy t2
 obtain ⟨z3,g3,_,w3⟩:=DataW.trod_int cy t3
 obtain ⟨z4,g4,_,w4⟩:=DataW.trod_int un_int t4
 obtain ⟨p5,k5,l5,g5,s5,b5⟩:=open_bsCell t5
 simp only [List.cons.injEq,and_true] at g0 g1 g2 g3 g4
 subst g0 g1 g2 g3 g4 g5
 have u2:=bounds_u8 w2
 have u3:=bounds_u8 w3
 refine ⟨⟨z0,z1,z2,z3,z4,p5,k5,l5⟩,?_,⟨⟨u2.1,by show z2<256;omega⟩,⟨u3.1,by show z3<256;omega⟩,(bounds_i64 w4).2,s5,b5⟩⟩
 match cs,hl,e0,e1,e2,e3,e4,e5 with
 | [a,b,c,d,e,f],_,e0,e1,e2,e3,e4,e5 =>
  simp only [List.getElem?_cons_zero,List.getElem?_cons_succ,Option.some.injEq] at e0 e1 e2 e3 e4 e5
  subst e0 e1 e2 e3 e4 e5
  rfl
theorem open_stps {H:Type} {enc:TypeId×Value→H} {W:World} {base:Nat} {v:Value} {d:DataW H} {ps:List MemPlace} (hok:Value.okWide Tryz.prog W .any base 22 v) (h:DataW.Trod enc Tryz.prog W 0 (fun _=>true) true 22 v d ps) :
  ∃(p:Option Addr) (len cap b o:Nat) (X:Nat→Stp),v=.slice p len cap∧(0<len→p=some ⟨b,o,none⟩) ∧
   ∀i,i<len→(∀j u,(X i).row[j]?=some u→W.cell? ⟨b,o+i * 6+j,none⟩=some u)∧(X i).Good W:=by
 obtain ⟨a,len,cap,rfl⟩:=okWide_slice un_stps hok
 obtain ⟨fuel,hf⟩:=h
 rcases Go.Deep.open_slice un_stps hf with ⟨hcs,_⟩|⟨x,l,c,m,n,D,Pl,hcs,_,hl,_,hm,_,hel⟩
 ·simp [Value.cells] at hcs
  obtain ⟨rfl,rfl,rfl⟩:=hcs
  exact ⟨none,0,0,0,0,fun _=>stp0,rfl,fun h=>absurd h (by omega),fun i hi=>absurd hi (by omega)⟩
 ·simp [Value.cells] at hcs
  obtain ⟨rfl,rfl,rfl⟩:=hcs
  have hm':m=cap:=by simpa using hm
  rw [cells_stp] at hel
  by_cases h0:0<len
  ·obtain ⟨b,o,spot⟩:=x
   have hspot:spot=none:=by
    obtain ⟨cs',h1,_⟩:=hel 0 (by omega)
    obtain ⟨_,h2,h3⟩:=World.cells?_some h1
    have h4:=h3 0 (by omega)
    rw [List.getElem?_eq_getElem (by omega)] at h4
    simpa [Addr.add] using World.cell?_spot h4
   subst hspot
   haveI:Inhabited Stp:=⟨stp0⟩
   obtain ⟨f,hf⟩:=Go.Deep.choose_lt (α:=Stp) (n:=len) (p:=fun i t=>(∀j u,t.row[j]?=some u→W.cell? ⟨b,o+i * 6+j,none⟩=some u)∧t.Good W)
    (fun i hi=>by
     obtain ⟨cs',h1,h2⟩:=hel i (by omega)
     obtain ⟨s,hs,hg⟩:=open_stp h2
     obtain ⟨_,h3,h4⟩:=World.cells?_some h1
     refine ⟨s,fun j u hu=>?_,hg⟩
     rw [←hs] at hu
     have hj:j<6:=by have:=(List.getElem?_eq_some_iff.1 hu).1;omega
     have h5:=h4 j hj
     rw [bM,bM] at h5
     rw [h5]
     exact hu)
   exact ⟨_,len,cap,b,o,f,rfl,fun _=>rfl,hf⟩
  ·exact ⟨some x,len,cap,0,0,fun _=>stp0,rfl,fun h=>absurd h h0,fun i hi=>absurd hi (by omega)⟩
section
variable {a:Act} {w:World} {dst:Option Tmp} {typ:TypeId} {pos:String} {aft:Array Edge} {gd:Option (Nat×Bool)}
theorem d4 {x ix:Operand} {b o n cap:Nat} (i:Nat) {ii:Int} (hx:a.eval x=.slice (some ⟨b,o,none⟩) n cap) (hix:a.eval ix=.int .i64 ii) (hii:ii=(i:Int)) (hi:i<n) :
  (execOp a.eval {dst:=dst,op:=.indexAddr 22 x ix,type:=typ,pos:=pos,after:=aft,guard:=gd}).run Tryz.prog w=.ok (.value (.pointer (some ⟨b,o+i * 6,none⟩))) w:=by
 subst hii
 have h0:(0:Int)≤(i:Int)∧(i:Int)<(n:Int):=by omega
 unfold execOp
 simp [hx,hix,Instr.indexAt,asIntOf,run_underlying un_stps,h0,bM]
 intro h
 omega
end
end Go.Proofs.YtnllomcajijbjaaGreatDoor
