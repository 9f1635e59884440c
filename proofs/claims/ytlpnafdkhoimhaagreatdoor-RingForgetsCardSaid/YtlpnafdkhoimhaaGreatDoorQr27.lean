import Derived.Test.YtlpnafdkhoimhaaGreatDoorQr26
import Derived.Test.YtlpnafdkhoimhaaGreatDoorQr15
import Derived.Test.YtlpnafdkhoimhaaGreatDoorQr16
set_option maxRecDepth 100000
set_option maxHeartbeats 4000000
namespace Go.Proofs.YtlpnafdkhoimhaaGreatDoor
open Go Go.RowKit Go.Maps
structure Sv (w0 w:World) (g mb:Nat) (kv:Value) (sb hb:Nat) (d:Dk) (t:Slt) (k:Nat) (rows:List (Nat×List Value×TypeId)):Prop where
 mem:Mem w0 [] w rows
 at_:SlAt w g mb kv sb hb d t
 inv:Inv d t
 cm:Cm d k
 new:∀q∈footS g mb kv sb hb,w0.heap.size≤q
 apart:∀r∈rows,r.1 ∉ footS g mb kv sb hb
section
variable {w0 w w':World} {g mb:Nat} {kv:Value} {sb hb:Nat} {d d':Dk} {t t':Slt} {k k':Nat} {rows:List (Nat×List Value×TypeId)}
theorem Sv.turn (h:Sv w0 w g mb kv sb hb d t k rows) (ha:SlAt w' g mb kv sb hb d' t') (hi:Inv d' t') (hc:Cm d' k') (hu:UpdS (footS g mb kv sb hb) w w'):Sv w0 w' g mb kv sb hb d' t' k' rows:=by
 refine ⟨⟨hu.os.trans h.mem.os,hu.tape.trans h.mem.tape,hu.output.trans h.mem.output,Nat.le_trans h.mem.size hu.size,fun q hq hn=>?_,fun r hr=>hu.row (h.mem.row r hr) (h.apart r hr),h.mem.nodup,h.mem.fresh⟩,ha,hi,hc,h.new,h.apart⟩
 refine (hu.block q (Nat.lt_of_lt_of_le hq h.mem.size) (fun hh=>?_)).trans (h.mem.block q hq hn)
 have:=h.new q hh
 omega
theorem Sv.below (h:Sv w0 w g mb kv sb hb d t k rows) (hbb:Below w.heap.size w w'):Sv w0 w' g mb kv sb hb d t k rows:=⟨h.mem.call hbb,h.at_.below hbb,h.inv,h.cm,h.new,h.apart⟩
theorem Sv.tail {r:Nat×List Value×TypeId} (h:Sv w0 w g mb kv sb hb d t k (r::rows)):Sv w0 w g mb kv sb hb d t k rows:=⟨h.mem.tail,h.at_,h.inv,h.cm,h.new,fun q hq=>h.apart q (List.mem_cons_of_mem _ hq)⟩
theorem Sv.mono (h:Sv w0 w g mb kv sb hb d t k rows) (hk:k≤k'):Sv w0 w g mb kv sb hb d t k' rows:=⟨h.mem,h.at_,h.inv,h.cm.mono hk,h.new,h.apart⟩
theorem Sv.add (h:Sv w0 w g mb kv sb hb d t k rows) {q:Nat} {l:List Value} {ty:TypeId} (hbb:Below w.heap.size w w') (hr:Row w' q l ty) (hq:w.heap.size≤q):Sv w0 w' g mb kv sb hb d t k ((q,l,ty)::rows):=by
 refine ⟨h.mem.callNew hbb hr hq,h.at_.below hbb,h.inv,h.cm,h.new,fun r hr=>?_⟩
 rcases List.mem_cons.1 hr with rfl|hr
 ·intro hk
  have:=h.at_.lt _ hk
  simp at this
  omega
 ·exact h.apart r hr
theorem Sv.upd (h:Sv w0 w g mb kv sb hb d t k rows) (i:Nat) {q:Nat} {l l':List Value} {ty:TypeId} (hi:rows[i]?=some (q,l,ty)) (hu:Upd q w w') (hr:Row w' q l' ty):Sv w0 w' g mb kv sb hb d t k (rows.set i (q,l',ty)):=by
 have hmem:=List.mem_of_getElem? hi
 have ha:=h.apart _ hmem
 refine ⟨h.mem.upd i hi hu hr,h.at_.keep (fun k hk=>hu.block k (h.at_.lt k hk) (fun e=>ha (e▸hk))),h.inv,h.cm,h.new,fun r hr=>?_⟩
 rcases List.mem_or_eq_of_mem_set hr with h1|h1
 ·exact h.apart r h1
 ·subst h1
  exact ha
theorem Sv.tab (h:Sv w0 w g mb kv sb hb d t k rows) (ht:Tab w0):Tab w:=Tab.mem ht h.mem (by simp)
theorem Sv.qtab (h:Sv w0 w g mb kv sb hb d t k rows) (ht:QTab w0):QTab w:=QTab.mem ht h.mem (by simp)
theorem Sv.old (h:Sv w0 w g mb kv sb hb d t k rows) {v:Value} {cs:List Int} (hv:SlOld w0 v cs):SlA w (foot g mb kv) v cs:=SlA.of_old hv h.mem (fun q hq=>h.new q (by simp [footS,hq]))
theorem erase_nv (h:Sv w0 w g mb kv sb hb d t k rows) (i:Int) (hi:okI i=false) :
  Calls Tryz.prog 44 #[.pointer (some ⟨sb,0,none⟩),.int .i64 i] w fun e w'=>e=.returned (.int .i64 70)∧w'=w:=by
 have hr:refI t i=70:=by unfold refI;rw [if_neg (by rw [h.inv.dead];simp),if_neg (by rw [hi];simp)]
 refine (erase_no g mb kv sb hb d t i (by rw [hr];omega) w h.at_).mono ?_
 rintro e w' ⟨rfl,h1⟩
 exact ⟨by rw [hr],h1⟩
theorem used_v (h:Sv w0 w g mb kv sb hb d t k rows) :
  Calls Tryz.prog 24 #[.pointer (some ⟨sb,0,none⟩)] w fun e w'=>∃v,e=.returned v∧Ints w' w.heap.size v (usedL t.held 24)∧Sv w0 w' g mb kv sb hb d t k rows∧Below w.heap.size w w':=by
 refine (used_any g mb kv sb hb d t w h.at_).mono ?_
 rintro e w' ⟨v,rfl,h1,h2⟩
 exact ⟨v,rfl,h1,h.below h2,h2⟩
theorem crash_v (h:Sv w0 w g mb kv sb hb d t k rows) (cs:List Int) (vc:Value) (hcb:Bytes cs) (hs:SlA w (foot g mb kv) vc cs) :
  Calls Tryz.prog 20 #[.pointer (some ⟨g,0,none⟩),vc] w fun e w'=>e=.returned (.tuple #[])∧Sv w0 w' g mb kv sb hb (d.crash cs) t k rows∧UpdS (foot g mb kv) w w':=by
 refine (crash_any g mb kv d cs vc hcb w h.at_.dk hs).mono ?_
 rintro e w' ⟨rfl,h1,h2⟩
 exact ⟨rfl,h.turn (h.at_.disk h1 h2) (inv_crash h.inv cs).1 (cm_crash h.cm.nm cs) (h2.mono (fun q hq=>by simp [footS,hq])),h2⟩
theorem Sv.again (h:Sv w0 w g mb kv sb hb d t k rows) {s2 h2:Nat} (ha:SlAt w' g mb kv s2 h2 d' t') (hi:Inv d' t') (hc:Cm d' k') (hs:w.heap.size≤s2) (hh:w.heap.size≤h2) (hu:UpdS (foot g mb kv) w w'):Sv w0 w' g mb kv s2 h2 d' t' k' rows:=by
 have hu2:UpdS (footS g mb kv sb hb) w w':=hu.mono (fun q hq=>by simp [footS,hq])
 refine ⟨⟨hu.os.trans h.mem.os,hu.tape.trans h.mem.tape,hu.output.trans h.mem.output,Nat.le_trans h.mem.size hu.size,fun q hq hn=>?_,fun r hr=>hu2.row (h.mem.row r hr) (h.apart r hr),h.mem.nodup,h.mem.fresh⟩,ha,hi,hc,fun q hq=>?_,fun r hr hk=>?_⟩
 ·refine (hu.block q (Nat.lt_of_lt_of_le hq h.mem.size) (fun hh=>?_)).trans (h.mem.block q hq hn)
  have:=h.new q (by simp [footS,hh])
  omega
 ·have h9:=h.mem.size
  simp only [footS,List.mem_cons] at hq
  rcases hq with rfl|rfl|hq
  ·omega
  ·omega
  ·exact h.new q (by simp [footS,hq])
 ·have h8:=(h.mem.row r hr).lt
  have h9:=h.apart r hr
  simp only [footS,List.mem_cons] at hk h9
  rcases hk with e|e|hk
  ·omega
  ·omega
  ·exact h9 (Or.inr (Or.inr hk))
end
section
variable {w0 w w':World} {g mb:Nat} {kv:Value} {sb hb:Nat} {d:Dk} {t:Slt} {k:Nat} {rows:List (Nat×List Value×TypeId)}
theorem put_w (h:Sv w0 w g mb kv sb hb d t k rows) (ht:Tab w0) (hq:QTab w0) (hk:k≤1000000) (hp:t.puts<200) (i:Nat) (hi:i<24) (kek key:List Int) (hkl:kek.length=32) (hkb:Bytes kek) (hyl:key.length=32) (hyb:Bytes key) (t':Slt) (ht':t'=putS t i (entN t i kek key)) :
  Calls Tryz.prog 42 #[.pointer (some ⟨sb,0,none⟩),.int .i64 (i:Int),.agg (u8s kek).toArray,.agg (u8s key).toArray] w fun e w'=>e=.returned (.int .i64 0)∧(∃d',Sv w0 w' g mb kv sb hb d' t' (k+1000) rows)∧UpdS (footS g mb kv sb hb) w w':=by
 have hc:=cm_put h.cm h.inv.n2 t i (entN t i kek key)
 have hI:=put_inv h.inv hp hi (entN_ok (k:=i) (kek:=kek) hp hyl hyb) hc.2
 refine (put_good g mb kv sb hb d t i hi kek key k hkl hkb hyl hyb h.inv.dead hp h.inv.n h.inv.n2 h.cm.nm hk w (h.tab ht) (h.qtab hq) h.at_ hc.2).mono ?_
 rintro e w' ⟨rfl,h1,h2⟩
 exact ⟨rfl,⟨_,by rw [ht'];exact h.turn h1 hI.1 hc.1 h2⟩,h2⟩
theorem erase_w (h:Sv w0 w g mb kv sb hb d t k rows) (hk:k≤1000000) (i:Nat) (hi:i<24) (t':Slt) (ht':t'=eraS t i) :
  Calls Tryz.prog 44 #[.pointer (some ⟨sb,0,none⟩),.int .i64 (i:Int)] w fun e w'=>e=.returned (.int .i64 0)∧(∃d',Sv w0 w' g mb kv sb hb d' t' (k+1000) rows)∧UpdS (footS g mb kv sb hb) w w':=by
 have hc:=cm_era h.cm h.inv.n2 t i
 have hI:=erase_inv h.inv hi hc.2
 refine (erase_good g mb kv sb hb d t i hi k h.inv.dead h.inv.n h.inv.n2 h.cm.nm hk w h.at_ hc.2).mono ?_
 rintro e w' ⟨rfl,h1,h2⟩
 exact ⟨rfl,⟨_,by rw [ht'];exact h.turn h1 hI.1 hc.1 h2⟩,h2⟩
end
/-- A disk that has just come, and slots made on it. -/
theorem make_new {w0 w:World} {g mb n:Nat} {kv:Value} {rows:List (Nat×List Value×TypeId)} (hn:64≤n) (hn2:n≤200) (hm:Mem w0 [] w rows) (hd:DkAt w g mb kv (Dk.new n)) (hf:∀q∈foot g mb kv,w0.heap.size≤q) (hap:∀r∈rows,r.1 ∉ foot g mb kv) (ht:Tab w0) (hqt:QTab w0) :
  Calls Tryz.prog 18 #[.pointer (some ⟨g,0,none⟩)] w fun e w'=>∃s2 h2,e=.returned (.tuple #[.pointer (some ⟨s2,0,none⟩),.int .i64 0])∧Sv w0 w' g mb kv s2 h2 (makeD (Dk.new n)) newS 1000 rows∧UpdS (foot g mb kv) w w'∧w.heap.size≤s2∧w.heap.size≤h2:=by
 have hc:=cm_new n
 have hok:SltOk (loadS (Dk.new n)):=by rw [new_load];exact newS_ok
 have ht2:=hqt.lt
 refine (makeS_any g mb kv (Dk.new n) 0 hc.off hc.left hn hn2 hc.nm (by omega) hok (fun q hq=>by have:=hf q hq;omega) w (Tab.mem ht hm (by simp)) hd).mono ?_
 rintro e w' ⟨s2,h2,rfl,ha,hs,hh,hu⟩
 have h9:=hm.size
 refine ⟨s2,h2,rfl,⟨⟨hu.os.trans hm.os,hu.tape.trans hm.tape,hu.output.trans hm.output,Nat.le_trans hm.size hu.size,fun q hq hn=>?_,fun r hr=>hu.row (hm.row r hr) (hap r hr),hm.nodup,hm.fresh⟩,ha,(make_inv hc.left hc.off hn hn2 hok).1,(cm_make hc hn2).mono (by omega),fun q hq=>?_,fun r hr hk=>?_⟩,hu,hs,hh⟩
 ·refine (hu.block q (Nat.lt_of_lt_of_le hq hm.size) (fun hh=>?_)).trans (hm.block q hq hn)
  have:=hf q hh
  omega
 ·simp only [footS,List.mem_cons] at hq
  rcases hq with rfl|rfl|hq
  ·omega
  ·omega
  ·exact hf q hq
 ·have h8:=(hm.row r hr).lt
  have h7:=hap r hr
  simp only [footS,List.mem_cons] at hk
  rcases hk with e|e|hk
  ·omega
  ·omega
  ·exact h7 hk
theorem unw_own (kek key:List Int) (i p:Nat) (hl:key.length=32) (hb:Bytes key):unwV kek i (p,sealOf kek (nonceOf (i:Int) (p:Int)) labWrap key)=(key,0):=by
 have h1:(sealOf kek (nonceOf (i:Int) (p:Int)) labWrap key).take 32=encOf kek (nonceOf (i:Int) (p:Int)) key:=by rw [←hl];exact sealOf_take _ _ _ _
 have h2:(sealOf kek (nonceOf (i:Int) (p:Int)) labWrap key).drop 32=tagOf kek (nonceOf (i:Int) (p:Int)) labWrap (encOf kek (nonceOf (i:Int) (p:Int)) key):=by rw [←hl];exact sealOf_drop _ _ _ _
 unfold unwV unwOk
 simp only [h1,h2,decide_true,if_true]
 rw [encOf_twice _ _ hb]
theorem getV_own {held:Nat→Option Ent} {i:Nat} {x:Ent} (hi:i<24) (h:held i=some x) (kek:List Int):getV held (i:Int) kek=unwV kek i x:=by
 unfold getV okI
 rw [if_pos (decide_eq_true (by omega)),Int.toNat_natCast,h]
theorem getV_none {held:Nat→Option Ent} {i:Nat} (hi:i<24) (h:held i=none) (kek:List Int):getV held (i:Int) kek=(zero32,120):=by
 unfold getV okI
 rw [if_pos (decide_eq_true (by omega)),Int.toNat_natCast,h]
theorem ig {t:Slt} {i:Nat} (hi:i<24) (kek key:List Int) (hl:key.length=32) (hb:Bytes key):getV (putS t i (entN t i kek key)).held (i:Int) kek=(key,0):=by
 have h1:(putS t i (entN t i kek key)).held i=some (entN t i kek key):=bo _ _ _
 rw [getV_own hi h1]
 exact unw_own kek key i (t.puts+1) hl hb
section
variable {ops:Array Oper} {rest:List Oper} {a:Act} {w:World} {Q:Exit→Act→World→Prop} {dst:Option Tmp} {typ:TypeId} {pos:String} {aft:Array Edge} {P:Program}
theorem aY {ty:TypeId} (z:List Value) (hz:∀w,(zeroValue ty).run P w=.ok (.agg z.toArray) w) (h:∀w' q,Below w.heap.size w w'→w.heap.size≤q→Row w' q z ty→wpList P ops Q rest (a.put dst (.pointer (some ⟨q,0,none⟩))) w') :
  wpList P ops Q ({dst:=dst,op:=.alloc ty,type:=typ,pos:=pos,after:=aft,guard:=none}::rest) a w:=by
 refine ag z hz (Mem.start w) ?_
 intro w' q hm
 have hf:=hm.fresh _ (List.mem_cons_self ..)
 simp only [List.not_mem_nil,false_or] at hf
 exact h w' q hm.below hf (hm.get 0 rfl)
theorem bH {ty:TypeId} {x y:Operand} {q:Nat} {l:List Value} {t:TypeId} (l':List Value) (hr:Row w q l t) (hx:a.eval x=.pointer (some ⟨q,0,none⟩)) (hy:a.eval y=.agg l'.toArray) (n:Nat) (hs:(P.info? ty).map (·.size)=some n) (hn:l.length=n) (hn':l'.length=n) (h1:∀v∈l',v.oneCell'=true)
  (h:∀w',Upd q w w'→Row w' q l' t→wpList P ops Q rest a w') :
  wpList P ops Q ({dst:=none,op:=.store ty x y,type:=typ,pos:=pos,after:=aft,guard:=none}::rest) a w:=by
 refine ah 0 l' (Mem.enter hr) rfl hx hy n hs hn hn' h1 ?_
 intro w' hm
 exact h w' hm.toUpd (hm.get 0 rfl)
end
open Go Go.RowKit Go.Maps
abbrev Pls:=List (List ByteArray×Int)
def lkp (p:Pls) (ks:List ByteArray):Option Int:=(p.find? (fun x=>decide (x.1=ks))).map (·.2)
def hasB (p:Pls) (ks:List ByteArray):Bool:=(lkp p ks).isSome||decide (ks=[])
def rgK (p:Pls):Value→Value→Prop:=fun k v=>∃ks n,PlOk ks∧lkp p ks=some n∧k=.agg (plv ks).toArray∧v=.int .i64 n
def rgC (root:List Int) (sb m:Nat):List Value:=u8s root++[.pointer (some ⟨sb,0,none⟩),.map (some m)]
theorem du {root:List Int} {sb m:Nat} (h:root.length=32):(rgC root sb m)[33]?=some (.map (some m)):=by
 unfold rgC
 rw [List.getElem?_append_right (by rw [aa];omega),aa,h];rfl
theorem ek {root:List Int} {sb m:Nat} (h:root.length=32):(rgC root sb m)[32]?=some (.pointer (some ⟨sb,0,none⟩)):=by
 unfold rgC
 rw [List.getElem?_append_right (by rw [aa];omega),aa,h];rfl
theorem rgC_root {root:List Int} {sb m:Nat} (h:root.length=32):((rgC root sb m).drop 0).take 32=u8s root:=by
 unfold rgC
 rw [List.drop_zero,List.take_append_of_le_length (by rw [aa];omega),List.take_of_length_le (by rw [aa];omega)]
theorem rgC_len {root:List Int} {sb m:Nat} (h:root.length=32):(rgC root sb m).length=34:=by
 unfold rgC
 rw [List.length_append,aa,h];rfl
theorem eX:Tryz.prog.underlying 90=some (.map 76 3):=Tryz.underlying90
theorem dA:∀w,(isAgg 90).run Tryz.prog w=.ok false w:=by intro w;simp [go_sem]
theorem iW:∀w,(isAgg 25).run Tryz.prog w=.ok false w:=by intro w;simp [go_sem]
theorem zero_i:∀w,(zeroValue 3).run Tryz.prog w=.ok (.int .i64 0) w:=(zero_of_info (show (Tryz.prog.info? 3).map (fun i=>(i.zero,i.size))=some (some (.int .i64 0),1) by kernel_rfl)).1
structure RgAt (w:World) (rb m sb c:Nat) (root:List Int) (p:Pls):Prop where
 row:Row w rb (rgC root sb m) 92
 map:∃q,q≤c∧KM Tryz.prog 76 w m q (rgK p)
 rl:root.length=32
 rB:Bytes root
theorem RgAt.below {w w':World} {rb m sb c:Nat} {root:List Int} {p:Pls} (h:RgAt w rb m sb c root p) (hb:Below w.heap.size w w'):RgAt w' rb m sb c root p:=by
 obtain ⟨q,hq,hk⟩:=h.map
 exact ⟨Row.bel h.row hb,⟨q,hq,hk.below hb⟩,h.rl,h.rB⟩
theorem rgK_val {p:Pls} {ks:List ByteArray} (hk:PlOk ks) {v:Value} (h:rgK p (.agg (plv ks).toArray) v):∃n,lkp p ks=some n∧v=.int .i64 n:=by
 obtain ⟨qs,n,hq,hl,he,rfl⟩:=h
 obtain rfl:=fL hk hq he
 exact ⟨n,hl,rfl⟩
theorem RgAt.look {w:World} {rb m sb c:Nat} {root:List Int} {p:Pls} (h:RgAt w rb m sb c root p) {ks:List ByteArray} (hk:PlOk ks) (n:Int) (b:Bool) (hn:n=(lkp p ks).getD 0) (hb:b=(lkp p ks).isSome) :
  (Instr.lookup 90 (.map (some m)) (.agg (plv ks).toArray) true).run Tryz.prog w=.ok (.tuple #[.int .i64 n,.bool b]) w:=by
 obtain ⟨q,_,km⟩:=h.map
 obtain ⟨kl,hkl⟩:=je hk
 subst hn hb
 cases hl:lkp p ks with
 | none=>exact km.lookNo dD eX (zero_i w) hkl (fun v hv=>by obtain ⟨n,h1,_⟩:=rgK_val hk hv;rw [hl] at h1;cases h1)
 | some n=>exact km.look dD eX (zero_i w) hkl ⟨ks,n,hk,hl,rfl,rfl⟩
theorem RgAt.look1 {w:World} {rb m sb c:Nat} {root:List Int} {p:Pls} (h:RgAt w rb m sb c root p) {ks:List ByteArray} (hk:PlOk ks) (n:Int) (hn:n=(lkp p ks).getD 0) :
  (Instr.lookup 90 (.map (some m)) (.agg (plv ks).toArray) false).run Tryz.prog w=.ok (.int .i64 n) w:=by
 obtain ⟨q,_,km⟩:=h.map
 obtain ⟨kl,hkl⟩:=je hk
 subst hn
 cases hl:lkp p ks with
 | none=>exact km.look1No dD eX (zero_i w) hkl (fun v hv=>by obtain ⟨n,h1,_⟩:=rgK_val hk hv;rw [hl] at h1;cases h1)
 | some n=>exact km.look1 dD eX (zero_i w) hkl ⟨ks,n,hk,hl,rfl,rfl⟩
theorem has_r {w:World} {rb m sb c:Nat} {root:List Int} {p:Pls} (h:RgAt w rb m sb c root p) {ks:List ByteArray} (hk:PlOk ks) (r:Bool) (hr:r=hasB p ks) :
  Calls Tryz.prog 34 #[.pointer (some ⟨rb,0,none⟩),.agg (plv ks).toArray] w fun e w'=>e=.returned (.bool r)∧Below w.heap.size w w':=by
 have hm:=Mem.start w
 have HR:Hid (RgAt w rb m sb c root p):=h
 clear h
 have HK:Hid (∀_:Unit,PlOk ks):=fun _=>hk
 obtain ⟨n,hn⟩:∃n,n=(lkp p ks).getD 0:=⟨_,rfl⟩
 have HN:Hid (∀_:Unit,n=(lkp p ks).getD 0):=fun _=>hn
 obtain ⟨b,hb⟩:∃b,b=(lkp p ks).isSome:=⟨_,rfl⟩
 obtain ⟨b2,hb2⟩:∃b,b=decide (ks=[]):=⟨_,rfl⟩
 have HB:Hid (∀_:Unit,b=(lkp p ks).isSome):=fun _=>hb
 have HI:Hid (∀W,Calls Tryz.prog 67 #[.agg (plv ks).toArray] W fun e w'=>e=.returned (.bool b2)∧Below W.heap.size W w'):=fun W=>ld hk b2 hb2 W
 have hr2:r=(b||b2):=by rw [hr,hasB,hb,hb2]
 clear hk hn hb hb2 hr
 cases b with
 | true =>
  subst hr2
  go_enter Tryz.func34,Tryz.ntmps34
  go_wp2_with (first
   | ((with_reducible refine ae (some 3) (.box 76 (.tmp 1)) ?_);refine az (plv ks) rfl hm ?_;clear hm;intro w1 g3 hm))
  refine aA ?_
  refine aC (T:=fun W=>Mem w [] W [(g3,plv ks,76)]) (by kernel_rfl) hm ?_
  intro wc hbw hmw
  clear hm
  have hm:=hmw
  clear hbw hmw
  refine aT 0 (v:=.pointer (some ⟨rb,0,none⟩)) rfl (by kernel_rfl) rfl (fun W _=>by go_simp) hm ?_
  go_simp
  refine aT 1 (v:=.pointer (some ⟨rb,0,none⟩)) rfl (by kernel_rfl) rfl (fun W _=>by go_simp) hm ?_
  go_simp
  refine aT 2 (v:=.pointer (some ⟨rb,33,none⟩)) rfl (by kernel_rfl) rfl (fun W _=>by go_simp) hm ?_
  go_simp
  refine aT 3 (v:=.map (some m)) rfl (by kernel_rfl) rfl (fun W hW=>aK 33 (.map (some m)) ((HR.out.below (Mem.below (hW))).row) rfl dA (du HR.out.rl)) hm ?_
  go_simp
  refine aT 4 (v:=.agg (plv ks).toArray) rfl (by kernel_rfl) rfl (fun W hW=>au 0 (plv ks) (Mem.get hW 0 rfl) rfl _ aI rfl 3 ax (Nat.le_refl 3) rfl) hm ?_
  go_simp
  refine aT 5 (v:=.tuple #[.int .i64 n,.bool true]) rfl (by kernel_rfl) rfl (fun W hW=>bi ((HR.out.below (Mem.below hW)).look (HK.out ()) n _ (HN.out ()) (HB.out ())) rfl rfl) hm ?_
  go_simp
  refine aT 6 (v:=.tuple #[.int .i64 n,.bool true]) rfl (by kernel_rfl) rfl (fun W _=>by go_simp) hm ?_
  go_simp
  refine aT 7 (v:=.int .i64 n) rfl (by kernel_rfl) rfl (fun W _=>by go_simp) hm ?_
  go_simp
  refine aT 8 (v:=.bool true) rfl (by kernel_rfl) rfl (fun W _=>by go_simp) hm ?_
  go_simp
  refine aT 9 (v:=.int .i64 n) rfl (by kernel_rfl) rfl (fun W _=>by go_simp) hm ?_
  go_simp
  refine aT 10 (v:=.bool true) rfl (by kernel_rfl) rfl (fun W _=>by go_simp) hm ?_
  go_simp
  refine wpAnyH_done (by kernel_rfl) ?_ _
  simp only [endsIn]
  go_wp2_with fail
  go_ret
  exact ⟨rfl,hm.below⟩
 | false =>
  subst hr2
  go_enter Tryz.func34,Tryz.ntmps34
  go_wp2_with (first
   | ((with_reducible refine ae (some 3) (.box 76 (.tmp 1)) ?_);refine az (plv ks) rfl hm ?_;clear hm;intro w1 g3 hm))
  refine aA ?_
  refine aC (T:=fun W=>Mem w [] W [(g3,plv ks,76)]) (by kernel_rfl) hm ?_
  intro wc hbw hmw
  clear hm
  have hm:=hmw
  clear hbw hmw
  refine aT 0 (v:=.pointer (some ⟨rb,0,none⟩)) rfl (by kernel_rfl) rfl (fun W _=>by go_simp) hm ?_
  go_simp
  refine aT 1 (v:=.pointer (some ⟨rb,0,none⟩)) rfl (by kernel_rfl) rfl (fun W _=>by go_simp) hm ?_
  go_simp
  refine aT 2 (v:=.pointer (some ⟨rb,33,none⟩)) rfl (by kernel_rfl) rfl (fun W _=>by go_simp) hm ?_
  go_simp
  refine aT 3 (v:=.map (some m)) rfl (by kernel_rfl) rfl (fun W hW=>aK 33 (.map (some m)) ((HR.out.below (Mem.below (hW))).row) rfl dA (du HR.out.rl)) hm ?_
  go_simp
  refine aT 4 (v:=.agg (plv ks).toArray) rfl (by kernel_rfl) rfl (fun W hW=>au 0 (plv ks) (Mem.get hW 0 rfl) rfl _ aI rfl 3 ax (Nat.le_refl 3) rfl) hm ?_
  go_simp
  refine aT 5 (v:=.tuple #[.int .i64 n,.bool false]) rfl (by kernel_rfl) rfl (fun W hW=>bi ((HR.out.below (Mem.below hW)).look (HK.out ()) n _ (HN.out ()) (HB.out ())) rfl rfl) hm ?_
  go_simp
  refine aT 6 (v:=.tuple #[.int .i64 n,.bool false]) rfl (by kernel_rfl) rfl (fun W _=>by go_simp) hm ?_
  go_simp
  refine aT 7 (v:=.int .i64 n) rfl (by kernel_rfl) rfl (fun W _=>by go_simp) hm ?_
  go_simp
  refine aT 8 (v:=.bool false) rfl (by kernel_rfl) rfl (fun W _=>by go_simp) hm ?_
  go_simp
  refine aT 9 (v:=.int .i64 n) rfl (by kernel_rfl) rfl (fun W _=>by go_simp) hm ?_
  go_simp
  refine aT 10 (v:=.bool false) rfl (by kernel_rfl) rfl (fun W _=>by go_simp) hm ?_
  go_simp
  refine wpAnyH_done (by kernel_rfl) ?_ _
  simp only [endsIn]
  go_wp2_with (first
   | ((with_reducible refine bA (some 18) (.load 76 (.tmp 3)) (some (1,false)) ?_);go_must (refine aj (.agg (plv ks).toArray) rfl (au 0 (plv ks) (hm.get 0 rfl) rfl _ aI rfl 3 ax (Nat.le_refl 3) rfl) ?_))
   | (go_at_call 67;refine (HI.out _).mono ?_;rintro e w' ⟨he,hb⟩;subst he;replace hm:=hm.call hb;clear hb))
  go_ret
  exact ⟨rfl,hm.below⟩
def vacE (p:Pls) (ok:Bool) (ks:List ByteArray):Int:=if ok=false then 110 else if decide (ks=[])=true then 110 else if hasB p ks=true then 101 else if hasB p ks.dropLast=true then 0 else 100
def takE (p:Pls) (ok:Bool) (ks:List ByteArray):Int:=if ok=false then 110 else if decide (ks=[])=true then 110 else if hasB p ks=true then 0 else 100
def okPl (e:Int) (ks:List ByteArray):List ByteArray:=if e=0 then ks else []
theorem kK {w:World} {rb m sb c:Nat} {root:List Int} {p:Pls} (h:RgAt w rb m sb c root p) (s:ByteArray) (hs:s.size≤1000) (hM:MaxL w) :
  Calls Tryz.prog 40 #[.pointer (some ⟨rb,0,none⟩),.string s] w fun e w'=>e=.returned (.tuple #[.agg (plv (okPl (vacE p (isP (bs s)) (segsB s)) (segsB s))).toArray,.int .i64 (vacE p (isP (bs s)) (segsB s))])∧Below w.heap.size w w':=by
 have hm:=Mem.start w
 have HR:Hid (RgAt w rb m sb c root p):=h
 clear h
 have HM:Hid (MaxL w):=hM
 obtain ⟨ks,hks⟩:∃ks,ks=segsB s:=⟨_,rfl⟩
 have hk:PlOk ks:=by rw [hks];exact cX s
 obtain ⟨b0,hb0⟩:∃b,b=isP (bs s):=⟨_,rfl⟩
 obtain ⟨b1,hb1⟩:∃b,b=decide (ks=[]):=⟨_,rfl⟩
 obtain ⟨b2,hb2⟩:∃b,b=hasB p ks:=⟨_,rfl⟩
 obtain ⟨b3,hb3⟩:∃b,b=hasB p ks.dropLast:=⟨_,rfl⟩
 have HPL:Hid (∀W,MaxL W→Calls Tryz.prog 33 #[.string s] W fun e w'=>e=.returned (.tuple #[.agg (plv ks).toArray,.bool b0])∧Below W.heap.size W w'):=fun W hW=>by rw [hks,hb0];exact jh s W hs hW
 have HIR:Hid (∀W,Calls Tryz.prog 67 #[.agg (plv ks).toArray] W fun e w'=>e=.returned (.bool b1)∧Below W.heap.size W w'):=fun W=>ld hk b1 hb1 W
 have HH:Hid (∀W,Below w.heap.size w W→Calls Tryz.prog 34 #[.pointer (some ⟨rb,0,none⟩),.agg (plv ks).toArray] W fun e w'=>e=.returned (.bool b2)∧Below W.heap.size W w'):=fun W hW=>has_r (HR.out.below hW) hk b2 hb2
 have HP:Hid (∀W,Calls Tryz.prog 41 #[.agg (plv ks).toArray] W fun e w'=>e=.returned (.agg (plv ks.dropLast).toArray)∧Below W.heap.size W w'):=fun W=>kG hk W
 have HHP:Hid (∀W,Below w.heap.size w W→Calls Tryz.prog 34 #[.pointer (some ⟨rb,0,none⟩),.agg (plv ks.dropLast).toArray] W fun e w'=>e=.returned (.bool b3)∧Below W.heap.size W w'):=fun W hW=>has_r (HR.out.below hW) hk.drop b3 hb3
 rw [vacE,←hks,←hb0,←hb1,←hb2,←hb3]
 clear hM hks hk hb0 hb1 hb2 hb3 hs
 have tk1:Nat:=0
 have tk2:Nat:=0
 cases b0 with
 | false =>
  go_enter Tryz.func40,Tryz.ntmps40
  go_wp2_with (first
   | ((with_reducible refine ae (some 4) (.alloc 76) ?_);refine ag _ aR hm ?_;clear hm;intro w1 g4 hm)
   | ((with_reducible refine ae (some 6) (.alloc 76) ?_);refine ag _ aR hm ?_;clear hm;intro w2 g6 hm)
   | (go_at_call 33;refine (HPL.out _ (HM.out.below hm.below)).mono ?_;rintro e w' ⟨he,hb⟩;subst he;replace hm:=hm.call hb;clear hb)
   | ((with_reducible refine ae none (.store 76 (.tmp 6) (.tmp 11)) ?_);refine ah 0 (plv ks) hm rfl rfl rfl 3 ax rfl rfl (aB _) ?_;clear hm;intro w3 hm)
   | (go_at_call 67;refine (HIR.out _).mono ?_;rintro e w' ⟨he,hb⟩;subst he;replace hm:=hm.call hb;clear hb)
   | (clear tk1;go_at_call 34;refine (HH.out _ hm.below).mono ?_;rintro e w' ⟨he,hb⟩;subst he;replace hm:=hm.call hb;clear hb)
   | ((with_reducible refine ae (some 23) (.load 76 (.tmp 6)) ?_);refine av 0 hm rfl rfl _ aI rfl 3 ax (by rfl) ?_)
   | ((with_reducible refine ae (some 28) (.load 76 (.tmp 6)) ?_);refine av 0 hm rfl rfl _ aI rfl 3 ax (by rfl) ?_)
   | (go_at_call 41;refine (HP.out _).mono ?_;rintro e w' ⟨he,hb⟩;subst he;replace hm:=hm.call hb;clear hb)
   | (clear tk2;go_at_call 34;refine (HHP.out _ hm.below).mono ?_;rintro e w' ⟨he,hb⟩;subst he;replace hm:=hm.call hb;clear hb)
   | ((with_reducible refine ae (some 20) (.build 76 #[]) ?_);refine ay (plv []) [] rfl (by kernel_rfl) ?_)
   | ((with_reducible refine ae none (.store 76 (.tmp 4) (.tmp 20)) ?_);refine ah 1 (plv []) hm rfl rfl rfl 3 ax rfl rfl (aB _) ?_;clear hm;intro w4 hm)
   | ((with_reducible refine ae (some 25) (.build 76 #[]) ?_);refine ay (plv []) [] rfl (by kernel_rfl) ?_)
   | ((with_reducible refine ae none (.store 76 (.tmp 4) (.tmp 25)) ?_);refine ah 1 (plv []) hm rfl rfl rfl 3 ax rfl rfl (aB _) ?_;clear hm;intro w4 hm)
   | ((with_reducible refine ae (some 32) (.build 76 #[]) ?_);refine ay (plv []) [] rfl (by kernel_rfl) ?_)
   | ((with_reducible refine ae none (.store 76 (.tmp 4) (.tmp 32)) ?_);refine ah 1 (plv []) hm rfl rfl rfl 3 ax rfl rfl (aB _) ?_;clear hm;intro w4 hm)
   | ((with_reducible refine ae (some 33) (.load 76 (.tmp 6)) ?_);refine av 0 hm rfl rfl _ aI rfl 3 ax (by rfl) ?_)
   | ((with_reducible refine ae none (.store 76 (.tmp 4) (.tmp 33)) ?_);refine ah 1 (plv ks) hm rfl rfl rfl 3 ax rfl rfl (aB _) ?_;clear hm;intro w4 hm))
  refine br 1 (.int .i64 110) hm rfl Tryz.results40 rfl rfl _ aI rfl 3 ax rfl rfl ?_
  exact ⟨rfl,hm.below⟩
 | true =>
  cases b1 with
  | true =>
   go_enter Tryz.func40,Tryz.ntmps40
   go_wp2_with (first
    | ((with_reducible refine ae (some 4) (.alloc 76) ?_);refine ag _ aR hm ?_;clear hm;intro w1 g4 hm)
    | ((with_reducible refine ae (some 6) (.alloc 76) ?_);refine ag _ aR hm ?_;clear hm;intro w2 g6 hm)
    | (go_at_call 33;refine (HPL.out _ (HM.out.below hm.below)).mono ?_;rintro e w' ⟨he,hb⟩;subst he;replace hm:=hm.call hb;clear hb)
    | ((with_reducible refine ae none (.store 76 (.tmp 6) (.tmp 11)) ?_);refine ah 0 (plv ks) hm rfl rfl rfl 3 ax rfl rfl (aB _) ?_;clear hm;intro w3 hm)
    | (go_at_call 67;refine (HIR.out _).mono ?_;rintro e w' ⟨he,hb⟩;subst he;replace hm:=hm.call hb;clear hb)
    | ((with_reducible refine bA (some 17) (.load 76 (.tmp 6)) (some (2,false)) ?_);go_must (refine aj (.agg (plv ks).toArray) rfl (au 0 (plv ks) (hm.get 0 rfl) rfl _ aI rfl 3 ax (Nat.le_refl 3) rfl) ?_))
    | (clear tk1;go_at_call 34;refine (HH.out _ hm.below).mono ?_;rintro e w' ⟨he,hb⟩;subst he;replace hm:=hm.call hb;clear hb)
    | ((with_reducible refine ae (some 23) (.load 76 (.tmp 6)) ?_);refine av 0 hm rfl rfl _ aI rfl 3 ax (by rfl) ?_)
    | ((with_reducible refine ae (some 28) (.load 76 (.tmp 6)) ?_);refine av 0 hm rfl rfl _ aI rfl 3 ax (by rfl) ?_)
    | (go_at_call 41;refine (HP.out _).mono ?_;rintro e w' ⟨he,hb⟩;subst he;replace hm:=hm.call hb;clear hb)
    | (clear tk2;go_at_call 34;refine (HHP.out _ hm.below).mono ?_;rintro e w' ⟨he,hb⟩;subst he;replace hm:=hm.call hb;clear hb)
    | ((with_reducible refine ae (some 20) (.build 76 #[]) ?_);refine ay (plv []) [] rfl (by kernel_rfl) ?_)
    | ((with_reducible refine ae none (.store 76 (.tmp 4) (.tmp 20)) ?_);refine ah 1 (plv []) hm rfl rfl rfl 3 ax rfl rfl (aB _) ?_;clear hm;intro w4 hm)
    | ((with_reducible refine ae (some 25) (.build 76 #[]) ?_);refine ay (plv []) [] rfl (by kernel_rfl) ?_)
    | ((with_reducible refine ae none (.store 76 (.tmp 4) (.tmp 25)) ?_);refine ah 1 (plv []) hm rfl rfl rfl 3 ax rfl rfl (aB _) ?_;clear hm;intro w4 hm)
    | ((with_reducible refine ae (some 32) (.build 76 #[]) ?_);refine ay (plv []) [] rfl (by kernel_rfl) ?_)
    | ((with_reducible refine ae none (.store 76 (.tmp 4) (.tmp 32)) ?_);refine ah 1 (plv []) hm rfl rfl rfl 3 ax rfl rfl (aB _) ?_;clear hm;intro w4 hm)
    | ((with_reducible refine ae (some 33) (.load 76 (.tmp 6)) ?_);refine av 0 hm rfl rfl _ aI rfl 3 ax (by rfl) ?_)
    | ((with_reducible refine ae none (.store 76 (.tmp 4) (.tmp 33)) ?_);refine ah 1 (plv ks) hm rfl rfl rfl 3 ax rfl rfl (aB _) ?_;clear hm;intro w4 hm))
   refine br 1 (.int .i64 110) hm rfl Tryz.results40 rfl rfl _ aI rfl 3 ax rfl rfl ?_
   exact ⟨rfl,hm.below⟩
  | false =>
   cases b2 with
   | true =>
    go_enter Tryz.func40,Tryz.ntmps40
    go_wp2_with (first
     | ((with_reducible refine ae (some 4) (.alloc 76) ?_);refine ag _ aR hm ?_;clear hm;intro w1 g4 hm)
     | ((with_reducible refine ae (some 6) (.alloc 76) ?_);refine ag _ aR hm ?_;clear hm;intro w2 g6 hm)
     | (go_at_call 33;refine (HPL.out _ (HM.out.below hm.below)).mono ?_;rintro e w' ⟨he,hb⟩;subst he;replace hm:=hm.call hb;clear hb)
     | ((with_reducible refine ae none (.store 76 (.tmp 6) (.tmp 11)) ?_);refine ah 0 (plv ks) hm rfl rfl rfl 3 ax rfl rfl (aB _) ?_;clear hm;intro w3 hm)
     | (go_at_call 67;refine (HIR.out _).mono ?_;rintro e w' ⟨he,hb⟩;subst he;replace hm:=hm.call hb;clear hb)
     | ((with_reducible refine bA (some 17) (.load 76 (.tmp 6)) (some (2,false)) ?_);go_must (refine aj (.agg (plv ks).toArray) rfl (au 0 (plv ks) (hm.get 0 rfl) rfl _ aI rfl 3 ax (Nat.le_refl 3) rfl) ?_))
     | (clear tk1;go_at_call 34;refine (HH.out _ hm.below).mono ?_;rintro e w' ⟨he,hb⟩;subst he;replace hm:=hm.call hb;clear hb)
     | ((with_reducible refine ae (some 23) (.load 76 (.tmp 6)) ?_);refine av 0 hm rfl rfl _ aI rfl 3 ax (by rfl) ?_)
     | ((with_reducible refine ae (some 28) (.load 76 (.tmp 6)) ?_);refine av 0 hm rfl rfl _ aI rfl 3 ax (by rfl) ?_)
     | (go_at_call 41;refine (HP.out _).mono ?_;rintro e w' ⟨he,hb⟩;subst he;replace hm:=hm.call hb;clear hb)
     | (clear tk2;go_at_call 34;refine (HHP.out _ hm.below).mono ?_;rintro e w' ⟨he,hb⟩;subst he;replace hm:=hm.call hb;clear hb)
     | ((with_reducible refine ae (some 20) (.build 76 #[]) ?_);refine ay (plv []) [] rfl (by kernel_rfl) ?_)
     | ((with_reducible refine ae none (.store 76 (.tmp 4) (.tmp 20)) ?_);refine ah 1 (plv []) hm rfl rfl rfl 3 ax rfl rfl (aB _) ?_;clear hm;intro w4 hm)
     | ((with_reducible refine ae (some 25) (.build 76 #[]) ?_);refine ay (plv []) [] rfl (by kernel_rfl) ?_)
     | ((with_reducible refine ae none (.store 76 (.tmp 4) (.tmp 25)) ?_);refine ah 1 (plv []) hm rfl rfl rfl 3 ax rfl rfl (aB _) ?_;clear hm;intro w4 hm)
     | ((with_reducible refine ae (some 32) (.build 76 #[]) ?_);refine ay (plv []) [] rfl (by kernel_rfl) ?_)
     | ((with_reducible refine ae none (.store 76 (.tmp 4) (.tmp 32)) ?_);refine ah 1 (plv []) hm rfl rfl rfl 3 ax rfl rfl (aB _) ?_;clear hm;intro w4 hm)
     | ((with_reducible refine ae (some 33) (.load 76 (.tmp 6)) ?_);refine av 0 hm rfl rfl _ aI rfl 3 ax (by rfl) ?_)
     | ((with_reducible refine ae none (.store 76 (.tmp 4) (.tmp 33)) ?_);refine ah 1 (plv ks) hm rfl rfl rfl 3 ax rfl rfl (aB _) ?_;clear hm;intro w4 hm))
    refine br 1 (.int .i64 101) hm rfl Tryz.results40 rfl rfl _ aI rfl 3 ax rfl rfl ?_
    exact ⟨rfl,hm.below⟩
   | false =>
    cases b3 with
    | true =>
     go_enter Tryz.func40,Tryz.ntmps40
     go_wp2_with (first
      | ((with_reducible refine ae (some 4) (.alloc 76) ?_);refine ag _ aR hm ?_;clear hm;intro w1 g4 hm)
      | ((with_reducible refine ae (some 6) (.alloc 76) ?_);refine ag _ aR hm ?_;clear hm;intro w2 g6 hm)
      | (go_at_call 33;refine (HPL.out _ (HM.out.below hm.below)).mono ?_;rintro e w' ⟨he,hb⟩;subst he;replace hm:=hm.call hb;clear hb)
      | ((with_reducible refine ae none (.store 76 (.tmp 6) (.tmp 11)) ?_);refine ah 0 (plv ks) hm rfl rfl rfl 3 ax rfl rfl (aB _) ?_;clear hm;intro w3 hm)
      | (go_at_call 67;refine (HIR.out _).mono ?_;rintro e w' ⟨he,hb⟩;subst he;replace hm:=hm.call hb;clear hb)
      | ((with_reducible refine bA (some 17) (.load 76 (.tmp 6)) (some (2,false)) ?_);go_must (refine aj (.agg (plv ks).toArray) rfl (au 0 (plv ks) (hm.get 0 rfl) rfl _ aI rfl 3 ax (Nat.le_refl 3) rfl) ?_))
      | (clear tk1;go_at_call 34;refine (HH.out _ hm.below).mono ?_;rintro e w' ⟨he,hb⟩;subst he;replace hm:=hm.call hb;clear hb)
      | ((with_reducible refine ae (some 23) (.load 76 (.tmp 6)) ?_);refine av 0 hm rfl rfl _ aI rfl 3 ax (by rfl) ?_)
      | ((with_reducible refine ae (some 28) (.load 76 (.tmp 6)) ?_);refine av 0 hm rfl rfl _ aI rfl 3 ax (by rfl) ?_)
      | (go_at_call 41;refine (HP.out _).mono ?_;rintro e w' ⟨he,hb⟩;subst he;replace hm:=hm.call hb;clear hb)
      | (clear tk2;go_at_call 34;refine (HHP.out _ hm.below).mono ?_;rintro e w' ⟨he,hb⟩;subst he;replace hm:=hm.call hb;clear hb)
      | ((with_reducible refine ae (some 20) (.build 76 #[]) ?_);refine ay (plv []) [] rfl (by kernel_rfl) ?_)
      | ((with_reducible refine ae none (.store 76 (.tmp 4) (.tmp 20)) ?_);refine ah 1 (plv []) hm rfl rfl rfl 3 ax rfl rfl (aB _) ?_;clear hm;intro w4 hm)
      | ((with_reducible refine ae (some 25) (.build 76 #[]) ?_);refine ay (plv []) [] rfl (by kernel_rfl) ?_)
      | ((with_reducible refine ae none (.store 76 (.tmp 4) (.tmp 25)) ?_);refine ah 1 (plv []) hm rfl rfl rfl 3 ax rfl rfl (aB _) ?_;clear hm;intro w4 hm)
      | ((with_reducible refine ae (some 32) (.build 76 #[]) ?_);refine ay (plv []) [] rfl (by kernel_rfl) ?_)
      | ((with_reducible refine ae none (.store 76 (.tmp 4) (.tmp 32)) ?_);refine ah 1 (plv []) hm rfl rfl rfl 3 ax rfl rfl (aB _) ?_;clear hm;intro w4 hm)
      | ((with_reducible refine ae (some 33) (.load 76 (.tmp 6)) ?_);refine av 0 hm rfl rfl _ aI rfl 3 ax (by rfl) ?_)
      | ((with_reducible refine ae none (.store 76 (.tmp 4) (.tmp 33)) ?_);refine ah 1 (plv ks) hm rfl rfl rfl 3 ax rfl rfl (aB _) ?_;clear hm;intro w4 hm))
     refine br 1 (.int .i64 0) hm rfl Tryz.results40 rfl rfl _ aI rfl 3 ax rfl rfl ?_
     exact ⟨rfl,hm.below⟩
    | false =>
     go_enter Tryz.func40,Tryz.ntmps40
     go_wp2_with (first
      | ((with_reducible refine ae (some 4) (.alloc 76) ?_);refine ag _ aR hm ?_;clear hm;intro w1 g4 hm)
      | ((with_reducible refine ae (some 6) (.alloc 76) ?_);refine ag _ aR hm ?_;clear hm;intro w2 g6 hm)
      | (go_at_call 33;refine (HPL.out _ (HM.out.below hm.below)).mono ?_;rintro e w' ⟨he,hb⟩;subst he;replace hm:=hm.call hb;clear hb)
      | ((with_reducible refine ae none (.store 76 (.tmp 6) (.tmp 11)) ?_);refine ah 0 (plv ks) hm rfl rfl rfl 3 ax rfl rfl (aB _) ?_;clear hm;intro w3 hm)
      | (go_at_call 67;refine (HIR.out _).mono ?_;rintro e w' ⟨he,hb⟩;subst he;replace hm:=hm.call hb;clear hb)
      | ((with_reducible refine bA (some 17) (.load 76 (.tmp 6)) (some (2,false)) ?_);go_must (refine aj (.agg (plv ks).toArray) rfl (au 0 (plv ks) (hm.get 0 rfl) rfl _ aI rfl 3 ax (Nat.le_refl 3) rfl) ?_))
      | (clear tk1;go_at_call 34;refine (HH.out _ hm.below).mono ?_;rintro e w' ⟨he,hb⟩;subst he;replace hm:=hm.call hb;clear hb)
      | ((with_reducible refine ae (some 23) (.load 76 (.tmp 6)) ?_);refine av 0 hm rfl rfl _ aI rfl 3 ax (by rfl) ?_)
      | ((with_reducible refine ae (some 28) (.load 76 (.tmp 6)) ?_);refine av 0 hm rfl rfl _ aI rfl 3 ax (by rfl) ?_)
      | (go_at_call 41;refine (HP.out _).mono ?_;rintro e w' ⟨he,hb⟩;subst he;replace hm:=hm.call hb;clear hb)
      | (clear tk2;go_at_call 34;refine (HHP.out _ hm.below).mono ?_;rintro e w' ⟨he,hb⟩;subst he;replace hm:=hm.call hb;clear hb)
      | ((with_reducible refine ae (some 20) (.build 76 #[]) ?_);refine ay (plv []) [] rfl (by kernel_rfl) ?_)
      | ((with_reducible refine ae none (.store 76 (.tmp 4) (.tmp 20)) ?_);refine ah 1 (plv []) hm rfl rfl rfl 3 ax rfl rfl (aB _) ?_;clear hm;intro w4 hm)
      | ((with_reducible refine ae (some 25) (.build 76 #[]) ?_);refine ay (plv []) [] rfl (by kernel_rfl) ?_)
      | ((with_reducible refine ae none (.store 76 (.tmp 4) (.tmp 25)) ?_);refine ah 1 (plv []) hm rfl rfl rfl 3 ax rfl rfl (aB _) ?_;clear hm;intro w4 hm)
      | ((with_reducible refine ae (some 32) (.build 76 #[]) ?_);refine ay (plv []) [] rfl (by kernel_rfl) ?_)
      | ((with_reducible refine ae none (.store 76 (.tmp 4) (.tmp 32)) ?_);refine ah 1 (plv []) hm rfl rfl rfl 3 ax rfl rfl (aB _) ?_;clear hm;intro w4 hm)
      | ((with_reducible refine ae (some 33) (.load 76 (.tmp 6)) ?_);refine av 0 hm rfl rfl _ aI rfl 3 ax (by rfl) ?_)
      | ((with_reducible refine ae none (.store 76 (.tmp 4) (.tmp 33)) ?_);refine ah 1 (plv ks) hm rfl rfl rfl 3 ax rfl rfl (aB _) ?_;clear hm;intro w4 hm))
     refine br 1 (.int .i64 100) hm rfl Tryz.results40 rfl rfl _ aI rfl 3 ax rfl rfl ?_
     exact ⟨rfl,hm.below⟩
theorem taken_r {w:World} {rb m sb c:Nat} {root:List Int} {p:Pls} (h:RgAt w rb m sb c root p) (s:ByteArray) (hs:s.size≤1000) (hM:MaxL w) :
  Calls Tryz.prog 43 #[.pointer (some ⟨rb,0,none⟩),.string s] w fun e w'=>e=.returned (.tuple #[.agg (plv (okPl (takE p (isP (bs s)) (segsB s)) (segsB s))).toArray,.int .i64 (takE p (isP (bs s)) (segsB s))])∧Below w.heap.size w w':=by
 have hm:=Mem.start w
 have HR:Hid (RgAt w rb m sb c root p):=h
 clear h
 have HM:Hid (MaxL w):=hM
 obtain ⟨ks,hks⟩:∃ks,ks=segsB s:=⟨_,rfl⟩
 have hk:PlOk ks:=by rw [hks];exact cX s
 obtain ⟨b0,hb0⟩:∃b,b=isP (bs s):=⟨_,rfl⟩
 obtain ⟨b1,hb1⟩:∃b,b=decide (ks=[]):=⟨_,rfl⟩
 obtain ⟨b2,hb2⟩:∃b,b=hasB p ks:=⟨_,rfl⟩
 obtain ⟨b3,hb3⟩:∃b,b=hasB p ks.dropLast:=⟨_,rfl⟩
 have HPL:Hid (∀W,MaxL W→Calls Tryz.prog 33 #[.string s] W fun e w'=>e=.returned (.tuple #[.agg (plv ks).toArray,.bool b0])∧Below W.heap.size W w'):=fun W hW=>by rw [hks,hb0];exact jh s W hs hW
 have HIR:Hid (∀W,Calls Tryz.prog 67 #[.agg (plv ks).toArray] W fun e w'=>e=.returned (.bool b1)∧Below W.heap.size W w'):=fun W=>ld hk b1 hb1 W
 have HH:Hid (∀W,Below w.heap.size w W→Calls Tryz.prog 34 #[.pointer (some ⟨rb,0,none⟩),.agg (plv ks).toArray] W fun e w'=>e=.returned (.bool b2)∧Below W.heap.size W w'):=fun W hW=>has_r (HR.out.below hW) hk b2 hb2
 have HP:Hid (∀W,Calls Tryz.prog 41 #[.agg (plv ks).toArray] W fun e w'=>e=.returned (.agg (plv ks.dropLast).toArray)∧Below W.heap.size W w'):=fun W=>kG hk W
 have HHP:Hid (∀W,Below w.heap.size w W→Calls Tryz.prog 34 #[.pointer (some ⟨rb,0,none⟩),.agg (plv ks.dropLast).toArray] W fun e w'=>e=.returned (.bool b3)∧Below W.heap.size W w'):=fun W hW=>has_r (HR.out.below hW) hk.drop b3 hb3
 rw [takE,←hks,←hb0,←hb1,←hb2]
 clear hM hks hk hb0 hb1 hb2 hb3 hs
 have tk1:Nat:=0
 have tk2:Nat:=0
 cases b0 with
 | false =>
  go_enter Tryz.func43,Tryz.ntmps43
  go_wp2_with (first
   | ((with_reducible refine ae (some 4) (.alloc 76) ?_);refine ag _ aR hm ?_;clear hm;intro w1 g4 hm)
   | ((with_reducible refine ae (some 6) (.alloc 76) ?_);refine ag _ aR hm ?_;clear hm;intro w2 g6 hm)
   | (go_at_call 33;refine (HPL.out _ (HM.out.below hm.below)).mono ?_;rintro e w' ⟨he,hb⟩;subst he;replace hm:=hm.call hb;clear hb)
   | ((with_reducible refine ae none (.store 76 (.tmp 6) (.tmp 11)) ?_);refine ah 0 (plv ks) hm rfl rfl rfl 3 ax rfl rfl (aB _) ?_;clear hm;intro w3 hm)
   | (go_at_call 67;refine (HIR.out _).mono ?_;rintro e w' ⟨he,hb⟩;subst he;replace hm:=hm.call hb;clear hb)
   | (clear tk1;go_at_call 34;refine (HH.out _ hm.below).mono ?_;rintro e w' ⟨he,hb⟩;subst he;replace hm:=hm.call hb;clear hb)
   | ((with_reducible refine ae (some 23) (.load 76 (.tmp 6)) ?_);refine av 0 hm rfl rfl _ aI rfl 3 ax (by rfl) ?_)
   | ((with_reducible refine ae (some 20) (.build 76 #[]) ?_);refine ay (plv []) [] rfl (by kernel_rfl) ?_)
   | ((with_reducible refine ae none (.store 76 (.tmp 4) (.tmp 20)) ?_);refine ah 1 (plv []) hm rfl rfl rfl 3 ax rfl rfl (aB _) ?_;clear hm;intro w4 hm)
   | ((with_reducible refine ae (some 26) (.build 76 #[]) ?_);refine ay (plv []) [] rfl (by kernel_rfl) ?_)
   | ((with_reducible refine ae none (.store 76 (.tmp 4) (.tmp 26)) ?_);refine ah 1 (plv []) hm rfl rfl rfl 3 ax rfl rfl (aB _) ?_;clear hm;intro w4 hm)
   | ((with_reducible refine ae (some 27) (.load 76 (.tmp 6)) ?_);refine av 0 hm rfl rfl _ aI rfl 3 ax (by rfl) ?_)
   | ((with_reducible refine ae none (.store 76 (.tmp 4) (.tmp 27)) ?_);refine ah 1 (plv ks) hm rfl rfl rfl 3 ax rfl rfl (aB _) ?_;clear hm;intro w4 hm))
  refine br 1 (.int .i64 110) hm rfl Tryz.results43 rfl rfl _ aI rfl 3 ax rfl rfl ?_
  exact ⟨rfl,hm.below⟩
 | true =>
  cases b1 with
  | true =>
   go_enter Tryz.func43,Tryz.ntmps43
   go_wp2_with (first
    | ((with_reducible refine ae (some 4) (.alloc 76) ?_);refine ag _ aR hm ?_;clear hm;intro w1 g4 hm)
    | ((with_reducible refine ae (some 6) (.alloc 76) ?_);refine ag _ aR hm ?_;clear hm;intro w2 g6 hm)
    | (go_at_call 33;refine (HPL.out _ (HM.out.below hm.below)).mono ?_;rintro e w' ⟨he,hb⟩;subst he;replace hm:=hm.call hb;clear hb)
    | ((with_reducible refine ae none (.store 76 (.tmp 6) (.tmp 11)) ?_);refine ah 0 (plv ks) hm rfl rfl rfl 3 ax rfl rfl (aB _) ?_;clear hm;intro w3 hm)
    | (go_at_call 67;refine (HIR.out _).mono ?_;rintro e w' ⟨he,hb⟩;subst he;replace hm:=hm.call hb;clear hb)
    | ((with_reducible refine bA (some 17) (.load 76 (.tmp 6)) (some (2,false)) ?_);go_must (refine aj (.agg (plv ks).toArray) rfl (au 0 (plv ks) (hm.get 0 rfl) rfl _ aI rfl 3 ax (Nat.le_refl 3) rfl) ?_))
    | (clear tk1;go_at_call 34;refine (HH.out _ hm.below).mono ?_;rintro e w' ⟨he,hb⟩;subst he;replace hm:=hm.call hb;clear hb)
    | ((with_reducible refine ae (some 23) (.load 76 (.tmp 6)) ?_);refine av 0 hm rfl rfl _ aI rfl 3 ax (by rfl) ?_)
    | ((with_reducible refine ae (some 20) (.build 76 #[]) ?_);refine ay (plv []) [] rfl (by kernel_rfl) ?_)
    | ((with_reducible refine ae none (.store 76 (.tmp 4) (.tmp 20)) ?_);refine ah 1 (plv []) hm rfl rfl rfl 3 ax rfl rfl (aB _) ?_;clear hm;intro w4 hm)
    | ((with_reducible refine ae (some 26) (.build 76 #[]) ?_);refine ay (plv []) [] rfl (by kernel_rfl) ?_)
    | ((with_reducible refine ae none (.store 76 (.tmp 4) (.tmp 26)) ?_);refine ah 1 (plv []) hm rfl rfl rfl 3 ax rfl rfl (aB _) ?_;clear hm;intro w4 hm)
    | ((with_reducible refine ae (some 27) (.load 76 (.tmp 6)) ?_);refine av 0 hm rfl rfl _ aI rfl 3 ax (by rfl) ?_)
    | ((with_reducible refine ae none (.store 76 (.tmp 4) (.tmp 27)) ?_);refine ah 1 (plv ks) hm rfl rfl rfl 3 ax rfl rfl (aB _) ?_;clear hm;intro w4 hm))
   refine br 1 (.int .i64 110) hm rfl Tryz.results43 rfl rfl _ aI rfl 3 ax rfl rfl ?_
   exact ⟨rfl,hm.below⟩
  | false =>
   cases b2 with
   | true =>
    go_enter Tryz.func43,Tryz.ntmps43
    go_wp2_with (first
     | ((with_reducible refine ae (some 4) (.alloc 76) ?_);refine ag _ aR hm ?_;clear hm;intro w1 g4 hm)
     | ((with_reducible refine ae (some 6) (.alloc 76) ?_);refine ag _ aR hm ?_;clear hm;intro w2 g6 hm)
     | (go_at_call 33;refine (HPL.out _ (HM.out.below hm.below)).mono ?_;rintro e w' ⟨he,hb⟩;subst he;replace hm:=hm.call hb;clear hb)
     | ((with_reducible refine ae none (.store 76 (.tmp 6) (.tmp 11)) ?_);refine ah 0 (plv ks) hm rfl rfl rfl 3 ax rfl rfl (aB _) ?_;clear hm;intro w3 hm)
     | (go_at_call 67;refine (HIR.out _).mono ?_;rintro e w' ⟨he,hb⟩;subst he;replace hm:=hm.call hb;clear hb)
     | ((with_reducible refine bA (some 17) (.load 76 (.tmp 6)) (some (2,false)) ?_);go_must (refine aj (.agg (plv ks).toArray) rfl (au 0 (plv ks) (hm.get 0 rfl) rfl _ aI rfl 3 ax (Nat.le_refl 3) rfl) ?_))
     | (clear tk1;go_at_call 34;refine (HH.out _ hm.below).mono ?_;rintro e w' ⟨he,hb⟩;subst he;replace hm:=hm.call hb;clear hb)
     | ((with_reducible refine ae (some 23) (.load 76 (.tmp 6)) ?_);refine av 0 hm rfl rfl _ aI rfl 3 ax (by rfl) ?_)
     | ((with_reducible refine ae (some 20) (.build 76 #[]) ?_);refine ay (plv []) [] rfl (by kernel_rfl) ?_)
     | ((with_reducible refine ae none (.store 76 (.tmp 4) (.tmp 20)) ?_);refine ah 1 (plv []) hm rfl rfl rfl 3 ax rfl rfl (aB _) ?_;clear hm;intro w4 hm)
     | ((with_reducible refine ae (some 26) (.build 76 #[]) ?_);refine ay (plv []) [] rfl (by kernel_rfl) ?_)
     | ((with_reducible refine ae none (.store 76 (.tmp 4) (.tmp 26)) ?_);refine ah 1 (plv []) hm rfl rfl rfl 3 ax rfl rfl (aB _) ?_;clear hm;intro w4 hm)
     | ((with_reducible refine ae (some 27) (.load 76 (.tmp 6)) ?_);refine av 0 hm rfl rfl _ aI rfl 3 ax (by rfl) ?_)
     | ((with_reducible refine ae none (.store 76 (.tmp 4) (.tmp 27)) ?_);refine ah 1 (plv ks) hm rfl rfl rfl 3 ax rfl rfl (aB _) ?_;clear hm;intro w4 hm))
    refine br 1 (.int .i64 0) hm rfl Tryz.results43 rfl rfl _ aI rfl 3 ax rfl rfl ?_
    exact ⟨rfl,hm.below⟩
   | false =>
    go_enter Tryz.func43,Tryz.ntmps43
    go_wp2_with (first
     | ((with_reducible refine ae (some 4) (.alloc 76) ?_);refine ag _ aR hm ?_;clear hm;intro w1 g4 hm)
     | ((with_reducible refine ae (some 6) (.alloc 76) ?_);refine ag _ aR hm ?_;clear hm;intro w2 g6 hm)
     | (go_at_call 33;refine (HPL.out _ (HM.out.below hm.below)).mono ?_;rintro e w' ⟨he,hb⟩;subst he;replace hm:=hm.call hb;clear hb)
     | ((with_reducible refine ae none (.store 76 (.tmp 6) (.tmp 11)) ?_);refine ah 0 (plv ks) hm rfl rfl rfl 3 ax rfl rfl (aB _) ?_;clear hm;intro w3 hm)
     | (go_at_call 67;refine (HIR.out _).mono ?_;rintro e w' ⟨he,hb⟩;subst he;replace hm:=hm.call hb;clear hb)
     | ((with_reducible refine bA (some 17) (.load 76 (.tmp 6)) (some (2,false)) ?_);go_must (refine aj (.agg (plv ks).toArray) rfl (au 0 (plv ks) (hm.get 0 rfl) rfl _ aI rfl 3 ax (Nat.le_refl 3) rfl) ?_))
     | (clear tk1;go_at_call 34;refine (HH.out _ hm.below).mono ?_;rintro e w' ⟨he,hb⟩;subst he;replace hm:=hm.call hb;clear hb)
     | ((with_reducible refine ae (some 23) (.load 76 (.tmp 6)) ?_);refine av 0 hm rfl rfl _ aI rfl 3 ax (by rfl) ?_)
     | ((with_reducible refine ae (some 20) (.build 76 #[]) ?_);refine ay (plv []) [] rfl (by kernel_rfl) ?_)
     | ((with_reducible refine ae none (.store 76 (.tmp 4) (.tmp 20)) ?_);refine ah 1 (plv []) hm rfl rfl rfl 3 ax rfl rfl (aB _) ?_;clear hm;intro w4 hm)
     | ((with_reducible refine ae (some 26) (.build 76 #[]) ?_);refine ay (plv []) [] rfl (by kernel_rfl) ?_)
     | ((with_reducible refine ae none (.store 76 (.tmp 4) (.tmp 26)) ?_);refine ah 1 (plv []) hm rfl rfl rfl 3 ax rfl rfl (aB _) ?_;clear hm;intro w4 hm)
     | ((with_reducible refine ae (some 27) (.load 76 (.tmp 6)) ?_);refine av 0 hm rfl rfl _ aI rfl 3 ax (by rfl) ?_)
     | ((with_reducible refine ae none (.store 76 (.tmp 4) (.tmp 27)) ?_);refine ah 1 (plv ks) hm rfl rfl rfl 3 ax rfl rfl (aB _) ?_;clear hm;intro w4 hm))
    refine br 1 (.int .i64 100) hm rfl Tryz.results43 rfl rfl _ aI rfl 3 ax rfl rfl ?_
    exact ⟨rfl,hm.below⟩
open Go Go.RowKit Go.Maps Go.Sort
theorem la (x y:ByteArray):Op.bytesLess x.toList y.toList=true↔bs x<bs y:=by
 rw [bytesLess_eq,decide_eq_true_eq,ByteArray.toList_eq,ByteArray.toList_eq];rfl
theorem cmpS_neg (x y:ByteArray):cmpS x y<0↔bs x<bs y:=by
 unfold cmpS
 by_cases h1:Op.bytesLess x.toList y.toList=true
 ·rw [if_pos h1];exact ⟨fun _=>(la x y).1 h1,fun _=>by omega⟩
 ·rw [if_neg h1]
  have hn:¬bs x<bs y:=fun h=>h1 ((la x y).2 h)
  split
  ·exact ⟨fun h=>by omega,fun h=>absurd h hn⟩
  ·exact ⟨fun h=>by omega,fun h=>absurd h hn⟩
theorem cmpS_zero (x y:ByteArray):cmpS x y=0↔x=y:=by
 unfold cmpS
 by_cases h1:Op.bytesLess x.toList y.toList=true
 ·rw [if_pos h1]
  refine ⟨fun h=>by omega,fun h=>?_⟩
  subst h
  exact absurd ((la x x).1 h1) (List.lt_irrefl _)
 ·rw [if_neg h1]
  by_cases h2:(x.toList==y.toList)=true
  ·rw [if_pos h2]
   refine ⟨fun _=>?_,fun _=>rfl⟩
   rw [beq_iff_eq,ByteArray.toList_eq,ByteArray.toList_eq] at h2
   exact jm h2
  ·rw [if_neg h2]
   refine ⟨fun h=>by omega,fun h=>absurd ?_ h2⟩
   subst h;simp
theorem cmpL_neg:∀(A B:List ByteArray),A.length=B.length→(cmpL A B<0↔A.map bs<B.map bs)
 | [],[],_=>by simp [cmpL]
 | a::A,b::B,h=>by
  have ih:=cmpL_neg A B (by simpa using h)
  rw [List.map_cons,List.map_cons,List.cons_lt_cons_iff]
  unfold cmpL
  by_cases h0:cmpS a b=0
  ·rw [if_pos h0,ih]
   obtain rfl:=(cmpS_zero a b).1 h0
   exact ⟨fun h=>Or.inr ⟨rfl,h⟩,fun h=>h.elim (fun h=>absurd h (List.lt_irrefl _)) (·.2)⟩
  ·rw [if_neg h0,cmpS_neg]
   exact ⟨Or.inl,fun h=>h.elim id (fun h=>absurd ((cmpS_zero a b).2 (jm h.1)) h0)⟩
 | [],_::_,h=>by simp at h
 | _::_,[],h=>by simp at h
def keyT (x:Tri):List (List UInt8):=(lst x).map bs
theorem ltT (x y:Tri):ltOf cfT x y=decide (keyT x<keyT y):=by
 unfold ltOf cfT
 rw [Bool.eq_iff_iff,decide_eq_true_eq,decide_eq_true_eq]
 exact cmpL_neg (lst x) (lst y) rfl
theorem keyT_inj {x y:Tri} (h:keyT x=keyT y):x=y:=by
 obtain ⟨a,b,c⟩:=x
 obtain ⟨a',b',c'⟩:=y
 simp only [keyT,lst,List.map_cons,List.map_nil,List.cons.injEq,and_true] at h
 rw [jm h.1,jm h.2.1,jm h.2.2]
theorem swoT:SWO (ltOf cfT) where
 irrefl x:=by rw [ltT];simp [List.lt_irrefl]
 trans x y z h1 h2:=by
  rw [ltT,decide_eq_true_eq] at *
  exact List.lt_trans h1 h2
 ntrans x y z h1 h2:=by
  rw [ltT,decide_eq_false_iff_not] at *
  exact List.not_lt.2 (List.le_trans (List.not_lt.1 h2) (List.not_lt.1 h1))
theorem totT (x y:Tri) (h1:ltOf cfT x y=false) (h2:ltOf cfT y x=false):x=y:=by
 rw [ltT,decide_eq_false_iff_not] at *
 exact keyT_inj (List.le_antisymm (List.not_lt.1 h2) (List.not_lt.1 h1))
end Go.Proofs.YtlpnafdkhoimhaaGreatDoor
