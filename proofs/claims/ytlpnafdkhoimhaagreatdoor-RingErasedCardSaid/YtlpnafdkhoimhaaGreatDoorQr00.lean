import Derived.WalkKit
import Derived.WalkSpells
import Derived.Laws.CopyOwn
import Derived.Laws.Rows
import Derived.Laws.Tables
import Derived.Deep.WholeRow
import Derived.Deep.QuietTactic
import Derived.BigQuiet
import Derived.Test.YtlpnafdkhoimhaaGreatDoorRows
set_option maxRecDepth 100000
set_option maxHeartbeats 4000000
namespace Go.Proofs.YtlpnafdkhoimhaaGreatDoor
open Go Go.RowKit
def u8s (l:List Int):List Value:=l.map (Value.int .u8)
def u32s (l:List Int):List Value:=l.map (Value.int .u32)
theorem aa (l:List Int):(u8s l).length=l.length:=by simp [u8s]
theorem ao (l:List Int):(u32s l).length=l.length:=by simp [u32s]
theorem cK (l:List Int) (i:Nat) (h:i<l.length):(u8s l)[i]?=some (.int .u8 (l.getD i 0)):=by
 simp [u8s,h]
theorem aU (l:List Int) (i:Nat) (h:i<l.length):(u32s l)[i]?=some (.int .u32 (l.getD i 0)):=by
 simp [u32s,h]
theorem ai (l:List Int):∀v∈u8s l,v.oneCell'=true:=by
 intro v hv;simp [u8s] at hv;obtain ⟨x,_,rfl⟩:=hv;rfl
theorem aX (l:List Int):∀v∈u32s l,v.oneCell'=true:=by
 intro v hv;simp [u32s] at hv;obtain ⟨x,_,rfl⟩:=hv;rfl
def Row (w:World) (g:Nat) (l:List Value) (t:TypeId):Prop:=w.heap[g]?=some (.cells l.toArray t (0,0))
theorem Row.lt {w:World} {g:Nat} {l:List Value} {t:TypeId} (h:Row w g l t):g<w.heap.size:=(Array.getElem?_eq_some_iff.1 h).1
theorem Row.cell {w:World} {g:Nat} {l:List Value} {t:TypeId} (h:Row w g l t) (i:Nat):w.cell? ⟨g,i,none⟩=l[i]?:=by
 rw [cell_of_row w g i _ t (0,0) h];simp
theorem Row.free {w:World} {g:Nat} {l:List Value} {t:TypeId} (h:Row w g l t) (i:Nat):w.frozen? ⟨g,i,none⟩=false:=frozen_of_row w g i _ t h
theorem Row.below {w w':World} {B g:Nat} {l:List Value} {t:TypeId} (h:Row w g l t) (hb:Below B w w') (hg:g<B):Row w' g l t:=by
 unfold Row;rw [hb.block g hg];exact h
theorem Row.below' {w w':World} {g:Nat} {l:List Value} {t:TypeId} (h:Row w g l t) (hb:Below w.heap.size w w'):Row w' g l t:=h.below hb h.lt
theorem Row.drew {w:World} {g:Nat} {l:List Value} {t:TypeId} (h:Row w g l t):Row w.drew g l t:=h
theorem Row.alloc {w:World} {g:Nat} {l:List Value} {t:TypeId} (h:Row w g l t) (o:Obj):Row (w.alloc o) g l t:=by
 unfold Row;rw [Below.heap_alloc _ _ _ h.lt];exact h
theorem Row.new (w:World) (l:List Value) (t:TypeId):Row (w.alloc (.cells l.toArray t)) w.heap.size l t:=heap_alloc_new w _
theorem Row.set {w:World} {g:Nat} {l:List Value} {t:TypeId} (h:Row w g l t) (i:Nat) (v:Value):Row (w.setCell ⟨g,i,none⟩ v) g (l.set i v) t:=by
 unfold Row
 rw [heap_setCell_same w g i l.toArray t v h];simp
theorem Row.setRow {w:World} {g:Nat} {l:List Value} {t:TypeId} (h:Row w g l t) (l':List Value):Row (w.setRow g l'.toArray) g l' t :=
 setRow_heap w g _ _ t _ h
def rotr (x n:Int):Int:=bits .or .u32 (x / 2 ^ n.toNat) (x * 2 ^ (32 - n).toNat % 4294967296)
def big4 (a b c d:Int):Int:=bits .or .u32 (bits .or .u32 (bits .or .u32 (a * 16777216) (b * 65536)) (c * 256)) d
def four (x:Int):List Int:=[x / 16777216 % 256,x / 65536 % 256,x / 256 % 256,x % 256]
def sig0 (x:Int):Int:=bits .xor .u32 (bits .xor .u32 (rotr x 7) (rotr x 18)) (x / 8)
def sig1 (y:Int):Int:=bits .xor .u32 (bits .xor .u32 (rotr y 17) (rotr y 19)) (y / 1024)
def nextW (l:List Int) (k:Nat):Int :=
 (sig1 (l.getD (k - 2) 0)+l.getD (k - 7) 0+sig0 (l.getD (k - 15) 0)+l.getD (k - 16) 0) % 4294967296
def sched (b:List Int):Nat→List Int
 | 0=>[]
 | k+1=>sched b k++[if k<16 then big4 (b.getD (4 * k) 0) (b.getD (4 * k+1) 0) (b.getD (4 * k+2) 0) (b.getD (4 * k+3) 0) else nextW (sched b k) k]
theorem bu (b:List Int) (k:Nat):(sched b k).length=k:=by
 induction k with
 | zero=>rfl
 | succ k ih=>simp [sched,ih]
def cap0 (a:Int):Int:=bits .xor .u32 (bits .xor .u32 (rotr a 2) (rotr a 13)) (rotr a 22)
def cap1 (e:Int):Int:=bits .xor .u32 (bits .xor .u32 (rotr e 6) (rotr e 11)) (rotr e 25)
def kTab:List Int:=[1116352408,1899447441,3049323471,3921009573,961987163,1508970993,2453635748,2870763221,3624381080,310598401,607225278,1426881987,1925078388,2162078206,2614888103,3248222580,3835390401,4022224774,264347078,604807628,770255983,1249150122,1555081692,1996064986,2554220882,2821834349,2952996808,3210313671,3336571891,3584528711,113926993,338241895,666307205,773529912,1294757372,1396182291,1695183700,1986661051,2177026350,2456956037,2730485921,2820302411,3259730800,3345764771,3516065817,3600352804,4094571909,275423344,430227734,506948616,659060556,883997877,958139571,1322822218,1537002063,1747873779,1955562222,2024104815,2227730452,2361852424,2428436474,2756734187,3204031479,3329325298]
def notW (e:Int):Int:=bits .xor .u32 (if IntKind.u32.signed=true then -1 else IntKind.u32.max) e
def tOne (k x e f g h:Int):Int:=(h+cap1 e+bits .xor .u32 (bits .and .u32 e f) (bits .and .u32 (notW e) g)+k+x) % 4294967296
def tTwo (a b c:Int):Int:=(cap0 a+bits .xor .u32 (bits .xor .u32 (bits .and .u32 a b) (bits .and .u32 a c)) (bits .and .u32 b c)) % 4294967296
def rnd (k x:Int):List Int→List Int
 | [a,b,c,d,e,f,g,h]=>[(tOne k x e f g h+tTwo a b c) % 4294967296,a,b,c,(d+tOne k x e f g h) % 4294967296,e,f,g]
 | l=>l
def shaRounds (ws W:List Int):Nat→List Int
 | 0=>ws
 | k+1=>rnd (kTab.getD k 0) (W.getD k 0) (shaRounds ws W k)
theorem fF {ws W:List Int} {k:Nat} {a b c d e f g h kk xx:Int} (hr:shaRounds ws W k=[a,b,c,d,e,f,g,h]) (hk:kk=kTab.getD k 0) (hx:xx=W.getD k 0) :
  shaRounds ws W (k+1)=[(tOne kk xx e f g h+tTwo a b c) % 4294967296,a,b,c,(d+tOne kk xx e f g h) % 4294967296,e,f,g]:=by
 rw [shaRounds,hr,←hk,←hx];rfl
def addW (a b:List Int):List Int:=List.zipWith (fun x y=>(x+y) % 4294967296) a b
def addUpto (ws vs:List Int) (k:Nat):List Int:=(addW ws vs).take k++ws.drop k
theorem dS (ws vs:List Int) (h:ws.length=8) (h':vs.length=8):(addW ws vs).length=8:=by simp [addW,h,h']
theorem eE (ws vs:List Int) (h:ws.length=8) (h':vs.length=8) (k:Nat) (hk:k≤8):(addUpto ws vs k).length=8:=by simp [addUpto,addW,h,h'];omega
theorem iV (ws vs:List Int) (h:ws.length=8) (h':vs.length=8):addUpto ws vs 8=addW ws vs:=by
 unfold addUpto
 rw [List.take_of_length_le (by rw [dS ws vs h h'];omega),List.drop_of_length_le (by omega),List.append_nil]
theorem jz (ws vs:List Int) (h:ws.length=8) (h':vs.length=8) (k:Nat) (hk:k<8):(addUpto ws vs k).getD k 0=ws.getD k 0:=by
 have e:min k 8=k:=by omega
 simp [addUpto,List.getElem?_append,addW,h,h',e]
theorem jv (ws vs:List Int) (h:ws.length=8) (h':vs.length=8) (k:Nat) (hk:k<8):(addUpto ws vs k).set k ((ws.getD k 0+vs.getD k 0) % 4294967296)=addUpto ws vs (k+1):=by
 unfold addUpto
 have hl:(addW ws vs).length=8:=dS ws vs h h'
 have e:((addW ws vs).take k).length=k:=by simp [hl];omega
 rw [List.set_append_right _ _ (by omega),e,Nat.sub_self]
 have hd:ws.drop k=ws[k]'(by omega)::ws.drop (k+1):=List.drop_eq_getElem_cons (by omega)
 rw [hd,List.set_cons_zero,List.take_succ_eq_append_getElem (by omega)]
 simp [addW,h,h',hk]
def mix (ws bs:List Int):List Int:=addW ws (shaRounds ws (sched bs 64) 64)
def schedRow (b:List Int) (k:Nat):List Int:=sched b k++List.replicate (64 - k) 0
theorem bg (b:List Int) (k:Nat) (h:k≤64):(schedRow b k).length=64:=by simp [schedRow,bu];omega
theorem gM (b:List Int):schedRow b 64=sched b 64:=by simp [schedRow]
theorem d7 (b:List Int) (k:Nat) (h:k<64) (x:Int) (hx:x=(if k<16 then big4 (b.getD (4 * k) 0) (b.getD (4 * k+1) 0) (b.getD (4 * k+2) 0) (b.getD (4 * k+3) 0) else nextW (sched b k) k)) :
  (schedRow b k).set k x=schedRow b (k+1):=by
 subst hx
 unfold schedRow
 rw [List.set_append_right _ _ (by rw [bu];omega),bu,Nat.sub_self]
 have:64 - k=(64 - (k+1))+1:=by omega
 rw [this,List.replicate_succ,List.set_cons_zero,sched]
 simp
theorem cf (b:List Int) (k j:Nat) (h:j<k):(schedRow b k).getD j 0=(sched b k).getD j 0:=by
 unfold schedRow
 simp [List.getElem?_append,bu,h]
theorem cH (l:List Int) (k:Nat) (x:Int):(u32s l).set k (.int .u32 x)=u32s (l.set k x):=by simp [u32s,List.map_set]
theorem bW (l:List Int) (k:Nat) (x:Int):(u8s l).set k (.int .u8 x)=u8s (l.set k x):=by simp [u8s,List.map_set]
open Go Go.RowKit
structure Mem (w0:World) (S:List Nat) (w:World) (rows:List (Nat×List Value×TypeId)):Prop where
 os:w.os=w0.os
 tape:w.tape=w0.tape
 output:w.output=w0.output
 size:w0.heap.size≤w.heap.size
 block:∀k,k<w0.heap.size→k ∉ S→w.heap[k]?=w0.heap[k]?
 row:∀r∈rows,Row w r.1 r.2.1 r.2.2
 nodup:(rows.map Prod.fst).Nodup
 fresh:∀r∈rows,r.1∈S∨w0.heap.size≤r.1
structure Upd (g:Nat) (w w':World):Prop where
 os:w'.os=w.os
 tape:w'.tape=w.tape
 output:w'.output=w.output
 size:w.heap.size≤w'.heap.size
 block:∀k,k<w.heap.size→k≠g→w'.heap[k]?=w.heap[k]?
theorem Upd.refl (g:Nat) (w:World):Upd g w w:=⟨rfl,rfl,rfl,Nat.le_refl _,fun _ _ _=>rfl⟩
theorem Upd.trans {g:Nat} {a b c:World} (h:Upd g a b) (k:Upd g b c):Upd g a c :=
 ⟨k.os.trans h.os,k.tape.trans h.tape,k.output.trans h.output,Nat.le_trans h.size k.size,fun i hi hn=>(k.block i (Nat.lt_of_lt_of_le hi h.size) hn).trans (h.block i hi hn)⟩
theorem Upd.of_below {g:Nat} {w w':World} (h:Below w.heap.size w w'):Upd g w w':=⟨h.os,h.tape,h.output,h.size,fun k hk _=>h.block k hk⟩
theorem Upd.setRow (g:Nat) (w:World) (c:Array Value):Upd g w (w.setRow g c) :=
 ⟨rfl,rfl,rfl,by simp,fun k _ hn=>setRow_other w g k c hn⟩
theorem Upd.setCell (g i:Nat) (w:World) (v:Value):Upd g w (w.setCell ⟨g,i,none⟩ v) :=
 ⟨rfl,rfl,rfl,by simp,fun k _ hn=>heap_setCell_other w _ k v hn⟩
theorem Upd.cell {g:Nat} {w w':World} (h:Upd g w w') {p:Addr} (hp:p.block<w.heap.size) (hn:p.block≠g):w'.cell? p=w.cell? p :=
 World.cell?_of_block (w:=w) (h.block p.block hp hn)
theorem Upd.row {g k:Nat} {w w':World} {l:List Value} {t:TypeId} (h:Upd g w w') (r:Row w k l t) (hn:k≠g):Row w' k l t:=by
 unfold Row;rw [h.block k r.lt hn];exact r
section
variable {w0 w w':World} {S:List Nat} {rows:List (Nat×List Value×TypeId)}
theorem Mem.start (w:World):Mem w [] w []:=⟨rfl,rfl,rfl,Nat.le_refl _,fun _ _ _=>rfl,by simp,by simp,by simp⟩
theorem Mem.enter {g:Nat} {l:List Value} {t:TypeId} (h:Row w g l t):Mem w [g] w [(g,l,t)] :=
 ⟨rfl,rfl,rfl,Nat.le_refl _,fun _ _ _=>rfl,by simpa using h,by simp,by simp⟩
theorem Mem.drew (hm:Mem w0 S w rows):Mem w0 S w.drew rows:=⟨hm.os,hm.tape,hm.output,hm.size,hm.block,hm.row,hm.nodup,hm.fresh⟩
theorem Mem.drewN (hm:Mem w0 S w rows) (n:Nat):Mem w0 S (w.drewN n) rows:=⟨hm.os,hm.tape,hm.output,hm.size,hm.block,hm.row,hm.nodup,hm.fresh⟩
theorem Mem.set (hm:Mem w0 S w rows) (i:Nat) {g:Nat} {l:List Value} {t:TypeId} (hi:rows[i]?=some (g,l,t)) (j:Nat) (v:Value) (h:∀(w':World),Upd g w w'→Row w' g (l.set j v) t→Mem w0 S w' (rows.set i (g,l.set j v,t))):Mem w0 S (w.setCell ⟨g,j,none⟩ v) (rows.set i (g,l.set j v,t)) :=
 h _ (Upd.setCell g j w v) ((hm.row _ (List.mem_of_getElem? hi)).set j v)
theorem Mem.alloc (hm:Mem w0 S w rows) (l:List Value) (t:TypeId):Mem w0 S (w.alloc (.cells l.toArray t)) ((w.heap.size,l,t)::rows):=by
 refine ⟨hm.os,hm.tape,hm.output,by have:=hm.size;simp;omega,fun k hk hn=>?_,?_,?_,?_⟩
 ·rw [Below.heap_alloc _ _ _ (Nat.lt_of_lt_of_le hk hm.size)];exact hm.block k hk hn
 ·intro r hr
  rcases List.mem_cons.1 hr with rfl|hr
  ·exact Row.new w l t
  ·exact (hm.row r hr).alloc _
 ·simp only [List.map_cons,List.nodup_cons]
  refine ⟨fun hc=>?_,hm.nodup⟩
  obtain ⟨r,hr,he⟩:=List.mem_map.1 hc
  have:=(hm.row r hr).lt
  omega
 ·intro r hr
  rcases List.mem_cons.1 hr with rfl|hr
  ·exact Or.inr hm.size
  ·exact hm.fresh r hr
theorem Mem.call (hm:Mem w0 S w rows) (hb:Below w.heap.size w w'):Mem w0 S w' rows :=
 ⟨hb.os.trans hm.os,hb.tape.trans hm.tape,hb.output.trans hm.output,Nat.le_trans hm.size hb.size,
  fun k hk hn=>(hb.block k (Nat.lt_of_lt_of_le hk hm.size)).trans (hm.block k hk hn),fun r hr=>(hm.row r hr).below' hb,hm.nodup,hm.fresh⟩
theorem Mem.get (hm:Mem w0 S w rows) (i:Nat) {g:Nat} {l:List Value} {t:TypeId} (hi:rows[i]?=some (g,l,t)):Row w g l t :=
 hm.row _ (List.mem_of_getElem? hi)
theorem Mem.cell (hm:Mem w0 S w rows) (i:Nat) {g:Nat} {l:List Value} {t:TypeId} (hi:rows[i]?=some (g,l,t)) (j:Nat):w.cell? ⟨g,j,none⟩=l[j]? :=
 (hm.get i hi).cell j
theorem Mem.free (hm:Mem w0 S w rows) (i:Nat) {g:Nat} {l:List Value} {t:TypeId} (hi:rows[i]?=some (g,l,t)) (j:Nat):w.frozen? ⟨g,j,none⟩=false :=
 (hm.get i hi).free j
theorem Mem.old (hm:Mem w0 S w rows) {p:Addr} (hp:p.block<w0.heap.size) (hn:p.block ∉ S):w.cell? p=w0.cell? p :=
 World.cell?_of_block (w:=w0) (hm.block p.block hp hn)
theorem Mem.upd (hm:Mem w0 S w rows) (i:Nat) {g:Nat} {l l':List Value} {t:TypeId} (hi:rows[i]?=some (g,l,t)) (hu:Upd g w w') (hr0:Row w' g l' t):Mem w0 S w' (rows.set i (g,l',t)):=by
 have hlt:i<rows.length:=(List.getElem?_eq_some_iff.1 hi).1
 have hge:rows[i]=(g,l,t):=(List.getElem?_eq_some_iff.1 hi).2
 have hmem:(g,l,t)∈rows:=List.mem_of_getElem? hi
 have hkeys:(rows.set i (g,l',t)).map Prod.fst=rows.map Prod.fst:=by
  rw [List.map_set]
  apply List.ext_getElem?
  intro j
  by_cases hj:i=j
  ·subst hj;simp [hlt,hge]
  ·simp [hj]
 refine ⟨hu.os.trans hm.os,hu.tape.trans hm.tape,hu.output.trans hm.output,Nat.le_trans hm.size hu.size,fun k hk hn=>?_,?_,by rw [hkeys];exact hm.nodup,?_⟩
 ·have hkg:k≠g:=by
   rintro rfl
   rcases hm.fresh _ hmem with h|h
   ·exact hn h
   ·simp at h;omega
  exact (hu.block k (Nat.lt_of_lt_of_le hk hm.size) hkg).trans (hm.block k hk hn)
 ·intro r hr
  obtain ⟨j,hj,hrj⟩:=List.getElem_of_mem hr
  rw [List.getElem_set] at hrj
  by_cases hij:i=j
  ·rw [if_pos hij] at hrj;subst hrj;exact hr0
  ·rw [if_neg hij] at hrj
   have hj':j<rows.length:=by simpa using hj
   have hrow:=hm.row r (hrj▸List.getElem_mem hj')
   refine hu.row hrow ?_
   intro he
   have h1:(rows.map Prod.fst)[i]'(by simpa using hlt)=(rows.map Prod.fst)[j]'(by simpa using hj'):=by simp [hge,hrj,he]
   exact hij ((List.getElem_inj hm.nodup).1 h1)
 ·intro r hr
  have:r.1∈(rows.set i (g,l',t)).map Prod.fst:=List.mem_map_of_mem hr
  rw [hkeys] at this
  obtain ⟨r',hr',he⟩:=List.mem_map.1 this
  have:=hm.fresh r' hr'
  rwa [he] at this
theorem Mem.setCell (hm:Mem w0 S w rows) (i:Nat) {g:Nat} {l:List Value} {t:TypeId} (hi:rows[i]?=some (g,l,t)) (j:Nat) (v:Value):Mem w0 S (w.setCell ⟨g,j,none⟩ v) (rows.set i (g,l.set j v,t)) :=
 hm.set i hi j v (fun _ hu hr=>hm.upd i hi hu hr)
theorem Mem.below (hm:Mem w0 [] w rows):Below w0.heap.size w0 w:=⟨hm.os,hm.tape,hm.output,hm.size,fun k hk=>hm.block k hk (by simp)⟩
theorem Mem.toUpd {g:Nat} (hm:Mem w0 [g] w rows):Upd g w0 w:=⟨hm.os,hm.tape,hm.output,hm.size,fun k hk hn=>hm.block k hk (by simpa using hn)⟩
theorem Mem.sub (hm:Mem w0 S w rows) {rows':List (Nat×List Value×TypeId)} (h:rows'.Sublist rows):Mem w0 S w rows' :=
 ⟨hm.os,hm.tape,hm.output,hm.size,hm.block,fun r hr=>hm.row r (h.subset hr),(h.map _).nodup hm.nodup,fun r hr=>hm.fresh r (h.subset hr)⟩
theorem Mem.tail {r:Nat×List Value×TypeId} (hm:Mem w0 S w (r::rows)):Mem w0 S w rows:=hm.sub (List.sublist_cons_self _ _)
theorem Mem.swap {r r':Nat×List Value×TypeId} (hm:Mem w0 S w (r::r'::rows)):Mem w0 S w (r'::r::rows) :=
 ⟨hm.os,hm.tape,hm.output,hm.size,hm.block,fun q hq=>hm.row q (by simp only [List.mem_cons] at hq ⊢;rcases hq with h|h|h<;>simp [h]),by
  have:=hm.nodup
  simp only [List.map_cons,List.nodup_cons,List.mem_cons,not_or] at this ⊢
  exact ⟨⟨fun h=>this.1.1 h.symm,this.2.1⟩,this.1.2,this.2.2⟩,fun q hq=>hm.fresh q (by simp only [List.mem_cons] at hq ⊢;rcases hq with h|h|h<;>simp [h])⟩
theorem Mem.ne {r:Nat×List Value×TypeId} (hm:Mem w0 S w (r::rows)) (i:Nat) {q:Nat×List Value×TypeId} (hi:rows[i]?=some q):r.1≠q.1:=by
 have:=hm.nodup
 simp only [List.map_cons,List.nodup_cons] at this
 intro he
 exact this.1 (he▸List.mem_map_of_mem (List.mem_of_getElem? hi))
end
section
variable {P:Program} {ops:Array Oper} {rest:List Oper} {a:Act} {w w0:World} {Q:Exit→Act→World→Prop} {dst:Option Tmp} {typ:TypeId} {pos:String} {aft:Array Edge} {S:List Nat} {rows:List (Nat×List Value×TypeId)}
theorem ae (dst:Option Tmp) (op:Op) (h:wpList P ops Q ({dst:=dst,op:=op,type:=typ,pos:=pos,after:=aft,guard:=none}::rest) a w) :
  wpList P ops Q ({dst:=dst,op:=op,type:=typ,pos:=pos,after:=aft,guard:=none}::rest) a w:=h
theorem ag {ty:TypeId} (z:List Value) (hz:∀w,(zeroValue ty).run P w=.ok (.agg z.toArray) w) (hm:Mem w0 S w rows)
  (h:∀w' g,Mem w0 S w' ((g,z,ty)::rows)→wpList P ops Q rest (a.put dst (.pointer (some ⟨g,0,none⟩))) w') :
  wpList P ops Q ({dst:=dst,op:=.alloc ty,type:=typ,pos:=pos,after:=aft,guard:=none}::rest) a w:=by
 refine wpList_plain rfl fun K hK=>?_
 have hh:=hK _ _ (h _ _ (hm.alloc z ty))
 unfold Oper.wp execOp
 simp [Instr.alloc,newVar,newRow,newObj,hz,Value.cells]
 exact hh
theorem az {ty:TypeId} {x:Operand} (l:List Value) (hx:a.eval x=.agg l.toArray) (hm:Mem w0 S w rows)
  (h:∀w' g,Mem w0 S w' ((g,l,ty)::rows)→wpList P ops Q rest (a.put dst (.pointer (some ⟨g,0,none⟩))) w') :
  wpList P ops Q ({dst:=dst,op:=.box ty x,type:=typ,pos:=pos,after:=aft,guard:=none}::rest) a w:=by
 refine wpList_plain rfl fun K hK=>?_
 have hh:=hK _ _ (h _ _ (hm.alloc l ty))
 unfold Oper.wp execOp
 simp [Instr.box,newVar,newRow,newObj,hx,Value.cells]
 exact hh
theorem av {ty:TypeId} {x:Operand} (i:Nat) {g:Nat} {l:List Value} {t:TypeId} (hm:Mem w0 S w rows) (hi:rows[i]?=some (g,l,t)) (hx:a.eval x=.pointer (some ⟨g,0,none⟩))
  (d:TypeDesc) (hu:P.underlying ty=some d) (hd:(match d with | .struct _ | .array _ _=>true|_=>false)=true) (n:Nat) (hs:(P.info? ty).map (·.size)=some n) (hn:l.length=n)
  (h:wpList P ops Q rest (a.put dst (.agg l.toArray)) w) :
  wpList P ops Q ({dst:=dst,op:=.load ty x,type:=typ,pos:=pos,after:=aft,guard:=none}::rest) a w :=
 wpList_load_row rfl ty x rfl g hx t l.toArray (0,0) d (hm.get i hi) hu hd (by rw [hs];simp [hn]) h
theorem ah {ty:TypeId} {x y:Operand} (i:Nat) {g:Nat} {l:List Value} {t:TypeId} (l':List Value) (hm:Mem w0 S w rows) (hi:rows[i]?=some (g,l,t)) (hx:a.eval x=.pointer (some ⟨g,0,none⟩))
  (hy:a.eval y=.agg l'.toArray) (n:Nat) (hs:(P.info? ty).map (·.size)=some n) (hn:l.length=n) (hn':l'.length=n) (h1:∀v∈l',v.oneCell'=true)
  (h:∀w',Mem w0 S w' (rows.set i (g,l',t))→wpList P ops Q rest a w') :
  wpList P ops Q ({dst:=none,op:=.store ty x y,type:=typ,pos:=pos,after:=aft,guard:=none}::rest) a w:=by
 refine wpList_plain rfl fun K hK=>?_
 have hr:=hm.get i hi
 have hh:=hK _ _ (h _ (hm.upd i hi (Upd.setRow g w l'.toArray) (hr.setRow l')))
 unfold Oper.wp execOp
 simp only [hx,hy,Instr.storeAt,Instr.sureAddr,Sem.run_bind,Sem.run_pure,Result.andThen_ok,
  run_storeVar_row w g t ty l.toArray l'.toArray hr (by rw [hs];simp [hn']) (by simp [hn,hn']) (by simpa using h1)]
 exact hh
theorem bm {ty:TypeId} {x:Operand} (i:Nat) {g:Nat} {l:List Value} {t:TypeId} (j:Nat) (v:Value) (hm:Mem w0 S w rows) (hi:rows[i]?=some (g,l,t)) (hx:a.eval x=.pointer (some ⟨g,j,none⟩))
  (ha:∀w,(isAgg ty).run P w=.ok false w) (hv:l[j]?=some v)
  (h:wpList P ops Q rest (a.put dst v) w) :
  wpList P ops Q ({dst:=dst,op:=.load ty x,type:=typ,pos:=pos,after:=aft,guard:=none}::rest) a w:=by
 refine wpList_plain rfl fun K hK=>?_
 have hh:=hK _ _ h
 have hc:w.cell? ⟨g,j,none⟩=some v:=by rw [hm.cell i hi,hv]
 have hld:(loadVar ty ⟨g,j,none⟩).run P w=.ok v w:=by
  simp [loadVar,ha,go_sem,hc]
 unfold Oper.wp execOp
 simp only [hx,Instr.loadAt,Instr.sureAddr,Sem.run_bind,Sem.run_pure,Result.andThen_ok,hld]
 exact hh
theorem bj {ty:TypeId} {x y:Operand} (i:Nat) {g:Nat} {l:List Value} {t:TypeId} (j:Nat) (v:Value) (hm:Mem w0 S w rows) (hi:rows[i]?=some (g,l,t)) (hx:a.eval x=.pointer (some ⟨g,j,none⟩))
  (hy:a.eval y=v) (hs:(P.info? ty).map (·.size)=some 1) (hj:j<l.length) (hc:v.cells=#[v]) (h1:v.oneCell'=true)
  (h:∀w',Mem w0 S w' (rows.set i (g,l.set j v,t))→wpList P ops Q rest a w') :
  wpList P ops Q ({dst:=none,op:=.store ty x y,type:=typ,pos:=pos,after:=aft,guard:=none}::rest) a w:=by
 refine wpList_plain rfl fun K hK=>?_
 have hr:=hm.get i hi
 have hh:=hK _ _ (h _ (hm.upd i hi (Upd.setCell g j w v) (hr.set j v)))
 have hcell:w.cell? ⟨g,j,none⟩=some l[j]:=by rw [hm.cell i hi];simp [hj]
 have hadd:(⟨g,j,none⟩:Addr).add 0=⟨g,j,none⟩:=by unfold Addr.add;split<;>simp_all
 have hst:(storeVar ty ⟨g,j,none⟩ v).run P w=.ok () (w.setCell ⟨g,j,none⟩ v):=by
  cases hq:P.info? ty with
  | none=>simp [hq] at hs
  | some q =>
   have hs1:q.size=1:=by simpa [hq] using hs
   have hs2:(store ⟨g,j,none⟩ v).run P w=.ok () (w.setCell ⟨g,j,none⟩ v):=by
    rw [run_store P w _ v _ h1,hcell];simp [hr.free j]
   simp [storeVar,sizeOf,typeInfo,hq,hc,hs1,storeCells,hadd,hs2]
 unfold Oper.wp execOp
 simp only [hx,hy,Instr.storeAt,Instr.sureAddr,Sem.run_bind,Sem.run_pure,Result.andThen_ok,hst]
 exact hh
theorem bK (g o j:Nat):(⟨g,o,none⟩:Addr).add j=⟨g,o+j,none⟩:=by unfold Addr.add;split<;>simp_all
theorem run_sla (w:World) {ty:TypeId} {n:Nat} {elem:TypeId} (hu:P.underlying ty=some (.array n elem)) (hs:(P.info? elem).map (·.size)=some 1) (g o l m:Nat) (hlm:l+m≤n) (hln:l<n) (lo hi:Option Value)
  (hlo:lo=some (.int .i64 l)∨(lo=none∧l=0)) (hhi:hi=some (.int .i64 (l+m:Nat))∨(hi=none∧l+m=n)) :
  (Instr.sliceAt ty (.pointer (some ⟨g,o,none⟩)) lo hi none).run P w=.ok (.slice (some ⟨g,o+l,none⟩) m (n - l)) w:=by
 cases hq:P.info? elem with
 | none=>simp [hq] at hs
 | some q =>
  have hs1:q.size=1:=by simpa [hq] using hs
  have hsz:(sizeOf elem).run P w=.ok 1 w:=by simp [sizeOf,typeInfo,hq,hs1]
  have hne:¬n=l:=by omega
  have bnd:∀(j y:Nat) (code:BoundsCode),j≤y→(Instr.sliceBound (.int .i64 (j:Int)) y code).run P w=.ok j w:=by
   intro j y code hj
   rw [run_sliceBound (P:=P) w .i64 (j:Int) y code (by omega) (by omega)]
   simp
  obtain ⟨h,hh⟩:∃h,h=l+m:=⟨_,rfl⟩
  rw [←hh] at hhi hlm
  have hb:(Instr.sliceBounds false n n lo hi none).run P w=.ok (l,h,n) w:=by
   rcases hlo with rfl|⟨rfl,rfl⟩
   ·rcases hhi with rfl|⟨rfl,hn⟩
    ·simp [Instr.sliceBounds,bnd h n _ hlm,bnd l h _ (by omega)]
    ·simp [Instr.sliceBounds,bnd l n _ (by omega),hn]
   ·rcases hhi with rfl|⟨rfl,hn⟩
    ·simp [Instr.sliceBounds,bnd h n _ hlm]
    ·simp [Instr.sliceBounds,hn]
  have hml:h - l=m:=by omega
  simp [Instr.sliceAt,Instr.sureAddr,run_underlying hu,hb,hsz,hne,bK,hml]
theorem ed {ty:TypeId} {x:Operand} {lo hi:Option Operand} (n:Nat) {elem:TypeId} (hu:P.underlying ty=some (.array n elem)) (hs:(P.info? elem).map (·.size)=some 1) {g o:Nat} (l m:Nat) (hlm:l+m≤n) (hln:l<n) (hx:a.eval x=.pointer (some ⟨g,o,none⟩))
  (hlo:lo.map a.eval=some (.int .i64 l)∨(lo.map a.eval=none∧l=0)) (hhi:hi.map a.eval=some (.int .i64 (l+m:Nat))∨(hi.map a.eval=none∧l+m=n))
  (h:wpList P ops Q rest (a.put dst (.slice (some ⟨g,o+l,none⟩) m (n - l))) w) :
  wpList P ops Q ({dst:=dst,op:=.slice ty x lo hi none,type:=typ,pos:=pos,after:=aft,guard:=none}::rest) a w:=by
 refine wpList_plain rfl fun K hK=>?_
 have hh:=hK _ _ h
 have hr:=run_sla (P:=P) w hu hs g o l m hlm hln (lo.map a.eval) (hi.map a.eval) hlo hhi
 unfold Oper.wp execOp
 simp only [hx,Option.map_none,hr,Sem.run_bind,Sem.run_pure,Result.andThen_ok]
 exact hh
theorem wpl_ixa {ty:TypeId} {x ix:Operand} (n:Nat) {elem:TypeId} (hu:P.underlying ty=some (.array n elem)) (hs:(P.info? elem).map (·.size)=some 1) (ha:∀w,(isAgg elem).run P w=.ok false w) (l:List Value) (j:Nat) {ij:Int} (v:Value) (hj:j<n)
  (hx:a.eval x=.agg l.toArray) (hix:a.eval ix=.int .i64 ij) (hij:ij=(j:Int)) (hv:l[j]?=some v)
  (h:wpList P ops Q rest (a.put dst v) w) :
  wpList P ops Q ({dst:=dst,op:=.index ty x ix,type:=typ,pos:=pos,after:=aft,guard:=none}::rest) a w:=by
 subst hij
 refine wpList_plain rfl fun K hK=>?_
 have hh:=hK _ _ h
 have hr:(Instr.index ty (.agg l.toArray) (.int .i64 (j:Int))).run P w=.ok v w:=by
  cases hq:P.info? elem with
  | none=>simp [hq] at hs
  | some q =>
   have hs1:q.size=1:=by simpa [hq] using hs
   have hsz:(sizeOf elem).run P w=.ok 1 w:=by simp [sizeOf,typeInfo,hq,hs1]
   simp [Instr.index,asIntOf,run_underlying hu,hj,hsz,part,ha,hv]
 unfold Oper.wp execOp
 simp only [hx,hix,hr,Sem.run_bind,Sem.run_pure,Result.andThen_ok]
 exact hh
theorem dl {x:Operand} {il:Int} (l:Nat) (h:a.eval x=.int .i64 il) (he:il=(l:Int)):(some x).map a.eval=some (.int .i64 l):=by simp [h,he]
theorem iU {d s:Operand} {dT sT:TypeId} (i:Nat) {g:Nat} {l:List Value} {t:TypeId} (off dLen dCap:Nat) (ad:Addr) (sLen sCap:Nat) (cs:List Value) (hm:Mem w0 S w rows) (hi:rows[i]?=some (g,l,t))
  (hd:a.eval d=.slice (some ⟨g,off,none⟩) dLen dCap) (hs:a.eval s=.slice (some ad) sLen sCap) (elem:TypeId) (hu:P.underlying dT=some (.slice elem)) (hsz:(P.info? elem).map (·.size)=some 1)
  (hn:cs.length=Nat.min sLen dLen) (hsrc:∀j v,cs[j]?=some v→w.cell? (ad.add j)=some v) (hfit:off+cs.length≤l.length) (h1:∀v∈cs,v.oneCell'=true)
  (h:∀w',Mem w0 S w' (rows.set i (g,splice l off cs,t))→wpList P ops Q rest (a.put dst (.int .i64 cs.length)) w') :
  wpList P ops Q ({dst:=dst,op:=.call {callee:=.builtin .copy,args:=#[d,s],argTypes:=#[dT,sT]},type:=typ,pos:=pos,after:=aft,guard:=none}::rest) a w:=by
 have hr:=hm.get i hi
 refine wpList_copy_own rfl d s dT sT rfl elem hu hsz g off dLen dCap ad sLen sCap hd hs l.toArray t hr cs hn hsrc (by simpa using hfit) h1 ?_
 have hrun:=hr.setRow (splice l off cs)
 have hh:=h _ (hm.upd i hi (Upd.setRow g w (splice l off cs).toArray) hrun)
 simpa [goInt,splice] using hh
end
def Seg (w:World) (b off:Nat) (cs:List Int):Prop:=∀j,j<cs.length→w.cell? ⟨b,off+j,none⟩=some (.int .u8 (cs.getD j 0))
theorem Seg.src {w:World} {b off:Nat} {cs:List Int} (h:Seg w b off cs):∀j v,(u8s cs)[j]?=some v→w.cell? ((⟨b,off,none⟩:Addr).add j)=some v:=by
 intro j v hv
 have hj:j<cs.length:=by
  rcases Nat.lt_or_ge j cs.length with h'|h'
  ·exact h'
  ·rw [List.getElem?_eq_none (by rw [aa];exact h')] at hv;cases hv
 rw [cK cs j hj] at hv
 have hadd:(⟨b,off,none⟩:Addr).add j=⟨b,off+j,none⟩:=by unfold Addr.add;split<;>simp_all
 rw [hadd,h j hj,hv]
theorem Seg.lt {w:World} {b off:Nat} {cs:List Int} (h:Seg w b off cs) (hc:0<cs.length):b<w.heap.size:=block_lt_of_cell (h 0 hc)
theorem Seg.mem {w0 w:World} {S:List Nat} {rows:List (Nat×List Value×TypeId)} {b off:Nat} {cs:List Int} (h:Seg w0 b off cs) (hm:Mem w0 S w rows) (hS:b ∉ S):Seg w b off cs:=by
 intro j hj
 rw [hm.old (p:=⟨b,off+j,none⟩) (h.lt (by omega)) hS]
 exact h j hj
theorem Seg.below {w w':World} {b off:Nat} {cs:List Int} (h:Seg w b off cs) (hb:Below w.heap.size w w'):Seg w' b off cs:=by
 intro j hj
 rw [hb.cell (p:=⟨b,off+j,none⟩) (h.lt (by omega))]
 exact h j hj
theorem Seg.take {w:World} {b off:Nat} {cs:List Int} (h:Seg w b off cs) (n:Nat):Seg w b off (cs.take n):=by
 intro j hj
 simp at hj
 rw [h j (by omega)]
 have h1:j<n:=by omega
 have h2:j<cs.length:=by omega
 simp [h1,h2]
theorem Seg.drop {w:World} {b off:Nat} {cs:List Int} (h:Seg w b off cs) (n:Nat):Seg w b (off+n) (cs.drop n):=by
 intro j hj
 simp at hj
 rw [Nat.add_assoc,h (n+j) (by omega)]
 congr 2
 simp
theorem Seg.row {w:World} {g:Nat} {l:List Int} {t:TypeId} (h:Row w g (u8s l) t):Seg w g 0 l:=by
 intro j hj
 rw [Nat.zero_add,h.cell j,cK l j hj]
theorem fv {α:Type} (l cs:List α) (h:l.length=cs.length):splice l 0 cs=cs:=by
 simp [splice,h]
theorem aH {P:Program} {fn:Func} {R:Ending→World→Prop} {a:Act} {w w0:World} {S:List Nat} {rows:List (Nat×List Value×TypeId)} {p:Tmp} {ty:TypeId} (i:Nat) {g:Nat} {l:List Value} {t:TypeId} (hm:Mem w0 S w rows) (hi:rows[i]?=some (g,l,t))
  (hres:fn.results=#[.cell p ty]) (hp:a.tmps.getD p undef=.pointer (some ⟨g,0,none⟩)) (d:TypeDesc) (hu:P.underlying ty=some d) (hd:(match d with | .struct _ | .array _ _=>true|_=>false)=true)
  (n:Nat) (hs:(P.info? ty).map (·.size)=some n) (hn:l.length=n) (hd0:a.defers=[]) (hR:R (.returned (.agg l.toArray)) w):bodyPost P fn R .ret a w :=
 bodyPost_ret (results_cell_row hres a.tmps w g t l.toArray (0,0) d hp (hm.get i hi) hu hd (by rw [hs];simp [hn])) hd0 hR
open Go Go.RowKit
theorem info_b64:(Tryz.prog.info? 108).map (fun i=>(i.zero,i.size))=some (some (.agg (u8s (List.replicate 64 0)).toArray),64):=by kernel_rfl
theorem cG:∀w,(zeroValue 108).run Tryz.prog w=.ok (.agg (u8s (List.replicate 64 0)).toArray) w:=(zero_of_info info_b64).1
theorem bw:(Tryz.prog.info? 108).map (·.size)=some 64:=(zero_of_info info_b64).2
theorem info_b32:(Tryz.prog.info? 42).map (fun i=>(i.zero,i.size))=some (some (.agg (u8s (List.replicate 32 0)).toArray),32):=by kernel_rfl
theorem bz:∀w,(zeroValue 42).run Tryz.prog w=.ok (.agg (u8s (List.replicate 32 0)).toArray) w:=(zero_of_info info_b32).1
theorem bB:(Tryz.prog.info? 42).map (·.size)=some 32:=(zero_of_info info_b32).2
theorem info_b4:(Tryz.prog.info? 271).map (fun i=>(i.zero,i.size))=some (some (.agg (u8s [0,0,0,0]).toArray),4):=by kernel_rfl
theorem eW:∀w,(zeroValue 271).run Tryz.prog w=.ok (.agg (u8s [0,0,0,0]).toArray) w:=(zero_of_info info_b4).1
theorem gI:(Tryz.prog.info? 271).map (·.size)=some 4:=(zero_of_info info_b4).2
theorem info_w8:(Tryz.prog.info? 222).map (fun i=>(i.zero,i.size))=some (some (.agg (u32s (List.replicate 8 0)).toArray),8):=by kernel_rfl
theorem dP:∀w,(zeroValue 222).run Tryz.prog w=.ok (.agg (u32s (List.replicate 8 0)).toArray) w:=(zero_of_info info_w8).1
theorem bU:(Tryz.prog.info? 222).map (·.size)=some 8:=(zero_of_info info_w8).2
theorem info_w64:(Tryz.prog.info? 259).map (fun i=>(i.zero,i.size))=some (some (.agg (u32s (List.replicate 64 0)).toArray),64):=by kernel_rfl
theorem e7:∀w,(zeroValue 259).run Tryz.prog w=.ok (.agg (u32s (List.replicate 64 0)).toArray) w:=(zero_of_info info_w64).1
theorem gX:(Tryz.prog.info? 259).map (·.size)=some 64:=(zero_of_info info_w64).2
theorem aQ:(Tryz.prog.info? 5).map (·.size)=some 1:=by kernel_rfl
theorem eP:∀w,(isAgg 5).run Tryz.prog w=.ok false w:=by intro w;simp [go_sem]
theorem dB:(Tryz.prog.info? 69).map (·.size)=some 1:=by kernel_rfl
theorem ey:∀w,(isAgg 69).run Tryz.prog w=.ok false w:=by intro w;simp [go_sem]
theorem cD:Tryz.prog.underlying 108=some (.array 64 5):=Tryz.underlying108
theorem dV:Tryz.prog.underlying 42=some (.array 32 5):=Tryz.underlying42
theorem un_b4:Tryz.prog.underlying 271=some (.array 4 5):=Tryz.underlying271
theorem eA:Tryz.prog.underlying 222=some (.array 8 69):=Tryz.underlying222
theorem un_w64:Tryz.prog.underlying 259=some (.array 64 69):=Tryz.underlying259
theorem aF:Tryz.prog.underlying 56=some (.slice 5):=Tryz.underlying56
theorem rotr_any (x n:Int) (w:World) (hn0:0≤n) (hn1:n<32) :
  Calls Tryz.prog 207 #[.int .u32 x,.int .i64 n] w fun e w'=>e=.returned (.int .u32 (rotr x n))∧w'=w:=by
 have hn:n % 32=n:=by omega
 go_enter Tryz.func207,Tryz.ntmps207
 go_wp2
 go_ret
 exact ⟨rfl,rfl⟩
theorem putBig_any (x:Int) (w:World) :
  Calls Tryz.prog 208 #[.int .u32 x] w fun e w'=>e=.returned (.agg (u8s (four x)).toArray)∧Below w.heap.size w w':=by
 go_enter Tryz.func208,Tryz.ntmps208
 go_wp2
 refine bodyPost_ret (v:=.agg (u8s (four x)).toArray) (by simp [results,Tryz.results208,go_sem,u8s,four]) rfl ⟨rfl,?_⟩
 exact (Below.refl _ _).alloc (Nat.le_refl _) _
theorem lC (b off cap:Nat) (cs:List Int) (hcs:cs.length=4) (w:World) (hc:Seg w b off cs) :
  Calls Tryz.prog 225 #[.slice (some ⟨b,off,none⟩) 4 cap] w fun e w'=>e=.returned (.agg (u8s cs).toArray)∧Below w.heap.size w w':=by
 have hm:=Mem.start w
 go_enter Tryz.func225,Tryz.ntmps225
 go_wp2_with (first
  | ((with_reducible refine ae (some 2) (.alloc 271) ?_);refine ag _ eW hm ?_;clear hm;intro w1 g1 hm)
  | ((with_reducible refine ae (some 3) (.alloc 271) ?_);refine ag _ eW hm ?_;clear hm;intro w2 g2 hm)
  | ((with_reducible refine ae (some 6) (.call {callee:=.builtin .copy,args:=#[.tmp 4,.tmp 5],argTypes:=#[56,56]}) ?_);refine iU 0 0 4 4 ⟨b,off,none⟩ 4 cap (u8s cs) hm rfl rfl rfl _ aF aQ (by simp [aa,hcs]) (hc.mem hm (by simp)).src (by simp [aa,hcs]) (ai _) ?_;clear hm;intro w3 hm;rw [fv _ _ (by simp [aa,hcs])] at hm)
  | ((with_reducible refine ae (some 7) (.load 271 (.tmp 3)) ?_);refine av 0 hm rfl rfl _ un_b4 rfl 4 gI (by simp [aa,hcs]) ?_)
  | ((with_reducible refine ae none (.store 271 (.tmp 2) (.tmp 7)) ?_);refine ah 1 (u8s cs) hm rfl rfl rfl 4 gI (by simp [aa]) (by simp [aa,hcs]) (ai _) ?_;clear hm;intro w4 hm))
 exact aH 1 hm rfl Tryz.results225 rfl _ un_b4 rfl 4 gI (by simp [aa,hcs]) rfl ⟨rfl,hm.below⟩
theorem big_any (b off cap:Nat) (c0 c1 c2 c3:Int) (w:World) (hc:Seg w b off [c0,c1,c2,c3]) (h0:0≤c0∧c0<256) (h1:0≤c1∧c1<256) (h2:0≤c2∧c2<256) (h3:0≤c3∧c3<256) :
  Calls Tryz.prog 217 #[.slice (some ⟨b,off,none⟩) 4 cap] w fun e w'=>e=.returned (.int .u32 (big4 c0 c1 c2 c3))∧Below w.heap.size w w':=by
 obtain ⟨h00,h01⟩:=h0
 obtain ⟨h10,h11⟩:=h1
 obtain ⟨h20,h21⟩:=h2
 obtain ⟨h30,h31⟩:=h3
 have hm:=Mem.start w
 go_enter Tryz.func217,Tryz.ntmps217
 go_wp2_with (first
  | (go_at_call 225;refine (lC b off cap [c0,c1,c2,c3] rfl _ (hc.mem hm (by simp))).mono ?_;rintro e w1 ⟨rfl,hb⟩;replace hm:=hm.call hb;clear hb)
  | ((with_reducible refine ae (some 3) (.alloc 271) ?_);refine ag _ eW hm ?_;clear hm;intro w2 g2 hm)
  | ((with_reducible refine ae none (.store 271 (.tmp 3) (.tmp 5)) ?_);refine ah 0 (u8s [c0,c1,c2,c3]) hm rfl rfl rfl 4 gI (by simp [aa]) (rfl) (ai _) ?_;clear hm;intro w3 hm)
  | ((with_reducible refine ae (some 7) (.load 5 (.tmp 6)) ?_);refine bm 0 0 (.int .u8 c0) hm rfl rfl eP (rfl) ?_)
  | ((with_reducible refine ae (some 11) (.load 5 (.tmp 10)) ?_);refine bm 0 1 (.int .u8 c1) hm rfl rfl eP (rfl) ?_)
  | ((with_reducible refine ae (some 16) (.load 5 (.tmp 15)) ?_);refine bm 0 2 (.int .u8 c2) hm rfl rfl eP (rfl) ?_)
  | ((with_reducible refine ae (some 21) (.load 5 (.tmp 20)) ?_);refine bm 0 3 (.int .u8 c3) hm rfl rfl eP (rfl) ?_))
 go_ret
 exact ⟨rfl,hm.below⟩
end Go.Proofs.YtlpnafdkhoimhaaGreatDoor
namespace Go.Proofs.YtlpnafdkhoimhaaGreatDoor
open Go Go.RowKit
theorem seg4 {w:World} {g:Nat} {bs:List Int} {t:TypeId} (h:Row w g (u8s bs) t) (k:Nat) (hk:4 * k+3<bs.length) :
  Seg w g (4 * k) [bs.getD (4 * k) 0,bs.getD (4 * k+1) 0,bs.getD (4 * k+2) 0,bs.getD (4 * k+3) 0]:=by
 have hs:=Seg.row h
 intro j hj
 have hj4:j<4:=by simpa using hj
 have hq:=hs (4 * k+j) (by omega)
 rw [Nat.zero_add] at hq
 rw [hq]
 match j,hj4 with
 | 0,_=>rfl
 | 1,_=>rfl
 | 2,_=>rfl
 | 3,_=>rfl
theorem spread_step {w wr:World} {g1 g2 g3:Nat} {bs z:List Int} {t t':TypeId} {m:Nat} (hm:Mem w [] wr [(g3,u32s (schedRow bs (m+16)),t),(g2,u32s z,t),(g1,u8s bs,t')]) (n:Nat) (hlt:m<48) (x:Int) (hx:x=nextW (sched bs (m+16)) (m+16)) :
  Mem w [] ((wr.drewN n).setCell ⟨g3,m+16,none⟩ (.int .u32 x)) [(g3,u32s (schedRow bs (m+1+16)),t),(g2,u32s z,t),(g1,u8s bs,t')]:=by
 have h:=(hm.drewN n).setCell 0 rfl (m+16) (.int .u32 x)
 rw [List.set_cons_zero,cH,d7 bs (m+16) (by omega) x (by rw [if_neg (by omega)];exact hx)] at h
 rw [show m+1+16=m+16+1 by omega]
 exact h
theorem spread_any (bs:List Int) (hbs:bs.length=64) (hby:∀j,0≤bs.getD j 0∧bs.getD j 0<256) (w:World) :
  Calls Tryz.prog 206 #[.agg (u8s bs).toArray] w fun e w'=>e=.returned (.agg (u32s (sched bs 64)).toArray)∧Below w.heap.size w w':=by
 have hm:=Mem.start w
 go_enter Tryz.func206,Tryz.ntmps206
 go_wp2_with (first
  | ((with_reducible refine ae (some 1) (.box 108 (.tmp 0)) ?_);refine az (u8s bs) rfl hm ?_;clear hm;intro w1 g1 hm)
  | ((with_reducible refine ae (some 2) (.alloc 259) ?_);refine ag _ e7 hm ?_;clear hm;intro w2 g2 hm)
  | ((with_reducible refine ae (some 3) (.alloc 259) ?_);refine ag _ e7 hm ?_;clear hm;intro w3 g3 hm))

 go_loopw [10] (fun i wr=>∃k:Nat,k≤16∧i=.int .i64 k∧Mem w [] wr [(g3,u32s (schedRow bs k),259),(g2,u32s (List.replicate 64 0),259),(g1,u8s bs,108)]) (fun i _=>16 - (intOf i).toNat)
 case atStart=>exact ⟨0,by omega,rfl,hm⟩
 case round =>
  clear hm
  obtain ⟨k,hk,rfl,hm⟩:=hrel
  by_cases hlt:k<16
  ·have e1:4 * (k:Int)=((4 * k:Nat):Int):=by omega
   have e2:4 * ((k:Int)+1)=((4 * k+4:Nat):Int):=by omega
   have E1:Hid _:=e1
   have E2:Hid _:=e2
   clear e1 e2
   have hq:=hby (4 * k)
   have hq1:=hby (4 * k+1)
   have hq2:=hby (4 * k+2)
   have hq3:=hby (4 * k+3)
   have hsg:Seg wr g1 (4 * k) [bs.getD (4 * k) 0,bs.getD (4 * k+1) 0,bs.getD (4 * k+2) 0,bs.getD (4 * k+3) 0]:=seg4 (hm.get 2 rfl) k (by omega)
   have HQ:Hid _:=And.intro hq (And.intro hq1 (And.intro hq2 (And.intro hq3 hsg)))
   clear hq hq1 hq2 hq3 hsg hby
   go_wp2_with (first
    | ((with_reducible refine ae (some 19) (.slice 108 (.tmp 1) (some (.tmp 15)) (some (.tmp 18)) none) ?_);refine ed 64 cD aQ (4 * k) 4 (by omega) (by omega) rfl (Or.inl (dl _ rfl E1.out)) (Or.inl (dl _ rfl E2.out)) ?_)
    | (go_at_call 217;refine (big_any _ _ _ _ _ _ _ _ HQ.out.2.2.2.2 HQ.out.1 HQ.out.2.1 HQ.out.2.2.1 HQ.out.2.2.2.1).mono ?_;rintro e w5 ⟨rfl,hb⟩;replace hm:=hm.call hb;clear hb)
    | ((with_reducible refine ae none (.store 69 (.tmp 21) (.tmp 20)) ?_);refine bj 0 k (.int .u32 (big4 (bs.getD (4 * k) 0) (bs.getD (4 * k+1) 0) (bs.getD (4 * k+2) 0) (bs.getD (4 * k+3) 0))) hm rfl (rfl) rfl dB (by simp [ao,bg _ _ (show k≤64 by omega)];omega) rfl rfl ?_;clear hm;intro w6 hm))
   have hn:Mem w [] w6 [(g3,u32s (schedRow bs (k+1)),259),(g2,u32s (List.replicate 64 0),259),(g1,u8s bs,108)]:=by
    rw [List.set_cons_zero,cH,d7 bs k (by omega) _ (by rw [if_pos hlt])] at hm
    exact hm
   clear hm
   go_roundw
   case rel=>exact ⟨k+1,by omega,by go_num,hn⟩
   case measure=>simp [intOf];omega
  ·have hk16:k=16:=by omega
   subst hk16
   go_wp2_with fail
   rw [show ((16:Nat):Int)=16 from rfl]
   go_loopw [5] (fun i wr=>∃m:Nat,m≤48∧i=.int .i64 (m+16:Nat)∧Mem w [] wr [(g3,u32s (schedRow bs (m+16)),259),(g2,u32s (List.replicate 64 0),259),(g1,u8s bs,108)]) (fun i _=>64 - (intOf i).toNat)
   case atStart=>exact ⟨0,by omega,rfl,hm⟩
   case round =>
    clear hm
    obtain ⟨m,hm64,rfl,hm⟩:=hrel
    by_cases hlt2:m<48
    ·have hrow:=hm.get 0 rfl
     obtain ⟨a15,ha15⟩:∃x,x=(sched bs (m+16)).getD (m+1) 0:=⟨_,rfl⟩
     obtain ⟨a2,ha2⟩:∃x,x=(sched bs (m+16)).getD (m+14) 0:=⟨_,rfl⟩
     obtain ⟨a7,ha7⟩:∃x,x=(sched bs (m+16)).getD (m+9) 0:=⟨_,rfl⟩
     obtain ⟨a16,ha16⟩:∃x,x=(sched bs (m+16)).getD m 0:=⟨_,rfl⟩
     have hc15:wr.cell? ⟨g3,m+1,none⟩=some (.int .u32 a15):=by rw [hrow.cell,aU _ _ (by rw [bg _ _ (by omega)];omega),cf _ _ _ (by omega),ha15]
     have hc2:wr.cell? ⟨g3,m+14,none⟩=some (.int .u32 a2):=by rw [hrow.cell,aU _ _ (by rw [bg _ _ (by omega)];omega),cf _ _ _ (by omega),ha2]
     have hc7:wr.cell? ⟨g3,m+9,none⟩=some (.int .u32 a7):=by rw [hrow.cell,aU _ _ (by rw [bg _ _ (by omega)];omega),cf _ _ _ (by omega),ha7]
     have hc16:wr.cell? ⟨g3,m,none⟩=some (.int .u32 a16):=by rw [hrow.cell,aU _ _ (by rw [bg _ _ (by omega)];omega),cf _ _ _ (by omega),ha16]
     have hck:wr.cell? ⟨g3,m+16,none⟩=some (.int .u32 ((schedRow bs (m+16)).getD (m+16) 0)):=by rw [hrow.cell,aU _ _ (by rw [bg _ _ (by omega)];omega)]
     have hfk:wr.frozen? ⟨g3,m+16,none⟩=false:=hrow.free _
     have hnext:nextW (sched bs (m+16)) (m+16)=(sig1 a2+a7+sig0 a15+a16) % 4294967296:=by
      rw [ha15,ha2,ha7,ha16];rfl
     have HN:Hid _:=hnext
     have HM:Hid _:=hm
     clear hnext hm ha15 ha2 ha7 ha16 hrow
     go_wp2_with fail
     go_quiet (fail)
     go_wp2_with (go_at_call 207;refine (rotr_any _ _ _ (by omega) (by omega)).mono ?_;rintro e w' ⟨rfl,rfl⟩)
     go_region
     go_wp2
     go_roundw
     case rel=>exact ⟨m+1,by omega,by go_num,spread_step HM.out _ (by omega) _ HN.out.symm⟩
     case measure=>simp [intOf];omega
    ·have hm48:m=48:=by omega
     subst hm48
     rw [show 48+16=64 from rfl,gM] at hm
     go_wp2_with (first
      | ((with_reducible refine ae (some 66) (.load 259 (.tmp 3)) ?_);refine av 0 hm rfl rfl _ un_w64 rfl 64 gX (by simp [ao,bu]) ?_)
      | ((with_reducible refine ae none (.store 259 (.tmp 2) (.tmp 66)) ?_);refine ah 1 (u32s (sched bs 64)) hm rfl rfl rfl 64 gX (by simp [ao]) (by simp [ao,bu]) (aX _) ?_;clear hm;intro w8 hm))
     exact aH 1 hm rfl Tryz.results206 rfl _ un_w64 rfl 64 gX (by simp [ao,bu]) rfl ⟨rfl,hm.below⟩
end Go.Proofs.YtlpnafdkhoimhaaGreatDoor
namespace Go.Proofs.YtlpnafdkhoimhaaGreatDoor
open Go Go.RowKit
def Tab (w:World):Prop:=∀j,j<64→w.cell? ⟨0,j,none⟩=some (.int .u32 (kTab.getD j 0))
theorem Tab.lt {w:World} (h:Tab w):0<w.heap.size:=block_lt_of_cell (h 0 (by omega))
theorem gg (ws bs:List Int) (hws:ws.length=8) (hbs:bs.length=64) (hby:∀j,0≤bs.getD j 0∧bs.getD j 0<256) (w:World) (ht:Tab w) :
  Calls Tryz.prog 191 #[.agg (u32s ws).toArray,.agg (u8s bs).toArray] w fun e w'=>e=.returned (.agg (u32s (mix ws bs)).toArray)∧Below w.heap.size w w':=by
 match ws,hws with
 | [x0,x1,x2,x3,x4,x5,x6,x7],_ =>
 have hm:=Mem.start w
 have HT:Hid _:=ht
 clear ht
 go_enter Tryz.func191,Tryz.ntmps191
 go_wp2_with (first
  | ((with_reducible refine ae (some 2) (.box 222 (.tmp 0)) ?_);refine az (u32s [x0,x1,x2,x3,x4,x5,x6,x7]) rfl hm ?_;clear hm;intro w1 g1 hm)
  | ((with_reducible refine ae (some 3) (.box 108 (.tmp 1)) ?_);refine az (u8s bs) rfl hm ?_;clear hm;intro w2 g2 hm)
  | ((with_reducible refine ae (some 4) (.alloc 222) ?_);refine ag _ dP hm ?_;clear hm;intro w3 g3 hm)
  | ((with_reducible refine ae (some 21) (.load 108 (.tmp 3)) ?_);refine av 1 hm rfl rfl _ cD rfl 64 bw (by simp [aa,hbs]) ?_)
  | (go_at_call 206;refine (spread_any bs hbs hby _).mono ?_;rintro e w4 ⟨rfl,hb⟩;replace hm:=hm.call hb;clear hb)
  | ((with_reducible refine ae (some 5) (.alloc 259) ?_);refine ag _ e7 hm ?_;clear hm;intro w5 g5 hm)
  | ((with_reducible refine ae none (.store 259 (.tmp 5) (.tmp 22)) ?_);refine ah 0 (u32s (sched bs 64)) hm rfl rfl rfl 64 gX (by simp [ao]) (by simp [ao,bu]) (aX _) ?_;clear hm;intro w6 hm))

 have hr:=hm.get 3 rfl
 have c0:w6.cell? ⟨g1,0,none⟩=some (.int .u32 x0):=hr.cell 0
 have c1:w6.cell? ⟨g1,1,none⟩=some (.int .u32 x1):=hr.cell 1
 have c2:w6.cell? ⟨g1,2,none⟩=some (.int .u32 x2):=hr.cell 2
 have c3:w6.cell? ⟨g1,3,none⟩=some (.int .u32 x3):=hr.cell 3
 have c4:w6.cell? ⟨g1,4,none⟩=some (.int .u32 x4):=hr.cell 4
 have c5:w6.cell? ⟨g1,5,none⟩=some (.int .u32 x5):=hr.cell 5
 have c6:w6.cell? ⟨g1,6,none⟩=some (.int .u32 x6):=hr.cell 6
 have c7:w6.cell? ⟨g1,7,none⟩=some (.int .u32 x7):=hr.cell 7
 have HM:Hid _:=hm
 clear hr hm
 go_quiet (fail)
 go_wp2_with fail
 go_quiet (fail)
 go_wp2_with fail
 clear c0 c1 c2 c3 c4 c5 c6 c7
 go_loopw [6,7,8,9,10,11,12,13,39] (fun va vb vc vd ve vf vg vh vi wr=>∃(k:Nat) (a b c d e f g h:Int),k≤64∧vi=.int .i64 k∧va=.int .u32 a∧vb=.int .u32 b∧vc=.int .u32 c∧vd=.int .u32 d∧ve=.int .u32 e∧vf=.int .u32 f∧vg=.int .u32 g∧vh=.int .u32 h ∧
   Hid (shaRounds [x0,x1,x2,x3,x4,x5,x6,x7] (sched bs 64) k=[a,b,c,d,e,f,g,h])∧Hid (Mem w [] wr [(g5,u32s (sched bs 64),259),(g3,u32s (List.replicate 8 0),222),(g2,u8s bs,108),(g1,u32s [x0,x1,x2,x3,x4,x5,x6,x7],222)]))
  (fun _ _ _ _ _ _ _ _ vi _=>64 - (intOf vi).toNat)
 case atStart=>exact ⟨0,x0,x1,x2,x3,x4,x5,x6,x7,by omega,rfl,rfl,rfl,rfl,rfl,rfl,rfl,rfl,rfl,rfl,(HM.out.drewN _).drewN _⟩
 case round =>
  clear HM
  obtain ⟨k,a,b,c,d,e,f,g,h,hk,rfl,rfl,rfl,rfl,rfl,rfl,rfl,rfl,rfl,HR,HM⟩:=hrel
  by_cases hlt:k<64
  ·obtain ⟨kk,hkk⟩:∃x,x=kTab.getD k 0:=⟨_,rfl⟩
   obtain ⟨xx,hxx⟩:∃x,x=(sched bs 64).getD k 0:=⟨_,rfl⟩
   have hcK:wr.cell? ⟨0,k,none⟩=some (.int .u32 kk):=by rw [HM.out.old (p:=⟨0,k,none⟩) (Tab.lt HT.out) (by simp),HT.out k hlt,hkk]
   have hcW:wr.cell? ⟨g5,k,none⟩=some (.int .u32 xx):=by rw [HM.out.cell 0 rfl,aU _ _ (by rw [bu];exact hlt),hxx]
   have HK:Hid _:=hkk
   have HX:Hid _:=hxx
   clear hkk hxx
   go_wp2_with (go_at_call 207;refine (rotr_any _ _ _ (by omega) (by omega)).mono ?_;rintro e w' ⟨rfl,rfl⟩)
   go_quiet (fail)
   go_wp2_with fail
   go_roundw
   case rel=>exact ⟨k+1,_,a,b,c,_,e,f,g,by omega,by go_num,rfl,rfl,rfl,rfl,rfl,rfl,rfl,rfl,fF HR.out HK.out HX.out,HM.out.drewN _⟩
   case measure=>simp [intOf];omega
  ·have hk64:k=64:=by omega
   subst hk64
   have hm:=HM.out
   clear HM HT
   go_wp2_with fail
   rw [show ((64:Nat):Int)=64 from rfl]
   have hv8:[a,b,c,d,e,f,g,h].length=8:=rfl
   have hx8:[x0,x1,x2,x3,x4,x5,x6,x7].length=8:=rfl
   have hfin:mix [x0,x1,x2,x3,x4,x5,x6,x7] bs=addW [x0,x1,x2,x3,x4,x5,x6,x7] [a,b,c,d,e,f,g,h]:=by unfold mix;rw [HR.out]
   have HF:Hid _:=hfin
   have HV:Hid _:=hv8
   have HX:Hid _:=hx8
   clear hfin hv8 hx8 HR
   go_loopw [113] (fun vi wr=>∃k:Nat,k≤8∧vi=.int .i64 k∧Mem w [] wr [(g5,u32s (sched bs 64),259),(g3,u32s (List.replicate 8 0),222),(g2,u8s bs,108),(g1,u32s (addUpto [x0,x1,x2,x3,x4,x5,x6,x7] [a,b,c,d,e,f,g,h] k),222)])
    (fun vi _=>8 - (intOf vi).toNat)
   case atStart=>exact ⟨0,by omega,rfl,hm⟩
   case round =>
    clear hm
    obtain ⟨k,hk8,rfl,hm⟩:=hrel
    by_cases hlt8:k<8
    ·obtain ⟨y,hy⟩:∃y,y=[a,b,c,d,e,f,g,h].getD k 0:=⟨_,rfl⟩
     obtain ⟨x,hx⟩:∃y,y=[x0,x1,x2,x3,x4,x5,x6,x7].getD k 0:=⟨_,rfl⟩
     have hvy:(u32s [a,b,c,d,e,f,g,h])[k]?=some (.int .u32 y):=by rw [aU _ _ hlt8,hy]
     have hvx:(u32s (addUpto [x0,x1,x2,x3,x4,x5,x6,x7] [a,b,c,d,e,f,g,h] k))[k]?=some (.int .u32 x):=by
      rw [aU _ _ (by rw [eE _ _ HX.out HV.out k hk8];exact hlt8),jz _ _ HX.out HV.out k hlt8,hx]
     have hset:(u32s (addUpto [x0,x1,x2,x3,x4,x5,x6,x7] [a,b,c,d,e,f,g,h] k)).set k (.int .u32 ((x+y) % 4294967296))=u32s (addUpto [x0,x1,x2,x3,x4,x5,x6,x7] [a,b,c,d,e,f,g,h] (k+1)):=by
      rw [cH,hx,hy,jv _ _ HX.out HV.out k hlt8]
     have hlen:k<(u32s (addUpto [x0,x1,x2,x3,x4,x5,x6,x7] [a,b,c,d,e,f,g,h] k)).length:=by
      rw [ao,eE _ _ HX.out HV.out k hk8];exact hlt8
     have HVY:Hid _:=hvy
     have HVX:Hid _:=hvx
     have HS:Hid _:=hset
     have HL:Hid _:=hlen
     clear hvy hvx hset hlen hy hx
     go_wp2_with (first
      | ((with_reducible refine ae (some 116) (.index 222 (.tmp 112) (.tmp 113)) ?_);refine wpl_ixa 8 eA dB ey (u32s [a,b,c,d,e,f,g,h]) k (.int .u32 y) (hlt8) rfl rfl (rfl) (HVY.out) ?_)
      | ((with_reducible refine ae (some 119) (.load 69 (.tmp 118)) ?_);refine bm 3 k (.int .u32 x) hm rfl rfl ey (HVX.out) ?_)
      | ((with_reducible refine ae none (.store 69 (.tmp 122) (.tmp 121)) ?_);refine bj 3 k (.int .u32 ((x+y) % 4294967296)) hm rfl (rfl) rfl dB (HL.out) rfl rfl ?_;clear hm;intro w9 hm))

     have hn:Mem w [] w9 [(g5,u32s (sched bs 64),259),(g3,u32s (List.replicate 8 0),222),(g2,u8s bs,108),(g1,u32s (addUpto [x0,x1,x2,x3,x4,x5,x6,x7] [a,b,c,d,e,f,g,h] (k+1)),222)]:=by
      rw [HS.out] at hm
      exact hm
     clear hm
     go_roundw
     case rel=>exact ⟨k+1,by omega,by go_num,hn⟩
     case measure=>simp [intOf];omega
    ·have hk8':k=8:=by omega
     subst hk8'
     rw [iV _ _ HX.out HV.out,←HF.out] at hm
     have hln:(u32s (mix [x0,x1,x2,x3,x4,x5,x6,x7] bs)).length=8:=by rw [HF.out,ao,dS _ _ HX.out HV.out]
     have HLN:Hid _:=hln
     clear hln
     go_wp2_with (first
      | ((with_reducible refine ae (some 124) (.load 222 (.tmp 2)) ?_);refine av 3 hm rfl rfl _ eA rfl 8 bU (HLN.out) ?_)
      | ((with_reducible refine ae none (.store 222 (.tmp 4) (.tmp 124)) ?_);refine ah 1 (u32s (mix [x0,x1,x2,x3,x4,x5,x6,x7] bs)) hm rfl rfl rfl 8 bU (by simp [ao]) (HLN.out) (aX _) ?_;clear hm;intro w8 hm))
     exact aH 1 hm rfl Tryz.results191 rfl _ eA rfl 8 bU HLN.out rfl ⟨rfl,hm.below⟩
end Go.Proofs.YtlpnafdkhoimhaaGreatDoor
