import Derived.WalkKit
import Derived.WalkSpells
import Derived.Laws.CopyOwn
import Derived.Laws.Rows
import Derived.Laws.Tables
import Derived.Deep.WholeRow
import Derived.Deep.QuietTactic
import Derived.BigQuiet
import Derived.StillTailTactics
import Derived.Laws.BytesString
set_option maxRecDepth 100000
set_option maxHeartbeats 4000000
namespace Go.Proofs.YtnllomcajijbjaaGreatDoor
open Go Go.RowKit
def u8s (l:List Int):List Value:=l.map (Value.int .u8)
def u32s (l:List Int):List Value:=l.map (Value.int .u32)
theorem ab (l:List Int):(u8s l).length=l.length:=by simp [u8s]
theorem ar (l:List Int):(u32s l).length=l.length:=by simp [u32s]
theorem cP (l:List Int) (i:Nat) (h:i<l.length):(u8s l)[i]?=some (.int .u8 (l.getD i 0)):=by
 simp [u8s,h]
theorem bQ (l:List Int) (i:Nat) (h:i<l.length):(u32s l)[i]?=some (.int .u32 (l.getD i 0)):=by
 simp [u32s,h]
theorem aq (l:List Int):∀v∈u8s l,v.oneCell'=true:=by
 intro v hv;simp [u8s] at hv;obtain ⟨x,_,rfl⟩:=hv;rfl
theorem bk (l:List Int):∀v∈u32s l,v.oneCell'=true:=by
 intro v hv;simp [u32s] at hv;obtain ⟨x,_,rfl⟩:=hv;rfl
def Row (w:World) (g:Nat) (l:List Value) (t:TypeId):Prop:=w.heap[g]?=some (.cells l.toArray t (0,0))
theorem Row.lt {w:World} {g:Nat} {l:List Value} {t:TypeId} (h:Row w g l t):g<w.heap.size:=(Array.getElem?_eq_some_iff.1 h).1
theorem Row.cell {w:World} {g:Nat} {l:List Value} {t:TypeId} (h:Row w g l t) (i:Nat):w.cell? ⟨g,i,none⟩=l[i]?:=by
 rw [cell_of_row w g i _ t (0,0) h];simp
theorem Row.free {w:World} {g:Nat} {l:List Value} {t:TypeId} (h:Row w g l t) (i:Nat):w.frozen? ⟨g,i,none⟩=false:=frozen_of_row w g i _ t h
theorem Row.below {w w':World} {B g:Nat} {l:List Value} {t:TypeId} (h:Row w g l t) (hb:Below B w w') (hg:g<B):Row w' g l t:=by
 unfold Row;rw [hb.block g hg];exact h
theorem Row.below' {w w':World} {g:Nat} {l:List Value} {t:TypeId} (h:Row w g l t) (hb:Below w.heap.size w w'):Row w' g l t:=h.below hb h.lt
theorem Row.drew {w:World} {g:Nat} {l:List Value} {t:TypeId} (h:Row w g l t):Row w.drew g l t:=h
theorem Row.alloc {w:World} {g:Nat} {l:List Value} {t:TypeId} (h:Row w g l t) (o:Obj):Row (w.alloc o) g l t:=by
 unfold Row;rw [Below.heap_alloc _ _ _ h.lt];exact h
theorem Row.new (w:World) (l:List Value) (t:TypeId):Row (w.alloc (.cells l.toArray t)) w.heap.size l t:=heap_alloc_new w _
theorem Row.set {w:World} {g:Nat} {l:List Value} {t:TypeId} (h:Row w g l t) (i:Nat) (v:Value):Row (w.setCell ⟨g,i,none⟩ v) g (l.set i v) t:=by
 unfold Row
 rw [heap_setCell_same w g i l.toArray t v h];simp
theorem Row.setRow {w:World} {g:Nat} {l:List Value} {t:TypeId} (h:Row w g l t) (l':List Value):Row (w.setRow g l'.toArray) g l' t :=
 setRow_heap w g _ _ t _ h
def rotr (x n:Int):Int:=bits .or .u32 (x / 2 ^ n.toNat) (x * 2 ^ (32 - n).toNat % 4294967296)
def big4 (a b c d:Int):Int:=bits .or .u32 (bits .or .u32 (bits .or .u32 (a * 16777216) (b * 65536)) (c * 256)) d
def four (x:Int):List Int:=[x / 16777216 % 256,x / 65536 % 256,x / 256 % 256,x % 256]
def sig0 (x:Int):Int:=bits .xor .u32 (bits .xor .u32 (rotr x 7) (rotr x 18)) (x / 8)
def sig1 (y:Int):Int:=bits .xor .u32 (bits .xor .u32 (rotr y 17) (rotr y 19)) (y / 1024)
def nextW (l:List Int) (k:Nat):Int :=
 (sig1 (l.getD (k - 2) 0)+l.getD (k - 7) 0+sig0 (l.getD (k - 15) 0)+l.getD (k - 16) 0) % 4294967296
def sched (b:List Int):Nat→List Int
 | 0=>[]
 | k+1=>sched b k++[if k<16 then big4 (b.getD (4 * k) 0) (b.getD (4 * k+1) 0) (b.getD (4 * k+2) 0) (b.getD (4 * k+3) 0) else nextW (sched b k) k]
theorem bR (b:List Int) (k:Nat):(sched b k).length=k:=by
 induction k with
 | zero=>rfl
 | succ k ih=>simp [sched,ih]
def cap0 (a:Int):Int:=bits .xor .u32 (bits .xor .u32 (rotr a 2) (rotr a 13)) (rotr a 22)
def cap1 (e:Int):Int:=bits .xor .u32 (bits .xor .u32 (rotr e 6) (rotr e 11)) (rotr e 25)
def kTab:List Int:=[1116352408,1899447441,3049323471,3921009573,961987163,1508970993,2453635748,2870763221,3624381080,310598401,607225278,1426881987,1925078388,2162078206,2614888103,3248222580,3835390401,4022224774,264347078,604807628,770255983,1249150122,1555081692,1996064986,2554220882,2821834349,2952996808,3210313671,3336571891,3584528711,113926993,338241895,666307205,773529912,1294757372,1396182291,1695183700,1986661051,2177026350,2456956037,2730485921,2820302411,3259730800,3345764771,3516065817,3600352804,4094571909,275423344,430227734,506948616,659060556,883997877,958139571,1322822218,1537002063,1747873779,1955562222,2024104815,2227730452,2361852424,2428436474,2756734187,3204031479,3329325298]
def notW (e:Int):Int:=bits .xor .u32 (if IntKind.u32.signed=true then -1 else IntKind.u32.max) e
def tOne (k x e f g h:Int):Int:=(h+cap1 e+bits .xor .u32 (bits .and .u32 e f) (bits .and .u32 (notW e) g)+k+x) % 4294967296
def tTwo (a b c:Int):Int:=(cap0 a+bits .xor .u32 (bits .xor .u32 (bits .and .u32 a b) (bits .and .u32 a c)) (bits .and .u32 b c)) % 4294967296
def rnd (k x:Int):List Int→List Int
 | [a,b,c,d,e,f,g,h]=>[(tOne k x e f g h+tTwo a b c) % 4294967296,a,b,c,(d+tOne k x e f g h) % 4294967296,e,f,g]
 | l=>l
def shaRounds (ws W:List Int):Nat→List Int
 | 0=>ws
 | k+1=>rnd (kTab.getD k 0) (W.getD k 0) (shaRounds ws W k)
theorem jp {ws W:List Int} {k:Nat} {a b c d e f g h kk xx:Int} (hr:shaRounds ws W k=[a,b,c,d,e,f,g,h]) (hk:kk=kTab.getD k 0) (hx:xx=W.getD k 0) :
  shaRounds ws W (k+1)=[(tOne kk xx e f g h+tTwo a b c) % 4294967296,a,b,c,(d+tOne kk xx e f g h) % 4294967296,e,f,g]:=by
 rw [shaRounds,hr,←hk,←hx];rfl
def addW (a b:List Int):List Int:=List.zipWith (fun x y=>(x+y) % 4294967296) a b
def addUpto (ws vs:List Int) (k:Nat):List Int:=(addW ws vs).take k++ws.drop k
theorem ec (ws vs:List Int) (h:ws.length=8) (h':vs.length=8):(addW ws vs).length=8:=by simp [addW,h,h']
theorem ff (ws vs:List Int) (h:ws.length=8) (h':vs.length=8) (k:Nat) (hk:k≤8):(addUpto ws vs k).length=8:=by simp [addUpto,addW,h,h'];omega
theorem addUpto_full (ws vs:List Int) (h:ws.length=8) (h':vs.length=8):addUpto ws vs 8=addW ws vs:=by
 unfold addUpto
 rw [List.take_of_length_le (by rw [ec ws vs h h'];omega),List.drop_of_length_le (by omega),List.append_nil]
theorem addUpto_get (ws vs:List Int) (h:ws.length=8) (h':vs.length=8) (k:Nat) (hk:k<8):(addUpto ws vs k).getD k 0=ws.getD k 0:=by
 have e:min k 8=k:=by omega
 simp [addUpto,List.getElem?_append,addW,h,h',e]
theorem addUpto_set (ws vs:List Int) (h:ws.length=8) (h':vs.length=8) (k:Nat) (hk:k<8):(addUpto ws vs k).set k ((ws.getD k 0+vs.getD k 0) % 4294967296)=addUpto ws vs (k+1):=by
 unfold addUpto
 have hl:(addW ws vs).length=8:=ec ws vs h h'
 have e:((addW ws vs).take k).length=k:=by simp [hl];omega
 rw [List.set_append_right _ _ (by omega),e,Nat.sub_self]
 have hd:ws.drop k=ws[k]'(by omega)::ws.drop (k+1):=List.drop_eq_getElem_cons (by omega)
 rw [hd,List.set_cons_zero,List.take_succ_eq_append_getElem (by omega)]
 simp [addW,h,h',hk]
def mix (ws bs:List Int):List Int:=addW ws (shaRounds ws (sched bs 64) 64)
def schedRow (b:List Int) (k:Nat):List Int:=sched b k++List.replicate (64 - k) 0
theorem bV (b:List Int) (k:Nat) (h:k≤64):(schedRow b k).length=64:=by simp [schedRow,bR];omega
theorem jE (b:List Int):schedRow b 64=sched b 64:=by simp [schedRow]
theorem gC (b:List Int) (k:Nat) (h:k<64) (x:Int) (hx:x=(if k<16 then big4 (b.getD (4 * k) 0) (b.getD (4 * k+1) 0) (b.getD (4 * k+2) 0) (b.getD (4 * k+3) 0) else nextW (sched b k) k)) :
  (schedRow b k).set k x=schedRow b (k+1):=by
 subst hx
 unfold schedRow
 rw [List.set_append_right _ _ (by rw [bR];omega),bR,Nat.sub_self]
 have:64 - k=(64 - (k+1))+1:=by omega
 rw [this,List.replicate_succ,List.set_cons_zero,sched]
 simp
theorem dJ (b:List Int) (k j:Nat) (h:j<k):(schedRow b k).getD j 0=(sched b k).getD j 0:=by
 unfold schedRow
 simp [List.getElem?_append,bR,h]
theorem dl (l:List Int) (k:Nat) (x:Int):(u32s l).set k (.int .u32 x)=u32s (l.set k x):=by simp [u32s,List.map_set]
theorem bT (l:List Int) (k:Nat) (x:Int):(u8s l).set k (.int .u8 x)=u8s (l.set k x):=by simp [u8s,List.map_set]
open Go Go.RowKit
structure Mem (w0:World) (S:List Nat) (w:World) (rows:List (Nat×List Value×TypeId)):Prop where
 os:w.os=w0.os
 tape:w.tape=w0.tape
 output:w.output=w0.output
 size:w0.heap.size≤w.heap.size
 block:∀k,k<w0.heap.size→k ∉ S→w.heap[k]?=w0.heap[k]?
 row:∀r∈rows,Row w r.1 r.2.1 r.2.2
 nodup:(rows.map Prod.fst).Nodup
 fresh:∀r∈rows,r.1∈S∨w0.heap.size≤r.1
structure Upd (g:Nat) (w w':World):Prop where
 os:w'.os=w.os
 tape:w'.tape=w.tape
 output:w'.output=w.output
 size:w.heap.size≤w'.heap.size
 block:∀k,k<w.heap.size→k≠g→w'.heap[k]?=w.heap[k]?
theorem Upd.refl (g:Nat) (w:World):Upd g w w:=⟨rfl,rfl,rfl,Nat.le_refl _,fun _ _ _=>rfl⟩
theorem Upd.trans {g:Nat} {a b c:World} (h:Upd g a b) (k:Upd g b c):Upd g a c :=
 ⟨k.os.trans h.os,k.tape.trans h.tape,k.output.trans h.output,Nat.le_trans h.size k.size,fun i hi hn=>(k.block i (Nat.lt_of_lt_of_le hi h.size) hn).trans (h.block i hi hn)⟩
theorem Upd.of_below {g:Nat} {w w':World} (h:Below w.heap.size w w'):Upd g w w':=⟨h.os,h.tape,h.output,h.size,fun k hk _=>h.block k hk⟩
theorem Upd.setRow (g:Nat) (w:World) (c:Array Value):Upd g w (w.setRow g c) :=
 ⟨rfl,rfl,rfl,by simp,fun k _ hn=>setRow_other w g k c hn⟩
theorem Upd.setCell (g i:Nat) (w:World) (v:Value):Upd g w (w.setCell ⟨g,i,none⟩ v) :=
 ⟨rfl,rfl,rfl,by simp,fun k _ hn=>heap_setCell_other w _ k v hn⟩
theorem Upd.cell {g:Nat} {w w':World} (h:Upd g w w') {p:Addr} (hp:p.block<w.heap.size) (hn:p.block≠g):w'.cell? p=w.cell? p :=
 World.cell?_of_block (w:=w) (h.block p.block hp hn)
theorem Upd.row {g k:Nat} {w w':World} {l:List Value} {t:TypeId} (h:Upd g w w') (r:Row w k l t) (hn:k≠g):Row w' k l t:=by
 unfold Row;rw [h.block k r.lt hn];exact r
section
variable {w0 w w':World} {S:List Nat} {rows:List (Nat×List Value×TypeId)}
theorem Mem.start (w:World):Mem w [] w []:=⟨rfl,rfl,rfl,Nat.le_refl _,fun _ _ _=>rfl,by simp,by simp,by simp⟩
theorem Mem.enter {g:Nat} {l:List Value} {t:TypeId} (h:Row w g l t):Mem w [g] w [(g,l,t)] :=
 ⟨rfl,rfl,rfl,Nat.le_refl _,fun _ _ _=>rfl,by simpa using h,by simp,by simp⟩
theorem Mem.drew (hm:Mem w0 S w rows):Mem w0 S w.drew rows:=⟨hm.os,hm.tape,hm.output,hm.size,hm.block,hm.row,hm.nodup,hm.fresh⟩
theorem Mem.drewN (hm:Mem w0 S w rows) (n:Nat):Mem w0 S (w.drewN n) rows:=⟨hm.os,hm.tape,hm.output,hm.size,hm.block,hm.row,hm.nodup,hm.fresh⟩
theorem Mem.set (hm:Mem w0 S w rows) (i:Nat) {g:Nat} {l:List Value} {t:TypeId} (hi:rows[i]?=some (g,l,t)) (j:Nat) (v:Value) (h:∀(w':World),Upd g w w'→Row w' g (l.set j v) t→Mem w0 S w' (rows.set i (g,l.set j v,t))):Mem w0 S (w.setCell ⟨g,j,none⟩ v) (rows.set i (g,l.set j v,t)) :=
 h _ (Upd.setCell g j w v) ((hm.row _ (List.mem_of_getElem? hi)).set j v)
theorem Mem.alloc (hm:Mem w0 S w rows) (l:List Value) (t:TypeId):Mem w0 S (w.alloc (.cells l.toArray t)) ((w.heap.size,l,t)::rows):=by
 refine ⟨hm.os,hm.tape,hm.output,by have:=hm.size;simp;omega,fun k hk hn=>?_,?_,?_,?_⟩
 ·rw [Below.heap_alloc _ _ _ (Nat.lt_of_lt_of_le hk hm.size)];exact hm.block k hk hn
 ·intro r hr
  rcases List.mem_cons.1 hr with rfl|hr
  ·exact Row.new w l t
  ·exact (hm.row r hr).alloc _
 ·simp only [List.map_cons,List.nodup_cons]
  refine ⟨fun hc=>?_,hm.nodup⟩
  obtain ⟨r,hr,he⟩:=List.mem_map.1 hc
  have:=(hm.row r hr).lt
  omega
 ·intro r hr
  rcases List.mem_cons.1 hr with rfl|hr
  ·exact Or.inr hm.size
  ·exact hm.fresh r hr
theorem Mem.call (hm:Mem w0 S w rows) (hb:Below w.heap.size w w'):Mem w0 S w' rows :=
 ⟨hb.os.trans hm.os,hb.tape.trans hm.tape,hb.output.trans hm.output,Nat.le_trans hm.size hb.size,
  fun k hk hn=>(hb.block k (Nat.lt_of_lt_of_le hk hm.size)).trans (hm.block k hk hn),fun r hr=>(hm.row r hr).below' hb,hm.nodup,hm.fresh⟩
theorem Mem.get (hm:Mem w0 S w rows) (i:Nat) {g:Nat} {l:List Value} {t:TypeId} (hi:rows[i]?=some (g,l,t)):Row w g l t :=
 hm.row _ (List.mem_of_getElem? hi)
theorem Mem.cell (hm:Mem w0 S w rows) (i:Nat) {g:Nat} {l:List Value} {t:TypeId} (hi:rows[i]?=some (g,l,t)) (j:Nat):w.cell? ⟨g,j,none⟩=l[j]? :=
 (hm.get i hi).cell j
theorem Mem.free (hm:Mem w0 S w rows) (i:Nat) {g:Nat} {l:List Value} {t:TypeId} (hi:rows[i]?=some (g,l,t)) (j:Nat):w.frozen? ⟨g,j,none⟩=false :=
 (hm.get i hi).free j
theorem Mem.old (hm:Mem w0 S w rows) {p:Addr} (hp:p.block<w0.heap.size) (hn:p.block ∉ S):w.cell? p=w0.cell? p :=
 World.cell?_of_block (w:=w0) (hm.block p.block hp hn)
theorem Mem.upd (hm:Mem w0 S w rows) (i:Nat) {g:Nat} {l l':List Value} {t:TypeId} (hi:rows[i]?=some (g,l,t)) (hu:Upd g w w') (hr0:Row w' g l' t):Mem w0 S w' (rows.set i (g,l',t)):=by
 have hlt:i<rows.length:=(List.getElem?_eq_some_iff.1 hi).1
 have hge:rows[i]=(g,l,t):=(List.getElem?_eq_some_iff.1 hi).2
 have hmem:(g,l,t)∈rows:=List.mem_of_getElem? hi
 have hkeys:(rows.set i (g,l',t)).map Prod.fst=rows.map Prod.fst:=by
  rw [List.map_set]
  apply List.ext_getElem?
  intro j
  by_cases hj:i=j
  ·subst hj;simp [hlt,hge]
  ·simp [hj]
 refine ⟨hu.os.trans hm.os,hu.tape.trans hm.tape,hu.output.trans hm.output,Nat.le_trans hm.size hu.size,fun k hk hn=>?_,?_,by rw [hkeys];exact hm.nodup,?_⟩
 ·have hkg:k≠g:=by
   rintro rfl
   rcases hm.fresh _ hmem with h|h
   ·exact hn h
   ·simp at h;omega
  exact (hu.block k (Nat.lt_of_lt_of_le hk hm.size) hkg).trans (hm.block k hk hn)
 ·intro r hr
  obtain ⟨j,hj,hrj⟩:=List.getElem_of_mem hr
  rw [List.getElem_set] at hrj
  by_cases hij:i=j
  ·rw [if_pos hij] at hrj;subst hrj;exact hr0
  ·rw [if_neg hij] at hrj
   have hj':j<rows.length:=by simpa using hj
   have hrow:=hm.row r (hrj▸List.getElem_mem hj')
   refine hu.row hrow ?_
   intro he
   have h1:(rows.map Prod.fst)[i]'(by simpa using hlt)=(rows.map Prod.fst)[j]'(by simpa using hj'):=by simp [hge,hrj,he]
   exact hij ((List.getElem_inj hm.nodup).1 h1)
 ·intro r hr
  have:r.1∈(rows.set i (g,l',t)).map Prod.fst:=List.mem_map_of_mem hr
  rw [hkeys] at this
  obtain ⟨r',hr',he⟩:=List.mem_map.1 this
  have:=hm.fresh r' hr'
  rwa [he] at this
theorem Mem.setCell (hm:Mem w0 S w rows) (i:Nat) {g:Nat} {l:List Value} {t:TypeId} (hi:rows[i]?=some (g,l,t)) (j:Nat) (v:Value):Mem w0 S (w.setCell ⟨g,j,none⟩ v) (rows.set i (g,l.set j v,t)) :=
 hm.set i hi j v (fun _ hu hr=>hm.upd i hi hu hr)
theorem Mem.below (hm:Mem w0 [] w rows):Below w0.heap.size w0 w:=⟨hm.os,hm.tape,hm.output,hm.size,fun k hk=>hm.block k hk (by simp)⟩
theorem Mem.toUpd {g:Nat} (hm:Mem w0 [g] w rows):Upd g w0 w:=⟨hm.os,hm.tape,hm.output,hm.size,fun k hk hn=>hm.block k hk (by simpa using hn)⟩
theorem Mem.sub (hm:Mem w0 S w rows) {rows':List (Nat×List Value×TypeId)} (h:rows'.Sublist rows):Mem w0 S w rows' :=
 ⟨hm.os,hm.tape,hm.output,hm.size,hm.block,fun r hr=>hm.row r (h.subset hr),(h.map _).nodup hm.nodup,fun r hr=>hm.fresh r (h.subset hr)⟩
theorem Mem.tail {r:Nat×List Value×TypeId} (hm:Mem w0 S w (r::rows)):Mem w0 S w rows:=hm.sub (List.sublist_cons_self _ _)
theorem Mem.swap {r r':Nat×List Value×TypeId} (hm:Mem w0 S w (r::r'::rows)):Mem w0 S w (r'::r::rows) :=
 ⟨hm.os,hm.tape,hm.output,hm.size,hm.block,fun q hq=>hm.row q (by simp only [List.mem_cons] at hq ⊢;rcases hq with h|h|h<;>simp [h]),by
  have:=hm.nodup
  simp only [List.map_cons,List.nodup_cons,List.mem_cons,not_or] at this ⊢
  exact ⟨⟨fun h=>this.1.1 h.symm,this.2.1⟩,this.1.2,this.2.2⟩,fun q hq=>hm.fresh q (by simp only [List.mem_cons] at hq ⊢;rcases hq with h|h|h<;>simp [h])⟩
theorem Mem.ne {r:Nat×List Value×TypeId} (hm:Mem w0 S w (r::rows)) (i:Nat) {q:Nat×List Value×TypeId} (hi:rows[i]?=some q):r.1≠q.1:=by
 have:=hm.nodup
 simp only [List.map_cons,List.nodup_cons] at this
 intro he
 exact this.1 (he▸List.mem_map_of_mem (List.mem_of_getElem? hi))
end
section
variable {P:Program} {ops:Array Oper} {rest:List Oper} {a:Act} {w w0:World} {Q:Exit→Act→World→Prop} {dst:Option Tmp} {typ:TypeId} {pos:String} {aft:Array Edge} {S:List Nat} {rows:List (Nat×List Value×TypeId)}
theorem aa (dst:Option Tmp) (op:Op) (h:wpList P ops Q ({dst:=dst,op:=op,type:=typ,pos:=pos,after:=aft,guard:=none}::rest) a w) :
  wpList P ops Q ({dst:=dst,op:=op,type:=typ,pos:=pos,after:=aft,guard:=none}::rest) a w:=h
theorem aj {ty:TypeId} (z:List Value) (hz:∀w,(zeroValue ty).run P w=.ok (.agg z.toArray) w) (hm:Mem w0 S w rows)
  (h:∀w' g,Mem w0 S w' ((g,z,ty)::rows)→wpList P ops Q rest (a.put dst (.pointer (some ⟨g,0,none⟩))) w') :
  wpList P ops Q ({dst:=dst,op:=.alloc ty,type:=typ,pos:=pos,after:=aft,guard:=none}::rest) a w:=by
 refine wpList_plain rfl fun K hK=>?_
 have hh:=hK _ _ (h _ _ (hm.alloc z ty))
 unfold Oper.wp execOp
 simp [Instr.alloc,newVar,newRow,newObj,hz,Value.cells]
 exact hh
theorem aB {ty:TypeId} {x:Operand} (l:List Value) (hx:a.eval x=.agg l.toArray) (hm:Mem w0 S w rows)
  (h:∀w' g,Mem w0 S w' ((g,l,ty)::rows)→wpList P ops Q rest (a.put dst (.pointer (some ⟨g,0,none⟩))) w') :
  wpList P ops Q ({dst:=dst,op:=.box ty x,type:=typ,pos:=pos,after:=aft,guard:=none}::rest) a w:=by
 refine wpList_plain rfl fun K hK=>?_
 have hh:=hK _ _ (h _ _ (hm.alloc l ty))
 unfold Oper.wp execOp
 simp [Instr.box,newVar,newRow,newObj,hx,Value.cells]
 exact hh
theorem ay {ty:TypeId} {x:Operand} (i:Nat) {g:Nat} {l:List Value} {t:TypeId} (hm:Mem w0 S w rows) (hi:rows[i]?=some (g,l,t)) (hx:a.eval x=.pointer (some ⟨g,0,none⟩))
  (d:TypeDesc) (hu:P.underlying ty=some d) (hd:(match d with | .struct _ | .array _ _=>true|_=>false)=true) (n:Nat) (hs:(P.info? ty).map (·.size)=some n) (hn:l.length=n)
  (h:wpList P ops Q rest (a.put dst (.agg l.toArray)) w) :
  wpList P ops Q ({dst:=dst,op:=.load ty x,type:=typ,pos:=pos,after:=aft,guard:=none}::rest) a w :=
 wpList_load_row rfl ty x rfl g hx t l.toArray (0,0) d (hm.get i hi) hu hd (by rw [hs];simp [hn]) h
theorem ap {ty:TypeId} {x y:Operand} (i:Nat) {g:Nat} {l:List Value} {t:TypeId} (l':List Value) (hm:Mem w0 S w rows) (hi:rows[i]?=some (g,l,t)) (hx:a.eval x=.pointer (some ⟨g,0,none⟩))
  (hy:a.eval y=.agg l'.toArray) (n:Nat) (hs:(P.info? ty).map (·.size)=some n) (hn:l.length=n) (hn':l'.length=n) (h1:∀v∈l',v.oneCell'=true)
  (h:∀w',Mem w0 S w' (rows.set i (g,l',t))→wpList P ops Q rest a w') :
  wpList P ops Q ({dst:=none,op:=.store ty x y,type:=typ,pos:=pos,after:=aft,guard:=none}::rest) a w:=by
 refine wpList_plain rfl fun K hK=>?_
 have hr:=hm.get i hi
 have hh:=hK _ _ (h _ (hm.upd i hi (Upd.setRow g w l'.toArray) (hr.setRow l')))
 unfold Oper.wp execOp
 simp only [hx,hy,Instr.storeAt,Instr.sureAddr,Sem.run_bind,Sem.run_pure,Result.andThen_ok,
  run_storeVar_row w g t ty l.toArray l'.toArray hr (by rw [hs];simp [hn']) (by simp [hn,hn']) (by simpa using h1)]
 exact hh
theorem bi {ty:TypeId} {x:Operand} (i:Nat) {g:Nat} {l:List Value} {t:TypeId} (j:Nat) (v:Value) (hm:Mem w0 S w rows) (hi:rows[i]?=some (g,l,t)) (hx:a.eval x=.pointer (some ⟨g,j,none⟩))
  (ha:∀w,(isAgg ty).run P w=.ok false w) (hv:l[j]?=some v)
  (h:wpList P ops Q rest (a.put dst v) w) :
  wpList P ops Q ({dst:=dst,op:=.load ty x,type:=typ,pos:=pos,after:=aft,guard:=none}::rest) a w:=by
 refine wpList_plain rfl fun K hK=>?_
 have hh:=hK _ _ h
 have hc:w.cell? ⟨g,j,none⟩=some v:=by rw [hm.cell i hi,hv]
 have hld:(loadVar ty ⟨g,j,none⟩).run P w=.ok v w:=by
  simp [loadVar,ha,go_sem,hc]
 unfold Oper.wp execOp
 simp only [hx,Instr.loadAt,Instr.sureAddr,Sem.run_bind,Sem.run_pure,Result.andThen_ok,hld]
 exact hh
theorem bm {ty:TypeId} {x y:Operand} (i:Nat) {g:Nat} {l:List Value} {t:TypeId} (j:Nat) (v:Value) (hm:Mem w0 S w rows) (hi:rows[i]?=some (g,l,t)) (hx:a.eval x=.pointer (some ⟨g,j,none⟩))
  (hy:a.eval y=v) (hs:(P.info? ty).map (·.size)=some 1) (hj:j<l.length) (hc:v.cells=#[v]) (h1:v.oneCell'=true)
  (h:∀w',Mem w0 S w' (rows.set i (g,l.set j v,t))→wpList P ops Q rest a w') :
  wpList P ops Q ({dst:=none,op:=.store ty x y,type:=typ,pos:=pos,after:=aft,guard:=none}::rest) a w:=by
 refine wpList_plain rfl fun K hK=>?_
 have hr:=hm.get i hi
 have hh:=hK _ _ (h _ (hm.upd i hi (Upd.setCell g j w v) (hr.set j v)))
 have hcell:w.cell? ⟨g,j,none⟩=some l[j]:=by rw [hm.cell i hi];simp [hj]
 have hadd:(⟨g,j,none⟩:Addr).add 0=⟨g,j,none⟩:=by unfold Addr.add;split<;>simp_all
 have hst:(storeVar ty ⟨g,j,none⟩ v).run P w=.ok () (w.setCell ⟨g,j,none⟩ v):=by
  cases hq:P.info? ty with
  | none=>simp [hq] at hs
  | some q =>
   have hs1:q.size=1:=by simpa [hq] using hs
   have hs2:(store ⟨g,j,none⟩ v).run P w=.ok () (w.setCell ⟨g,j,none⟩ v):=by
    rw [run_store P w _ v _ h1,hcell];simp [hr.free j]
   simp [storeVar,sizeOf,typeInfo,hq,hc,hs1,storeCells,hadd,hs2]
 unfold Oper.wp execOp
 simp only [hx,hy,Instr.storeAt,Instr.sureAddr,Sem.run_bind,Sem.run_pure,Result.andThen_ok,hst]
 exact hh
theorem bM (g o j:Nat):(⟨g,o,none⟩:Addr).add j=⟨g,o+j,none⟩:=by unfold Addr.add;split<;>simp_all
theorem run_sla (w:World) {ty:TypeId} {n:Nat} {elem:TypeId} (hu:P.underlying ty=some (.array n elem)) (hs:(P.info? elem).map (·.size)=some 1) (g o l m:Nat) (hlm:l+m≤n) (hln:l<n) (lo hi:Option Value)
  (hlo:lo=some (.int .i64 l)∨(lo=none∧l=0)) (hhi:hi=some (.int .i64 (l+m:Nat))∨(hi=none∧l+m=n)) :
  (Instr.sliceAt ty (.pointer (some ⟨g,o,none⟩)) lo hi none).run P w=.ok (.slice (some ⟨g,o+l,none⟩) m (n - l)) w:=by
 cases hq:P.info? elem with
 | none=>simp [hq] at hs
 | some q =>
  have hs1:q.size=1:=by simpa [hq] using hs
  have hsz:(sizeOf elem).run P w=.ok 1 w:=by simp [sizeOf,typeInfo,hq,hs1]
  have hne:¬n=l:=by omega
  have bnd:∀(j y:Nat) (code:BoundsCode),j≤y→(Instr.sliceBound (.int .i64 (j:Int)) y code).run P w=.ok j w:=by
   intro j y code hj
   rw [run_sliceBound (P:=P) w .i64 (j:Int) y code (by omega) (by omega)]
   simp
  obtain ⟨h,hh⟩:∃h,h=l+m:=⟨_,rfl⟩
  rw [←hh] at hhi hlm
  have hb:(Instr.sliceBounds false n n lo hi none).run P w=.ok (l,h,n) w:=by
   rcases hlo with rfl|⟨rfl,rfl⟩
   ·rcases hhi with rfl|⟨rfl,hn⟩
    ·simp [Instr.sliceBounds,bnd h n _ hlm,bnd l h _ (by omega)]
    ·simp [Instr.sliceBounds,bnd l n _ (by omega),hn]
   ·rcases hhi with rfl|⟨rfl,hn⟩
    ·simp [Instr.sliceBounds,bnd h n _ hlm]
    ·simp [Instr.sliceBounds,hn]
  have hml:h - l=m:=by omega
  simp [Instr.sliceAt,Instr.sureAddr,run_underlying hu,hb,hsz,hne,bM,hml]
theorem gA {ty:TypeId} {x:Operand} {lo hi:Option Operand} (n:Nat) {elem:TypeId} (hu:P.underlying ty=some (.array n elem)) (hs:(P.info? elem).map (·.size)=some 1) {g o:Nat} (l m:Nat) (hlm:l+m≤n) (hln:l<n) (hx:a.eval x=.pointer (some ⟨g,o,none⟩))
  (hlo:lo.map a.eval=some (.int .i64 l)∨(lo.map a.eval=none∧l=0)) (hhi:hi.map a.eval=some (.int .i64 (l+m:Nat))∨(hi.map a.eval=none∧l+m=n))
  (h:wpList P ops Q rest (a.put dst (.slice (some ⟨g,o+l,none⟩) m (n - l))) w) :
  wpList P ops Q ({dst:=dst,op:=.slice ty x lo hi none,type:=typ,pos:=pos,after:=aft,guard:=none}::rest) a w:=by
 refine wpList_plain rfl fun K hK=>?_
 have hh:=hK _ _ h
 have hr:=run_sla (P:=P) w hu hs g o l m hlm hln (lo.map a.eval) (hi.map a.eval) hlo hhi
 unfold Oper.wp execOp
 simp only [hx,Option.map_none,hr,Sem.run_bind,Sem.run_pure,Result.andThen_ok]
 exact hh
theorem wpl_ixa {ty:TypeId} {x ix:Operand} (n:Nat) {elem:TypeId} (hu:P.underlying ty=some (.array n elem)) (hs:(P.info? elem).map (·.size)=some 1) (ha:∀w,(isAgg elem).run P w=.ok false w) (l:List Value) (j:Nat) {ij:Int} (v:Value) (hj:j<n)
  (hx:a.eval x=.agg l.toArray) (hix:a.eval ix=.int .i64 ij) (hij:ij=(j:Int)) (hv:l[j]?=some v)
  (h:wpList P ops Q rest (a.put dst v) w) :
  wpList P ops Q ({dst:=dst,op:=.index ty x ix,type:=typ,pos:=pos,after:=aft,guard:=none}::rest) a w:=by
 subst hij
 refine wpList_plain rfl fun K hK=>?_
 have hh:=hK _ _ h
 have hr:(Instr.index ty (.agg l.toArray) (.int .i64 (j:Int))).run P w=.ok v w:=by
  cases hq:P.info? elem with
  | none=>simp [hq] at hs
  | some q =>
   have hs1:q.size=1:=by simpa [hq] using hs
   have hsz:(sizeOf elem).run P w=.ok 1 w:=by simp [sizeOf,typeInfo,hq,hs1]
   simp [Instr.index,asIntOf,run_underlying hu,hj,hsz,part,ha,hv]
 unfold Oper.wp execOp
 simp only [hx,hix,hr,Sem.run_bind,Sem.run_pure,Result.andThen_ok]
 exact hh
theorem eq {x:Operand} {il:Int} (l:Nat) (h:a.eval x=.int .i64 il) (he:il=(l:Int)):(some x).map a.eval=some (.int .i64 l):=by simp [h,he]
theorem gr {d s:Operand} {dT sT:TypeId} (i:Nat) {g:Nat} {l:List Value} {t:TypeId} (off dLen dCap:Nat) (ad:Addr) (sLen sCap:Nat) (cs:List Value) (hm:Mem w0 S w rows) (hi:rows[i]?=some (g,l,t))
  (hd:a.eval d=.slice (some ⟨g,off,none⟩) dLen dCap) (hs:a.eval s=.slice (some ad) sLen sCap) (elem:TypeId) (hu:P.underlying dT=some (.slice elem)) (hsz:(P.info? elem).map (·.size)=some 1)
  (hn:cs.length=Nat.min sLen dLen) (hsrc:∀j v,cs[j]?=some v→w.cell? (ad.add j)=some v) (hfit:off+cs.length≤l.length) (h1:∀v∈cs,v.oneCell'=true)
  (h:∀w',Mem w0 S w' (rows.set i (g,splice l off cs,t))→wpList P ops Q rest (a.put dst (.int .i64 cs.length)) w') :
  wpList P ops Q ({dst:=dst,op:=.call {callee:=.builtin .copy,args:=#[d,s],argTypes:=#[dT,sT]},type:=typ,pos:=pos,after:=aft,guard:=none}::rest) a w:=by
 have hr:=hm.get i hi
 refine wpList_copy_own rfl d s dT sT rfl elem hu hsz g off dLen dCap ad sLen sCap hd hs l.toArray t hr cs hn hsrc (by simpa using hfit) h1 ?_
 have hrun:=hr.setRow (splice l off cs)
 have hh:=h _ (hm.upd i hi (Upd.setRow g w (splice l off cs).toArray) hrun)
 simpa [goInt,splice] using hh
end
def Seg (w:World) (b off:Nat) (cs:List Int):Prop:=∀j,j<cs.length→w.cell? ⟨b,off+j,none⟩=some (.int .u8 (cs.getD j 0))
theorem Seg.src {w:World} {b off:Nat} {cs:List Int} (h:Seg w b off cs):∀j v,(u8s cs)[j]?=some v→w.cell? ((⟨b,off,none⟩:Addr).add j)=some v:=by
 intro j v hv
 have hj:j<cs.length:=by
  rcases Nat.lt_or_ge j cs.length with h'|h'
  ·exact h'
  ·rw [List.getElem?_eq_none (by rw [ab];exact h')] at hv;cases hv
 rw [cP cs j hj] at hv
 have hadd:(⟨b,off,none⟩:Addr).add j=⟨b,off+j,none⟩:=by unfold Addr.add;split<;>simp_all
 rw [hadd,h j hj,hv]
theorem Seg.lt {w:World} {b off:Nat} {cs:List Int} (h:Seg w b off cs) (hc:0<cs.length):b<w.heap.size:=block_lt_of_cell (h 0 hc)
theorem Seg.mem {w0 w:World} {S:List Nat} {rows:List (Nat×List Value×TypeId)} {b off:Nat} {cs:List Int} (h:Seg w0 b off cs) (hm:Mem w0 S w rows) (hS:b ∉ S):Seg w b off cs:=by
 intro j hj
 rw [hm.old (p:=⟨b,off+j,none⟩) (h.lt (by omega)) hS]
 exact h j hj
theorem Seg.below {w w':World} {b off:Nat} {cs:List Int} (h:Seg w b off cs) (hb:Below w.heap.size w w'):Seg w' b off cs:=by
 intro j hj
 rw [hb.cell (p:=⟨b,off+j,none⟩) (h.lt (by omega))]
 exact h j hj
theorem Seg.take {w:World} {b off:Nat} {cs:List Int} (h:Seg w b off cs) (n:Nat):Seg w b off (cs.take n):=by
 intro j hj
 simp at hj
 rw [h j (by omega)]
 have h1:j<n:=by omega
 have h2:j<cs.length:=by omega
 simp [h1,h2]
theorem Seg.drop {w:World} {b off:Nat} {cs:List Int} (h:Seg w b off cs) (n:Nat):Seg w b (off+n) (cs.drop n):=by
 intro j hj
 simp at hj
 rw [Nat.add_assoc,h (n+j) (by omega)]
 congr 2
 simp
theorem Seg.row {w:World} {g:Nat} {l:List Int} {t:TypeId} (h:Row w g (u8s l) t):Seg w g 0 l:=by
 intro j hj
 rw [Nat.zero_add,h.cell j,cP l j hj]
theorem eU {α:Type} (l cs:List α) (h:l.length=cs.length):splice l 0 cs=cs:=by
 simp [splice,h]
theorem aJ {P:Program} {fn:Func} {R:Ending→World→Prop} {a:Act} {w w0:World} {S:List Nat} {rows:List (Nat×List Value×TypeId)} {p:Tmp} {ty:TypeId} (i:Nat) {g:Nat} {l:List Value} {t:TypeId} (hm:Mem w0 S w rows) (hi:rows[i]?=some (g,l,t))
  (hres:fn.results=#[.cell p ty]) (hp:a.tmps.getD p undef=.pointer (some ⟨g,0,none⟩)) (d:TypeDesc) (hu:P.underlying ty=some d) (hd:(match d with | .struct _ | .array _ _=>true|_=>false)=true)
  (n:Nat) (hs:(P.info? ty).map (·.size)=some n) (hn:l.length=n) (hd0:a.defers=[]) (hR:R (.returned (.agg l.toArray)) w):bodyPost P fn R .ret a w :=
 bodyPost_ret (results_cell_row hres a.tmps w g t l.toArray (0,0) d hp (hm.get i hi) hu hd (by rw [hs];simp [hn])) hd0 hR
open Go Go.RowKit
theorem jj (n:Nat) (h:n<4611686018427387904):IntKind.i64.wrap (n:Int)=(n:Int):=by
 simp [IntKind.wrap,IntKind.bits,IntKind.signed]
 split<;>omega
theorem fv {B g:Nat} {a b c:World} (h:Below B a b) (hu:Upd g b c) (hg:B≤g) (hB:B≤b.heap.size):Below B a c :=
 h.trans ⟨hu.os,hu.tape,hu.output,hu.size,fun k hk=>hu.block k (by omega) (by omega)⟩
section
variable {P:Program}
theorem cL (w:World) (g off n:Nat) (ty t:TypeId) (l:List Value) (d:TypeDesc) (hg:Row w g l t) (hu:P.underlying ty=some d)
  (hd:(match d with | .struct _ | .array _ _=>true|_=>false)=true) (hi:(P.info? ty).map (·.size)=some n) (hn:off+n≤l.length) :
  (loadVar ty ⟨g,off,none⟩).run P w=.ok (.agg ((l.drop off).take n).toArray) w:=by
 have hlen:((l.drop off).take n).length=n:=by simp;omega
 have hl:(loadCells ⟨g,off,none⟩ ((l.drop off).take n).length).run P w=.ok ((l.drop off).take n).toArray w :=
  run_loadCells_list (P:=P) w ⟨g,off,none⟩ ((l.drop off).take n) (fun j v hv=>by
   rw [bM,hg.cell]
   have hj:j<n:=by
    rcases Nat.lt_or_ge j n with h|h
    ·exact h
    ·rw [List.getElem?_eq_none (by omega)] at hv;cases hv
   rw [List.getElem?_take,if_pos hj,List.getElem?_drop] at hv
   exact hv)
 rw [hlen] at hl
 cases hq:P.info? ty with
 | none=>simp [hq] at hi
 | some i =>
  have hs:i.size=n:=by simpa [hq] using hi
  have hagg:(isAgg ty).run P w=.ok true w:=by
   unfold isAgg
   rw [Sem.run_bind,run_underlying hu w]
   cases d<;>simp_all
  simp [loadVar,Sem.run_bind,hagg,sizeOf,typeInfo,hq,hs,hl]
theorem eD (w:World) (g off:Nat) (ty t:TypeId) (l cs:List Value) (hg:Row w g l t) (hi:(P.info? ty).map (·.size)=some cs.length) (hn:off+cs.length≤l.length) (h1:∀v∈cs,v.oneCell'=true) :
  (storeVar ty ⟨g,off,none⟩ (.agg cs.toArray)).run P w=.ok () (w.setRow g (splice l off cs).toArray):=by
 have hst:=run_storeCells_at P g off t cs 0 l.toArray w hg (by simpa using hn) h1
 cases hq:P.info? ty with
 | none=>simp [hq] at hi
 | some i =>
  have hs:i.size=cs.length:=by simpa [hq] using hi
  have e:(l.take off++cs++l.drop (off+cs.length))=splice l off cs:=by simp [splice]
  simp only [Nat.add_zero,e] at hst
  simp [storeVar,sizeOf,typeInfo,hq,Value.cells,hs,hst]
end
theorem iH {P:Program} (w:World) (d:Nat) (t e:TypeId) (n:Nat) (k:IntKind) (ht:P.underlying t=some (.array n e)) (he:P.underlying e=some (.int k)) (hs:(P.info? e).map (·.size)=some 1) (xs ys:List Int) (hx:xs.length=n) (hy:ys.length=n) :
  (Op.equalIn (d+2) t (.agg (xs.map (Value.int k)).toArray) (.agg (ys.map (Value.int k)).toArray)).run P w=.ok (decide (xs=ys)) w:=by
 have hsz:(sizeOf e).run P w=.ok 1 w:=by
  cases hq:P.info? e with
  | none=>simp [hq] at hs
  | some q =>
   have hs1:q.size=1:=by simpa [hq] using hs
   simp [sizeOf,typeInfo,hq,hs1]
 have hp:∀(zs:List Int) (i:Nat) (z:Int),zs[i]?=some z→(part e (zs.map (Value.int k)).toArray (i * 1)).run P w=.ok (.int k z) w:=by
  intro zs i z hz
  simp [part,isAgg,run_underlying he,hz]
 rw [Op.equalIn]
 simp only [Sem.run_bind,run_underlying ht,Result.andThen_ok,hsz,Std.Legacy.Range.forIn_eq_forIn_range',Std.Legacy.Range.size,Nat.sub_zero,Nat.add_sub_cancel,Nat.div_one]
 have hd0:decide (xs=ys)=decide (xs.drop 0=ys.drop 0):=by simp
 rw [hd0]
 obtain ⟨m,hmn⟩:∃m,m=n:=⟨n,rfl⟩
 have hle:0+m=n:=by omega
 rw [show List.range' 0 n 1=List.range' 0 m 1 by rw [hmn]]
 clear hmn hd0
 generalize 0=i at hle ⊢
 induction m generalizing i with
 | zero =>
  rw [List.drop_of_length_le (by omega),List.drop_of_length_le (by omega)]
  simp
 | succ m ih =>
  have h1:i<xs.length:=by omega
  have h2:i<ys.length:=by omega
  have hdec:xs.drop i=ys.drop i↔(xs[i]=ys[i]∧xs.drop (i+1)=ys.drop (i+1)):=by
   rw [List.drop_eq_getElem_cons h1,List.drop_eq_getElem_cons h2,List.cons.injEq]
  have hdec2:decide (xs.drop i=ys.drop i)=(decide (xs[i]=ys[i])&&decide (xs.drop (i+1)=ys.drop (i+1))):=by
   rw [Bool.eq_iff_iff,Bool.and_eq_true,decide_eq_true_iff,decide_eq_true_iff,decide_eq_true_iff]
   exact hdec
  rw [List.range'_succ,hdec2]
  simp only [List.forIn_cons,Sem.run_bind,hp xs i xs[i] (by simp [h1]),hp ys i ys[i] (by simp [h2]),run_equalIn_int w d e k k _ _ he,Result.andThen_ok]
  by_cases hb:xs[i]=ys[i]
  ·simp only [hb,beq_self_eq_true,Bool.not_true,Bool.false_eq_true,if_false,Sem.run_pure,Result.andThen_ok]
   rw [ih (i+1) (by omega)]
   simp only [decide_true,Bool.true_and]
  ·have hb':(xs[i]==ys[i])=false:=by simpa using hb
   simp only [hb',hb,decide_false,Bool.false_and,Bool.not_false,if_true,Sem.run_pure,Result.andThen_ok]
theorem run_eqla {P:Program} (w:World) (t e:TypeId) (n:Nat) (k:IntKind) (ht:P.underlying t=some (.array n e)) (he:P.underlying e=some (.int k)) (hs:(P.info? e).map (·.size)=some 1) (xs ys:List Int) (hx:xs.length=n) (hy:ys.length=n) :
  (binOp .eql t (.agg (xs.map (Value.int k)).toArray) (.agg (ys.map (Value.int k)).toArray)).run P w=.ok (.bool (decide (xs=ys))) w:=by
 rw [run_eql_struct,iH w 9998 t e n k ht he hs xs ys hx hy]
 rfl
section
variable {P:Program} {ops:Array Oper} {rest:List Oper} {a:Act} {w w0:World} {Q:Exit→Act→World→Prop} {dst:Option Tmp} {typ:TypeId} {pos:String} {aft:Array Edge} {S:List Nat} {rows:List (Nat×List Value×TypeId)}
theorem eO {ty:TypeId} {x:Operand} (i:Nat) {g:Nat} {l:List Value} {t:TypeId} (off:Nat) (sub:List Value) (hm:Mem w0 S w rows) (hi:rows[i]?=some (g,l,t)) (hx:a.eval x=.pointer (some ⟨g,off,none⟩))
  (d:TypeDesc) (hu:P.underlying ty=some d) (hd:(match d with | .struct _ | .array _ _=>true|_=>false)=true) (n:Nat) (hs:(P.info? ty).map (·.size)=some n) (hn:off+n≤l.length) (hsub:(l.drop off).take n=sub)
  (h:wpList P ops Q rest (a.put dst (.agg sub.toArray)) w) :
  wpList P ops Q ({dst:=dst,op:=.load ty x,type:=typ,pos:=pos,after:=aft,guard:=none}::rest) a w:=by
 refine wpList_plain rfl fun K hK=>?_
 have hh:=hK _ _ h
 unfold Oper.wp execOp
 simp only [hx,Instr.loadAt,Instr.sureAddr,Sem.run_bind,Sem.run_pure,Result.andThen_ok,cL w g off n ty t l d (hm.get i hi) hu hd hs hn,hsub]
 exact hh
theorem wpl_sts {ty:TypeId} {x y:Operand} (i:Nat) {g:Nat} {l:List Value} {t:TypeId} (off:Nat) (cs new:List Value) (hm:Mem w0 S w rows) (hi:rows[i]?=some (g,l,t)) (hx:a.eval x=.pointer (some ⟨g,off,none⟩))
  (hy:a.eval y=.agg cs.toArray) (n:Nat) (hs:(P.info? ty).map (·.size)=some n) (hn:cs.length=n) (hl:off+n≤l.length) (h1:∀v∈cs,v.oneCell'=true) (hnew:splice l off cs=new)
  (h:∀w',Mem w0 S w' (rows.set i (g,new,t))→wpList P ops Q rest a w') :
  wpList P ops Q ({dst:=none,op:=.store ty x y,type:=typ,pos:=pos,after:=aft,guard:=none}::rest) a w:=by
 refine wpList_plain rfl fun K hK=>?_
 have hr:=hm.get i hi
 subst hnew
 have hh:=hK _ _ (h _ (hm.upd i hi (Upd.setRow g w (splice l off cs).toArray) (hr.setRow _)))
 unfold Oper.wp execOp
 simp only [hx,hy,Instr.storeAt,Instr.sureAddr,Sem.run_bind,Sem.run_pure,Result.andThen_ok,eD w g off ty t l cs hr (by rw [hs,hn]) (by omega) h1]
 exact hh
theorem cU {d s:Operand} {dT sT:TypeId} (i:Nat) {g:Nat} {l:List Value} {t:TypeId} (off dLen dCap:Nat) (ad:Addr) (sLen sCap:Nat) (cs:List Value) (n:Nat) (new:List Value) (hm:Mem w0 S w rows) (hi:rows[i]?=some (g,l,t))
  (hd:a.eval d=.slice (some ⟨g,off,none⟩) dLen dCap) (hs:a.eval s=.slice (some ad) sLen sCap) (elem:TypeId) (hu:P.underlying dT=some (.slice elem)) (hsz:(P.info? elem).map (·.size)=some 1)
  (hcn:cs.length=n) (hn:n=Nat.min sLen dLen) (hsrc:∀j v,cs[j]?=some v→w.cell? (ad.add j)=some v) (hfit:off+n≤l.length) (h1:∀v∈cs,v.oneCell'=true) (hnew:splice l off cs=new)
  (h:∀w',Mem w0 S w' (rows.set i (g,new,t))→wpList P ops Q rest (a.put dst (.int .i64 n)) w') :
  wpList P ops Q ({dst:=dst,op:=.call {callee:=.builtin .copy,args:=#[d,s],argTypes:=#[dT,sT]},type:=typ,pos:=pos,after:=aft,guard:=none}::rest) a w:=by
 subst hcn hnew
 exact gr i off dLen dCap ad sLen sCap cs hm hi hd hs elem hu hsz hn hsrc hfit h1 h
theorem iN {ty:TypeId} {x lo:Operand} (elem:TypeId) (hu:P.underlying ty=some (.slice elem)) (hs:(P.info? elem).map (·.size)=some 1) {p:Option Addr} {len cap:Nat} (n:Nat) {i:Int} (hx:a.eval x=.slice p len cap) (hlo:a.eval lo=.int .i64 i) (hi:i=(n:Int)) (hn:n≤len)
  (h:∀p',p'=(if cap=n then p else p.map (·.add n))→wpList P ops Q rest (a.put dst (.slice p' (len - n) (cap - n))) w) :
  wpList P ops Q ({dst:=dst,op:=.slice ty x (some lo) none none,type:=typ,pos:=pos,after:=aft,guard:=none}::rest) a w:=by
 subst hi
 refine wpList_plain rfl fun K hK=>?_
 have hh:=hK _ _ (h _ rfl)
 have hr:(Instr.sliceAt ty (.slice p len cap) (some (.int .i64 (n:Int))) none none).run P w=.ok (.slice (if cap=n then p else p.map (·.add n)) (len - n) (cap - n)) w:=by
  cases hq:P.info? elem with
  | none=>simp [hq] at hs
  | some q =>
   have hs1:q.size=1:=by simpa [hq] using hs
   have hsz:(sizeOf elem).run P w=.ok 1 w:=by simp [sizeOf,typeInfo,hq,hs1]
   have hb:(Instr.sliceBounds true len cap (some (.int .i64 (n:Int))) none none).run P w=.ok (n,len,cap) w:=by
    have:=run_sliceBound (P:=P) w .i64 (n:Int) len .sliceB (by omega) (by omega)
    simp [Instr.sliceBounds,this]
   simp [Instr.sliceAt,Instr.slice,run_underlying hu,hb,hsz]
 unfold Oper.wp execOp
 simp only [hx,hlo,Option.map_some,Option.map_none,hr,Sem.run_bind,Sem.run_pure,Result.andThen_ok]
 exact hh
theorem aM {ty:TypeId} {pl:List (Nat×Operand)} (l:List Value) (ps:List (Nat×Value)) (hps:(pl.map fun p=>(p.1,a.eval p.2))=ps) (hb:P.built ty ps=some l.toArray)
  (h:wpList P ops Q rest (a.put dst (.agg l.toArray)) w) :
  wpList P ops Q ({dst:=dst,op:=.build ty pl.toArray,type:=typ,pos:=pos,after:=aft,guard:=none}::rest) a w:=by
 refine wpList_plain rfl fun K hK=>?_
 have hh:=hK _ _ h
 have e:(pl.toArray.map fun (i,x)=>(i,a.eval x)).toList=pl.map fun p=>(p.1,a.eval p.2):=by simp
 refine wp_build ty pl.toArray rfl (by rw [e,hps,hb];rfl) ?_
 rw [e,hps,hb]
 exact hh
theorem eE {ty:TypeId} {x y:Operand} (elem:TypeId) (hu:P.underlying ty=some (.slice elem)) (z:Value) (hi:(P.info? elem).map (fun i=>(i.zero,i.size,i.bytes))=some (some z,1,1)) (hz:z.cells=#[z]) (n:Nat) {i j:Int} (hx:a.eval x=.int .i64 i) (hxi:i=(n:Int)) (hy:a.eval y=.int .i64 j) (hyj:j=(n:Int)) (hn:n≤65536) (hm:Mem w0 S w rows)
  (h:∀w' g,Mem w0 S w' ((g,List.replicate n z,elem)::rows)→wpList P ops Q rest (a.put dst (.slice (some ⟨g,0,none⟩) n n)) w') :
  wpList P ops Q ({dst:=dst,op:=.makeSlice ty x y,type:=typ,pos:=pos,after:=aft,guard:=none}::rest) a w:=by
 subst hxi hyj
 refine wpList_plain rfl fun K hK=>?_
 have hh:=hK _ _ (h _ _ (hm.alloc (List.replicate n z) elem))
 have hr:(Instr.makeSlice ty (.int .i64 (n:Int)) (.int .i64 (n:Int))).run P w=.ok (.slice (some ⟨w.heap.size,0,none⟩) n n) (w.alloc (.cells (List.replicate n z).toArray elem)):=by
  cases hq:P.info? elem with
  | none=>simp [hq] at hi
  | some q =>
   simp only [hq,Option.map_some,Option.some.injEq,Prod.mk.injEq] at hi
   obtain ⟨h0,h1,h2⟩:=hi
   have:=run_makeSlice (P:=P) w ty elem q z hu hq h0 .i64 .i64 (n:Int) (n:Int) (by omega) (by omega) (by rw [h1];simp;omega) (by rw [h2];simp;omega) (by omega)
   rw [this,h1,hz]
   have e:madeCells #[z] ((n:Int).toNat * 1)=(List.replicate n z).toArray:=by
    unfold madeCells
    apply Array.ext
    ·simp
    ·intro k h1 h2
     simp [Nat.mod_one]
   rw [e]
   simp
 unfold Oper.wp execOp
 simp only [hx,hy,Sem.run_bind,Sem.run_pure,Result.andThen_ok,hr]
 exact hh
end
section
variable {P:Program} {ops:Array Oper} {rest:List Oper} {a:Act} {w w0:World} {Q:Act→Prop} {dst:Option Tmp} {typ:TypeId} {pos:String} {aft:Array Edge} {S:List Nat} {rows:List (Nat×List Value×TypeId)}
theorem gF {o:Oper} (hg:o.guard=none) (v:Value) (hr:(execOp a.eval o).run P w=.ok (.value v) w) (h:wpStill P ops w Q rest (a.put o.dst v)):wpStill P ops w Q (o::rest) a:=by
 refine wpStill_step fun K hK=>?_
 rw [if_pos (by simp [Region.wanted,hg])]
 unfold Oper.still
 rw [hr]
 exact ⟨rfl,hK _ h⟩
theorem fN {ty:TypeId} {x:Operand} {lo hi:Option Operand} (n:Nat) {elem:TypeId} (hu:P.underlying ty=some (.array n elem)) (hs:(P.info? elem).map (·.size)=some 1) {g o:Nat} (l m:Nat) (hlm:l+m≤n) (hln:l<n) (hx:a.eval x=.pointer (some ⟨g,o,none⟩))
  (hlo:lo.map a.eval=some (.int .i64 l)∨(lo.map a.eval=none∧l=0)) (hhi:hi.map a.eval=some (.int .i64 (l+m:Nat))∨(hi.map a.eval=none∧l+m=n))
  (h:wpStill P ops w Q rest (a.put dst (.slice (some ⟨g,o+l,none⟩) m (n - l)))) :
  wpStill P ops w Q ({dst:=dst,op:=.slice ty x lo hi none,type:=typ,pos:=pos,after:=aft,guard:=none}::rest) a:=by
 have hr:=run_sla (P:=P) w hu hs g o l m hlm hln (lo.map a.eval) (hi.map a.eval) hlo hhi
 refine gF rfl _ ?_ h
 unfold execOp
 simp only [hx,Option.map_none,hr,Sem.run_bind,Sem.run_pure,Result.andThen_ok]
theorem iE {ty:TypeId} {x:Operand} (i:Nat) {g:Nat} {l:List Value} {t:TypeId} (off:Nat) (sub:List Value) (hm:Mem w0 S w rows) (hi:rows[i]?=some (g,l,t)) (hx:a.eval x=.pointer (some ⟨g,off,none⟩))
  (d:TypeDesc) (hu:P.underlying ty=some d) (hd:(match d with | .struct _ | .array _ _=>true|_=>false)=true) (n:Nat) (hs:(P.info? ty).map (·.size)=some n) (hn:off+n≤l.length) (hsub:(l.drop off).take n=sub)
  (h:wpStill P ops w Q rest (a.put dst (.agg sub.toArray))) :
  wpStill P ops w Q ({dst:=dst,op:=.load ty x,type:=typ,pos:=pos,after:=aft,guard:=none}::rest) a:=by
 refine gF rfl _ ?_ h
 unfold execOp
 simp only [hx,Instr.loadAt,Instr.sureAddr,Sem.run_bind,Sem.run_pure,Result.andThen_ok,cL w g off n ty t l d (hm.get i hi) hu hd hs hn,hsub]
end
theorem cG {P:Program} {id:Nat} {Q:Exit→Act→World→Prop} {a:Act} {w w0:World} {S:List Nat} {rows:List (Nat×List Value×TypeId)} {l:List Oper} (n:Nat) (hmix:P.follows .mixedOrders=true) (hB:Region.lexTailB .any l.toArray n=true) (hm:Mem w0 S w rows)
  (h:∀w',Mem w0 S w' rows→wpStill P l.toArray w' (fun a'=>wpList P l.toArray Q (l.drop n) a' w') (l.take n) a):(Code.region id l.toArray true).wp P Q a w :=
 wp_region_still_tail n hmix hB (h _ hm.drew)
def Sl (w:World) (g:Nat) (v:Value) (cs:List Int):Prop :=
 ∃p cap,v=.slice p cs.length cap∧cs.length≤cap∧(0<cs.length→∃b off,p=some ⟨b,off,none⟩∧b≠g∧Seg w b off cs)
def slLen:Value→Nat
 | .slice _ n _=>n
 | _=>0
theorem sl_drop {w:World} {g b off cap n:Nat} {cs:List Int} {p:Option Addr} (hc:cs.length≤cap) (hn:n≤cs.length) (hne:b≠g) (hs:Seg w b off cs) (hp:p=(if cap=n then some ⟨b,off,none⟩ else (some (⟨b,off,none⟩:Addr)).map (·.add n))) :
  Sl w g (.slice p (cs.length - n) (cap - n)) (cs.drop n):=by
 refine ⟨p,cap - n,by simp,by simp;omega,fun h=>?_⟩
 have hlt:n<cs.length:=by simp at h;omega
 rw [if_neg (by omega)] at hp
 exact ⟨b,off+n,by rw [hp];simp [bM],hne,hs.drop n⟩
open Go Go.RowKit
def Bytes (l:List Int):Prop:=∀x∈l,0≤x∧x<256
theorem Bytes.get {l:List Int} (h:Bytes l) (j:Nat):0≤l.getD j 0∧l.getD j 0<256:=by
 rcases Nat.lt_or_ge j l.length with hj|hj
 ·have:=h l[j] (List.getElem_mem hj)
  simpa [hj] using this
 ·simp [List.getElem?_eq_none hj]
theorem Bytes.append {l l':List Int} (h:Bytes l) (h':Bytes l'):Bytes (l++l'):=by
 intro x hx
 rcases List.mem_append.1 hx with hx|hx
 ·exact h x hx
 ·exact h' x hx
theorem Bytes.take {l:List Int} (h:Bytes l) (n:Nat):Bytes (l.take n):=fun x hx=>h x (List.mem_of_mem_take hx)
theorem Bytes.drop {l:List Int} (h:Bytes l) (n:Nat):Bytes (l.drop n):=fun x hx=>h x (List.mem_of_mem_drop hx)
theorem Bytes.zeros (n:Nat):Bytes (List.replicate n 0):=by
 intro x hx
 have:=List.eq_of_mem_replicate hx
 omega
theorem Bytes.splice {l cs:List Int} (h:Bytes l) (hc:Bytes cs) (off:Nat):Bytes (Go.splice l off cs) :=
 (h.take _).append (hc.append (h.drop _))
theorem Bytes.set {l:List Int} (h:Bytes l) (i:Nat) (x:Int) (hx:0≤x∧x<256):Bytes (l.set i x):=by
 intro y hy
 rcases List.mem_or_eq_of_mem_set hy with hy|rfl
 ·exact h y hy
 ·exact hx
def firstW:List Int:=[1779033703,3144134277,1013904242,2773480762,1359893119,2600822924,528734635,1541459225]
theorem rnd_length (k x:Int) (l:List Int) (h:l.length=8):(rnd k x l).length=8:=by
 match l,h with
 | [a,b,c,d,e,f,g,h],_=>rfl
theorem gO (ws W:List Int) (h:ws.length=8) (k:Nat):(shaRounds ws W k).length=8:=by
 induction k with
 | zero=>exact h
 | succ k ih=>exact rnd_length _ _ _ ih
theorem bn (ws bs:List Int) (h:ws.length=8):(mix ws bs).length=8:=ec _ _ h (gO _ _ h _)
def absorb (m:List Int):Nat→List Int
 | 0=>firstW
 | k+1=>mix (absorb m k) ((m.drop (64 * k)).take 64)
theorem jL (m:List Int) (k:Nat):(absorb m k).length=8:=by
 induction k with
 | zero=>rfl
 | succ k ih=>exact bn _ _ ih
theorem fR (m d:List Int) (k:Nat) (h:64 * k≤m.length):absorb (m++d) k=absorb m k:=by
 induction k with
 | zero=>rfl
 | succ k ih =>
  have e:((m++d).drop (64 * k)).take 64=(m.drop (64 * k)).take 64:=by
   rw [List.drop_append_of_le_length (by omega),List.take_append_of_le_length (by simp;omega)]
  rw [absorb,absorb,ih (by omega),e]
def wsOf (m:List Int):List Int:=absorb m (m.length / 64)
def tailOf (m:List Int):List Int:=m.drop (64 * (m.length / 64))
def restOf (m:List Int):List Int:=tailOf m++List.replicate (64 - m.length % 64) 0
theorem bA (m:List Int):(wsOf m).length=8:=jL _ _
theorem dx (m:List Int):(tailOf m).length=m.length % 64:=by simp [tailOf];omega
theorem bH (m:List Int):(restOf m).length=64:=by simp [restOf,dx];omega
theorem gt {m:List Int} (h:Bytes m):Bytes (restOf m):=(h.drop _).append (Bytes.zeros _)
theorem jr (m:List Int) (h:m.length<64):wsOf m=firstW:=by
 have e:m.length / 64=0:=by omega
 rw [wsOf,e];rfl
theorem iA (m d:List Int) (h:m.length % 64+d.length≤64):splice (restOf m) (m.length % 64) d=tailOf m++d++List.replicate (64 - (m.length % 64+d.length)) 0:=by
 have hl:=dx m
 have e1:(restOf m).take (m.length % 64)=tailOf m:=by
  unfold restOf
  rw [List.take_append_of_le_length (by omega),List.take_of_length_le (by omega)]
 have e2:(restOf m).drop (m.length % 64+d.length)=List.replicate (64 - (m.length % 64+d.length)) 0:=by
  unfold restOf
  rw [List.drop_append,List.drop_of_length_le (by omega),hl,List.nil_append,List.drop_replicate]
  congr 1
  omega
 unfold splice
 rw [e1,e2,List.append_assoc]
theorem more_ws (m d:List Int) (h:m.length % 64+d.length<64):wsOf (m++d)=wsOf m:=by
 have e:(m++d).length / 64=m.length / 64:=by simp;omega
 rw [wsOf,e,fR m d _ (by omega),wsOf]
theorem more_rest (m d:List Int) (h:m.length % 64+d.length<64):restOf (m++d)=splice (restOf m) (m.length % 64) d:=by
 have e:(m++d).length / 64=m.length / 64:=by simp;omega
 have e2:(m++d).length % 64=m.length % 64+d.length:=by simp;omega
 rw [iA m d (by omega),restOf,tailOf,e,e2,List.drop_append_of_le_length (by omega),tailOf]
theorem full_ws (m d:List Int) (h:m.length % 64+d.length=64):wsOf (m++d)=mix (wsOf m) (splice (restOf m) (m.length % 64) d):=by
 have e:(m++d).length / 64=m.length / 64+1:=by simp;omega
 have e3:((m++d).drop (64 * (m.length / 64))).take 64=tailOf m++d:=by
  rw [List.drop_append_of_le_length (by omega),List.take_of_length_le (by have:=dx m;unfold tailOf at this;simp at this ⊢;omega),tailOf]
 rw [iA m d (by omega),wsOf,e,absorb,fR m d _ (by omega),e3,h]
 simp [wsOf]
theorem full_rest (m d:List Int) (h:m.length % 64+d.length=64):restOf (m++d)=List.replicate 64 0:=by
 have e:(m++d).length % 64=0:=by simp;omega
 have hl:=dx (m++d)
 rw [e] at hl
 rw [restOf,List.eq_nil_of_length_eq_zero hl,e]
 rfl
def hrow (ws rest:List Int) (n:Int):List Value:=u32s ws++(u8s rest++[.int .i64 n])
theorem cT (ws rest:List Int) (n:Int) (h:ws.length=8) (h':rest.length=64):(hrow ws rest n).length=73:=by simp [hrow,ar,ab,h,h']
theorem hrow_rest (ws rest:List Int) (n:Int) (h:ws.length=8) (h':rest.length=64):((hrow ws rest n).drop 8).take 64=u8s rest:=by
 rw [hrow,List.drop_append,List.drop_of_length_le (by rw [ar];omega),ar,h,List.nil_append,Nat.sub_self,List.drop_zero,List.take_append_of_le_length (by rw [ab];omega),List.take_of_length_le (by rw [ab];omega)]
theorem fE (ws rest:List Int) (n:Int) (h:ws.length=8) (h':rest.length=64):(hrow ws rest n)[72]?=some (.int .i64 n):=by
 rw [hrow,List.getElem?_append_right (by rw [ar];omega),List.getElem?_append_right (by rw [ab,ar];omega),ab,ar,h,h']
 rfl
theorem hrow_setSize (ws rest:List Int) (n n':Int) (h:ws.length=8) (h':rest.length=64):(hrow ws rest n).set 72 (.int .i64 n')=hrow ws rest n':=by
 rw [hrow,List.set_append_right _ _ (by rw [ar];omega),List.set_append_right _ _ (by rw [ab,ar];omega),ab,ar,h,h']
 rfl
theorem jD (ws ws' rest:List Int) (n:Int) (h:ws.length=8) (h':ws'.length=8):splice (hrow ws rest n) 0 (u32s ws')=hrow ws' rest n:=by
 unfold splice hrow
 rw [List.take_zero,List.nil_append,ar,h',Nat.zero_add,List.drop_append,List.drop_of_length_le (by rw [ar];omega),ar,h]
 rfl
theorem gq (ws rest:List Int) (n:Int) (off:Nat) (cs:List Int) (h:ws.length=8) (h':rest.length=64) (hc:off+cs.length≤64):splice (hrow ws rest n) (8+off) (u8s cs)=hrow ws (splice rest off cs) n:=by
 unfold splice hrow
 rw [ab,List.take_append,List.take_of_length_le (by rw [ar];omega),ar,h,List.drop_append,List.drop_of_length_le (by rw [ar];omega),ar,h,
  show 8+off - 8=off by omega,show 8+off+cs.length - 8=off+cs.length by omega,List.take_append_of_le_length (by rw [ab];omega),List.drop_append_of_le_length (by rw [ab];omega)]
 simp [u8s]
def be8 (n:Int):List Int :=
 [n / 256 / 256 / 256 / 256 / 256 / 256 / 256 % 256,n / 256 / 256 / 256 / 256 / 256 / 256 % 256,n / 256 / 256 / 256 / 256 / 256 % 256,n / 256 / 256 / 256 / 256 % 256,n / 256 / 256 / 256 % 256,n / 256 / 256 % 256,n / 256 % 256,n % 256]
theorem dP (n:Int):Bytes (be8 n):=by
 intro x hx
 simp only [be8,List.mem_cons,List.not_mem_nil,or_false] at hx
 rcases hx with rfl|rfl|rfl|rfl|rfl|rfl|rfl|rfl<;>omega
def fin (ws rest:List Int) (n:Nat):List Int :=
 if 56≤n % 64 then mix (mix ws (rest.set (n % 64) 128)) (splice (List.replicate 64 0) 56 (be8 (n * 8)))
 else mix ws (splice (rest.set (n % 64) 128) 56 (be8 (n * 8)))
theorem fin_length (ws rest:List Int) (n:Nat) (h:ws.length=8):(fin ws rest n).length=8:=by
 unfold fin;split
 ·exact bn _ _ (bn _ _ h)
 ·exact bn _ _ h
def asB (ws:List Int):List Int:=ws.flatMap four
theorem dv (ws:List Int) (h:ws.length=8):(asB ws).length=32:=by
 match ws,h with
 | [a,b,c,d,e,f,g,h],_=>rfl
theorem four_bytes (x:Int):Bytes (four x):=by
 intro y hy
 simp only [four,List.mem_cons,List.not_mem_nil,or_false] at hy
 rcases hy with rfl|rfl|rfl|rfl<;>omega
theorem asB_bytes (ws:List Int):Bytes (asB ws):=by
 intro y hy
 obtain ⟨x,_,hx⟩:=List.mem_flatMap.1 hy
 exact four_bytes x y hx
def asRow (ws:List Int) (k:Nat):List Int:=asB (ws.take k)++List.replicate (32 - 4 * k) 0
theorem eX (ws:List Int) (h:ws.length=8) (k:Nat) (hk:k≤8):(asB (ws.take k)).length=4 * k:=by
 have:∀l:List Int,(asB l).length=4 * l.length:=by
  intro l
  induction l with
  | nil=>rfl
  | cons x l ih=>simp [asB,four] at ih ⊢;omega
 rw [this]
 simp
 omega
theorem asRow_length (ws:List Int) (h:ws.length=8) (k:Nat) (hk:k≤8):(asRow ws k).length=32:=by simp [asRow,eX ws h k hk];omega
theorem asRow_full (ws:List Int) (h:ws.length=8):asRow ws 8=asB ws:=by
 unfold asRow
 rw [List.take_of_length_le (by omega)]
 simp
theorem asRow_step (ws:List Int) (h:ws.length=8) (k:Nat) (hk:k<8):splice (asRow ws k) (4 * k) (four (ws.getD k 0))=asRow ws (k+1):=by
 have hl:=eX ws h k (by omega)
 have h4:(four (ws.getD k 0)).length=4:=rfl
 have e1:(asRow ws k).take (4 * k)=asB (ws.take k):=by
  unfold asRow
  rw [List.take_append_of_le_length (by omega),List.take_of_length_le (by omega)]
 have e2:(asRow ws k).drop (4 * k+4)=List.replicate (32 - 4 * (k+1)) 0:=by
  unfold asRow
  rw [List.drop_append,List.drop_of_length_le (by omega),hl,List.nil_append,List.drop_replicate]
  congr 1
  omega
 have e3:asB (ws.take (k+1))=asB (ws.take k)++four (ws.getD k 0):=by
  have hg:ws.getD k 0=ws[k]'(by omega):=by simp [show k<ws.length by omega]
  unfold asB
  rw [List.take_succ_eq_append_getElem (by omega),List.flatMap_append,hg,List.flatMap_cons,List.flatMap_nil,List.append_nil]
 unfold splice
 rw [h4,e1,e2,asRow,e3,List.append_assoc]
def shaOf (m:List Int):List Int:=asB (fin (wsOf m) (restOf m) m.length)
theorem bC (m:List Int):(shaOf m).length=32:=dv _ (fin_length _ _ _ (bA m))
theorem fp (m:List Int):Bytes (shaOf m):=asB_bytes _
def hexDigit (x:Int):Int:=[48,49,50,51,52,53,54,55,56,57,97,98,99,100,101,102].getD x.toNat 0
def hexOf (l:List Int):List Int:=l.flatMap fun c=>[hexDigit (c / 16),hexDigit (c % 16)]
open Go Go.RowKit
def strOf (ns:List Int):ByteArray:=⟨(ns.map fun n=>UInt8.ofNat n.toNat).toArray⟩
section
variable {P:Program} {ops:Array Oper} {rest:List Oper} {a:Act} {w w0:World} {Q:Exit→Act→World→Prop} {dst:Option Tmp} {typ:TypeId} {pos:String} {aft:Array Edge} {S:List Nat} {rows:List (Nat×List Value×TypeId)}
end
def digs:ByteArray:={data:=#[48,49,50,51,52,53,54,55,56,57,97,98,99,100,101,102]}
def hexRow (l:List Int) (k:Nat):List Int:=hexOf (l.take k)++List.replicate (64 - 2 * k) 0
end Go.Proofs.YtnllomcajijbjaaGreatDoor
