import Derived.WalkKit
import Derived.WalkSpells
import Derived.Laws.CopyOwn
import Derived.Laws.Rows
import Derived.Laws.Tables
import Derived.Deep.WholeRow
import Derived.Deep.QuietTactic
import Derived.BigQuiet
import Derived.StillTailTactics
import Derived.OrdersHeld
import Derived.Maps.AppendAt
import Derived.Lib.AppendStr
import Derived.Laws.BytesString
set_option maxRecDepth 100000
set_option maxHeartbeats 4000000
namespace Go.Proofs.YtdmohffogfbnbaaGreatDoor
open Go Go.RowKit
def u8s (l:List Int):List Value:=l.map (Value.int .u8)
def u32s (l:List Int):List Value:=l.map (Value.int .u32)
theorem u8s_get (l:List Int) (i:Nat) (h:i<l.length):(u8s l)[i]?=some (.int .u8 (l.getD i 0)):=by
 simp [u8s,h]
theorem u32s_get (l:List Int) (i:Nat) (h:i<l.length):(u32s l)[i]?=some (.int .u32 (l.getD i 0)):=by
 simp [u32s,h]
def Row (w:World) (g:Nat) (l:List Value) (t:TypeId):Prop:=w.heap[g]?=some (.cells l.toArray t (0,0))
theorem Row.lt {w:World} {g:Nat} {l:List Value} {t:TypeId} (h:Row w g l t):g<w.heap.size:=(Array.getElem?_eq_some_iff.1 h).1
theorem Row.cell {w:World} {g:Nat} {l:List Value} {t:TypeId} (h:Row w g l t) (i:Nat):w.cell? ⟨g,i,none⟩=l[i]?:=by
 rw [cell_of_row w g i _ t (0,0) h];simp
theorem Row.free {w:World} {g:Nat} {l:List Value} {t:TypeId} (h:Row w g l t) (i:Nat):w.frozen? ⟨g,i,none⟩=false:=frozen_of_row w g i _ t h
theorem Row.below {w w':World} {B g:Nat} {l:List Value} {t:TypeId} (h:Row w g l t) (hb:Below B w w') (hg:g<B):Row w' g l t:=by
 unfold Row;rw [hb.block g hg];exact h
theorem Row.below' {w w':World} {g:Nat} {l:List Value} {t:TypeId} (h:Row w g l t) (hb:Below w.heap.size w w'):Row w' g l t:=h.below hb h.lt
theorem Row.drew {w:World} {g:Nat} {l:List Value} {t:TypeId} (h:Row w g l t):Row w.drew g l t:=h
theorem Row.alloc {w:World} {g:Nat} {l:List Value} {t:TypeId} (h:Row w g l t) (o:Obj):Row (w.alloc o) g l t:=by
 unfold Row;rw [Below.heap_alloc _ _ _ h.lt];exact h
theorem Row.new (w:World) (l:List Value) (t:TypeId):Row (w.alloc (.cells l.toArray t)) w.heap.size l t:=heap_alloc_new w _
theorem Row.set {w:World} {g:Nat} {l:List Value} {t:TypeId} (h:Row w g l t) (i:Nat) (v:Value):Row (w.setCell ⟨g,i,none⟩ v) g (l.set i v) t:=by
 unfold Row
 rw [heap_setCell_same w g i l.toArray t v h];simp
theorem Row.setRow {w:World} {g:Nat} {l:List Value} {t:TypeId} (h:Row w g l t) (l':List Value):Row (w.setRow g l'.toArray) g l' t :=
 setRow_heap w g _ _ t _ h
def rotr (x n:Int):Int:=bits .or .u32 (x / 2 ^ n.toNat) (x * 2 ^ (32 - n).toNat % 4294967296)
def big4 (a b c d:Int):Int:=bits .or .u32 (bits .or .u32 (bits .or .u32 (a * 16777216) (b * 65536)) (c * 256)) d
def four (x:Int):List Int:=[x / 16777216 % 256,x / 65536 % 256,x / 256 % 256,x % 256]
def sig0 (x:Int):Int:=bits .xor .u32 (bits .xor .u32 (rotr x 7) (rotr x 18)) (x / 8)
def sig1 (y:Int):Int:=bits .xor .u32 (bits .xor .u32 (rotr y 17) (rotr y 19)) (y / 1024)
def nextW (l:List Int) (k:Nat):Int :=
 (sig1 (l.getD (k - 2) 0)+l.getD (k - 7) 0+sig0 (l.getD (k - 15) 0)+l.getD (k - 16) 0) % 4294967296
def sched (b:List Int):Nat→List Int
 | 0=>[]
 | k+1=>sched b k++[if k<16 then big4 (b.getD (4 * k) 0) (b.getD (4 * k+1) 0) (b.getD (4 * k+2) 0) (b.getD (4 * k+3) 0) else nextW (sched b k) k]
def cap0 (a:Int):Int:=bits .xor .u32 (bits .xor .u32 (rotr a 2) (rotr a 13)) (rotr a 22)
def cap1 (e:Int):Int:=bits .xor .u32 (bits .xor .u32 (rotr e 6) (rotr e 11)) (rotr e 25)
def kTab:List Int:=[1116352408,1899447441,3049323471,3921009573,961987163,1508970993,2453635748,2870763221,3624381080,310598401,607225278,1426881987,1925078388,2162078206,2614888103,3248222580,3835390401,4022224774,264347078,604807628,770255983,1249150122,1555081692,1996064986,2554220882,2821834349,2952996808,3210313671,3336571891,3584528711,113926993,338241895,666307205,773529912,1294757372,1396182291,1695183700,1986661051,2177026350,2456956037,2730485921,2820302411,3259730800,3345764771,3516065817,3600352804,4094571909,275423344,430227734,506948616,659060556,883997877,958139571,1322822218,1537002063,1747873779,1955562222,2024104815,2227730452,2361852424,2428436474,2756734187,3204031479,3329325298]
def notW (e:Int):Int:=bits .xor .u32 (if IntKind.u32.signed=true then -1 else IntKind.u32.max) e
def tOne (k x e f g h:Int):Int:=(h+cap1 e+bits .xor .u32 (bits .and .u32 e f) (bits .and .u32 (notW e) g)+k+x) % 4294967296
def tTwo (a b c:Int):Int:=(cap0 a+bits .xor .u32 (bits .xor .u32 (bits .and .u32 a b) (bits .and .u32 a c)) (bits .and .u32 b c)) % 4294967296
def rnd (k x:Int):List Int→List Int
 | [a,b,c,d,e,f,g,h]=>[(tOne k x e f g h+tTwo a b c) % 4294967296,a,b,c,(d+tOne k x e f g h) % 4294967296,e,f,g]
 | l=>l
def shaRounds (ws W:List Int):Nat→List Int
 | 0=>ws
 | k+1=>rnd (kTab.getD k 0) (W.getD k 0) (shaRounds ws W k)
def addW (a b:List Int):List Int:=List.zipWith (fun x y=>(x+y) % 4294967296) a b
def addUpto (ws vs:List Int) (k:Nat):List Int:=(addW ws vs).take k++ws.drop k
def mix (ws bs:List Int):List Int:=addW ws (shaRounds ws (sched bs 64) 64)
def schedRow (b:List Int) (k:Nat):List Int:=sched b k++List.replicate (64 - k) 0
open Go Go.RowKit
structure Mem (w0:World) (S:List Nat) (w:World) (rows:List (Nat×List Value×TypeId)):Prop where
 os:w.os=w0.os
 tape:w.tape=w0.tape
 output:w.output=w0.output
 size:w0.heap.size≤w.heap.size
 block:∀k,k<w0.heap.size→k ∉ S→w.heap[k]?=w0.heap[k]?
 row:∀r∈rows,Row w r.1 r.2.1 r.2.2
 nodup:(rows.map Prod.fst).Nodup
 fresh:∀r∈rows,r.1∈S∨w0.heap.size≤r.1
structure Upd (g:Nat) (w w':World):Prop where
 os:w'.os=w.os
 tape:w'.tape=w.tape
 output:w'.output=w.output
 size:w.heap.size≤w'.heap.size
 block:∀k,k<w.heap.size→k≠g→w'.heap[k]?=w.heap[k]?
theorem Upd.refl (g:Nat) (w:World):Upd g w w:=⟨rfl,rfl,rfl,Nat.le_refl _,fun _ _ _=>rfl⟩
theorem Upd.trans {g:Nat} {a b c:World} (h:Upd g a b) (k:Upd g b c):Upd g a c :=
 ⟨k.os.trans h.os,k.tape.trans h.tape,k.output.trans h.output,Nat.le_trans h.size k.size,fun i hi hn=>(k.block i (Nat.lt_of_lt_of_le hi h.size) hn).trans (h.block i hi hn)⟩
theorem Upd.of_below {g:Nat} {w w':World} (h:Below w.heap.size w w'):Upd g w w':=⟨h.os,h.tape,h.output,h.size,fun k hk _=>h.block k hk⟩
theorem Upd.setRow (g:Nat) (w:World) (c:Array Value):Upd g w (w.setRow g c) :=
 ⟨rfl,rfl,rfl,by simp,fun k _ hn=>setRow_other w g k c hn⟩
theorem Upd.setCell (g i:Nat) (w:World) (v:Value):Upd g w (w.setCell ⟨g,i,none⟩ v) :=
 ⟨rfl,rfl,rfl,by simp,fun k _ hn=>heap_setCell_other w _ k v hn⟩
theorem Upd.cell {g:Nat} {w w':World} (h:Upd g w w') {p:Addr} (hp:p.block<w.heap.size) (hn:p.block≠g):w'.cell? p=w.cell? p :=
 World.cell?_of_block (w:=w) (h.block p.block hp hn)
theorem Upd.row {g k:Nat} {w w':World} {l:List Value} {t:TypeId} (h:Upd g w w') (r:Row w k l t) (hn:k≠g):Row w' k l t:=by
 unfold Row;rw [h.block k r.lt hn];exact r
section
variable {w0 w w':World} {S:List Nat} {rows:List (Nat×List Value×TypeId)}
theorem Mem.start (w:World):Mem w [] w []:=⟨rfl,rfl,rfl,Nat.le_refl _,fun _ _ _=>rfl,by simp,by simp,by simp⟩
theorem Mem.enter {g:Nat} {l:List Value} {t:TypeId} (h:Row w g l t):Mem w [g] w [(g,l,t)] :=
 ⟨rfl,rfl,rfl,Nat.le_refl _,fun _ _ _=>rfl,by simpa using h,by simp,by simp⟩
theorem Mem.drew (hm:Mem w0 S w rows):Mem w0 S w.drew rows:=⟨hm.os,hm.tape,hm.output,hm.size,hm.block,hm.row,hm.nodup,hm.fresh⟩
theorem Mem.drewN (hm:Mem w0 S w rows) (n:Nat):Mem w0 S (w.drewN n) rows:=⟨hm.os,hm.tape,hm.output,hm.size,hm.block,hm.row,hm.nodup,hm.fresh⟩
theorem Mem.set (hm:Mem w0 S w rows) (i:Nat) {g:Nat} {l:List Value} {t:TypeId} (hi:rows[i]?=some (g,l,t)) (j:Nat) (v:Value) (h:∀(w':World),Upd g w w'→Row w' g (l.set j v) t→Mem w0 S w' (rows.set i (g,l.set j v,t))):Mem w0 S (w.setCell ⟨g,j,none⟩ v) (rows.set i (g,l.set j v,t)) :=
 h _ (Upd.setCell g j w v) ((hm.row _ (List.mem_of_getElem? hi)).set j v)
theorem Mem.alloc (hm:Mem w0 S w rows) (l:List Value) (t:TypeId):Mem w0 S (w.alloc (.cells l.toArray t)) ((w.heap.size,l,t)::rows):=by
 refine ⟨hm.os,hm.tape,hm.output,by have:=hm.size;simp;omega,fun k hk hn=>?_,?_,?_,?_⟩
 ·rw [Below.heap_alloc _ _ _ (Nat.lt_of_lt_of_le hk hm.size)];exact hm.block k hk hn
 ·intro r hr
  rcases List.mem_cons.1 hr with rfl|hr
  ·exact Row.new w l t
  ·exact (hm.row r hr).alloc _
 ·simp only [List.map_cons,List.nodup_cons]
  refine ⟨fun hc=>?_,hm.nodup⟩
  obtain ⟨r,hr,he⟩:=List.mem_map.1 hc
  have:=(hm.row r hr).lt
  omega
 ·intro r hr
  rcases List.mem_cons.1 hr with rfl|hr
  ·exact Or.inr hm.size
  ·exact hm.fresh r hr
theorem Mem.call (hm:Mem w0 S w rows) (hb:Below w.heap.size w w'):Mem w0 S w' rows :=
 ⟨hb.os.trans hm.os,hb.tape.trans hm.tape,hb.output.trans hm.output,Nat.le_trans hm.size hb.size,
  fun k hk hn=>(hb.block k (Nat.lt_of_lt_of_le hk hm.size)).trans (hm.block k hk hn),fun r hr=>(hm.row r hr).below' hb,hm.nodup,hm.fresh⟩
theorem Mem.get (hm:Mem w0 S w rows) (i:Nat) {g:Nat} {l:List Value} {t:TypeId} (hi:rows[i]?=some (g,l,t)):Row w g l t :=
 hm.row _ (List.mem_of_getElem? hi)
theorem Mem.cell (hm:Mem w0 S w rows) (i:Nat) {g:Nat} {l:List Value} {t:TypeId} (hi:rows[i]?=some (g,l,t)) (j:Nat):w.cell? ⟨g,j,none⟩=l[j]? :=
 (hm.get i hi).cell j
theorem Mem.free (hm:Mem w0 S w rows) (i:Nat) {g:Nat} {l:List Value} {t:TypeId} (hi:rows[i]?=some (g,l,t)) (j:Nat):w.frozen? ⟨g,j,none⟩=false :=
 (hm.get i hi).free j
theorem Mem.old (hm:Mem w0 S w rows) {p:Addr} (hp:p.block<w0.heap.size) (hn:p.block ∉ S):w.cell? p=w0.cell? p :=
 World.cell?_of_block (w:=w0) (hm.block p.block hp hn)
theorem Mem.upd (hm:Mem w0 S w rows) (i:Nat) {g:Nat} {l l':List Value} {t:TypeId} (hi:rows[i]?=some (g,l,t)) (hu:Upd g w w') (hr0:Row w' g l' t):Mem w0 S w' (rows.set i (g,l',t)):=by
 have hlt:i<rows.length:=(List.getElem?_eq_some_iff.1 hi).1
 have hge:rows[i]=(g,l,t):=(List.getElem?_eq_some_iff.1 hi).2
 have hmem:(g,l,t)∈rows:=List.mem_of_getElem? hi
 have hkeys:(rows.set i (g,l',t)).map Prod.fst=rows.map Prod.fst:=by
  rw [List.map_set]
  apply List.ext_getElem?
  intro j
  by_cases hj:i=j
  ·subst hj;simp [hlt,hge]
  ·simp [hj]
 refine ⟨hu.os.trans hm.os,hu.tape.trans hm.tape,hu.output.trans hm.output,Nat.le_trans hm.size hu.size,fun k hk hn=>?_,?_,by rw [hkeys];exact hm.nodup,?_⟩
 ·have hkg:k≠g:=by
   rintro rfl
   rcases hm.fresh _ hmem with h|h
   ·exact hn h
   ·simp at h;omega
  exact (hu.block k (Nat.lt_of_lt_of_le hk hm.size) hkg).trans (hm.block k hk hn)
 ·intro r hr
  obtain ⟨j,hj,hrj⟩:=List.getElem_of_mem hr
  rw [List.getElem_set] at hrj
  by_cases hij:i=j
  ·rw [if_pos hij] at hrj;subst hrj;exact hr0
  ·rw [if_neg hij] at hrj
   have hj':j<rows.length:=by simpa using hj
   have hrow:=hm.row r (hrj▸List.getElem_mem hj')
   refine hu.row hrow ?_
   intro he
   have h1:(rows.map Prod.fst)[i]'(by simpa using hlt)=(rows.map Prod.fst)[j]'(by simpa using hj'):=by simp [hge,hrj,he]
   exact hij ((List.getElem_inj hm.nodup).1 h1)
 ·intro r hr
  have:r.1∈(rows.set i (g,l',t)).map Prod.fst:=List.mem_map_of_mem hr
  rw [hkeys] at this
  obtain ⟨r',hr',he⟩:=List.mem_map.1 this
  have:=hm.fresh r' hr'
  rwa [he] at this
theorem Mem.setCell (hm:Mem w0 S w rows) (i:Nat) {g:Nat} {l:List Value} {t:TypeId} (hi:rows[i]?=some (g,l,t)) (j:Nat) (v:Value):Mem w0 S (w.setCell ⟨g,j,none⟩ v) (rows.set i (g,l.set j v,t)) :=
 hm.set i hi j v (fun _ hu hr=>hm.upd i hi hu hr)
theorem Mem.below (hm:Mem w0 [] w rows):Below w0.heap.size w0 w:=⟨hm.os,hm.tape,hm.output,hm.size,fun k hk=>hm.block k hk (by simp)⟩
theorem Mem.toUpd {g:Nat} (hm:Mem w0 [g] w rows):Upd g w0 w:=⟨hm.os,hm.tape,hm.output,hm.size,fun k hk hn=>hm.block k hk (by simpa using hn)⟩
theorem Mem.sub (hm:Mem w0 S w rows) {rows':List (Nat×List Value×TypeId)} (h:rows'.Sublist rows):Mem w0 S w rows' :=
 ⟨hm.os,hm.tape,hm.output,hm.size,hm.block,fun r hr=>hm.row r (h.subset hr),(h.map _).nodup hm.nodup,fun r hr=>hm.fresh r (h.subset hr)⟩
theorem Mem.tail {r:Nat×List Value×TypeId} (hm:Mem w0 S w (r::rows)):Mem w0 S w rows:=hm.sub (List.sublist_cons_self _ _)
theorem Mem.swap {r r':Nat×List Value×TypeId} (hm:Mem w0 S w (r::r'::rows)):Mem w0 S w (r'::r::rows) :=
 ⟨hm.os,hm.tape,hm.output,hm.size,hm.block,fun q hq=>hm.row q (by simp only [List.mem_cons] at hq ⊢;rcases hq with h|h|h<;>simp [h]),by
  have:=hm.nodup
  simp only [List.map_cons,List.nodup_cons,List.mem_cons,not_or] at this ⊢
  exact ⟨⟨fun h=>this.1.1 h.symm,this.2.1⟩,this.1.2,this.2.2⟩,fun q hq=>hm.fresh q (by simp only [List.mem_cons] at hq ⊢;rcases hq with h|h|h<;>simp [h])⟩
theorem Mem.ne {r:Nat×List Value×TypeId} (hm:Mem w0 S w (r::rows)) (i:Nat) {q:Nat×List Value×TypeId} (hi:rows[i]?=some q):r.1≠q.1:=by
 have:=hm.nodup
 simp only [List.map_cons,List.nodup_cons] at this
 intro he
 exact this.1 (he▸List.mem_map_of_mem (List.mem_of_getElem? hi))
end
section
variable {P:Program} {ops:Array Oper} {rest:List Oper} {a:Act} {w w0:World} {Q:Exit→Act→World→Prop} {dst:Option Tmp} {typ:TypeId} {pos:String} {aft:Array Edge} {S:List Nat} {rows:List (Nat×List Value×TypeId)}
theorem ab (dst:Option Tmp) (op:Op) (h:wpList P ops Q ({dst:=dst,op:=op,type:=typ,pos:=pos,after:=aft,guard:=none}::rest) a w) :
  wpList P ops Q ({dst:=dst,op:=op,type:=typ,pos:=pos,after:=aft,guard:=none}::rest) a w:=h
theorem ae {ty:TypeId} (z:List Value) (hz:∀w,(zeroValue ty).run P w=.ok (.agg z.toArray) w) (hm:Mem w0 S w rows)
  (h:∀w' g,Mem w0 S w' ((g,z,ty)::rows)→wpList P ops Q rest (a.put dst (.pointer (some ⟨g,0,none⟩))) w') :
  wpList P ops Q ({dst:=dst,op:=.alloc ty,type:=typ,pos:=pos,after:=aft,guard:=none}::rest) a w:=by
 refine wpList_plain rfl fun K hK=>?_
 have hh:=hK _ _ (h _ _ (hm.alloc z ty))
 unfold Oper.wp execOp
 simp [Instr.alloc,newVar,newRow,newObj,hz,Value.cells]
 exact hh
theorem aU {ty:TypeId} {x:Operand} (l:List Value) (hx:a.eval x=.agg l.toArray) (hm:Mem w0 S w rows)
  (h:∀w' g,Mem w0 S w' ((g,l,ty)::rows)→wpList P ops Q rest (a.put dst (.pointer (some ⟨g,0,none⟩))) w') :
  wpList P ops Q ({dst:=dst,op:=.box ty x,type:=typ,pos:=pos,after:=aft,guard:=none}::rest) a w:=by
 refine wpList_plain rfl fun K hK=>?_
 have hh:=hK _ _ (h _ _ (hm.alloc l ty))
 unfold Oper.wp execOp
 simp [Instr.box,newVar,newRow,newObj,hx,Value.cells]
 exact hh
theorem av {ty:TypeId} {x:Operand} (i:Nat) {g:Nat} {l:List Value} {t:TypeId} (hm:Mem w0 S w rows) (hi:rows[i]?=some (g,l,t)) (hx:a.eval x=.pointer (some ⟨g,0,none⟩))
  (d:TypeDesc) (hu:P.underlying ty=some d) (hd:(match d with | .struct _ | .array _ _=>true|_=>false)=true) (n:Nat) (hs:(P.info? ty).map (·.size)=some n) (hn:l.length=n)
  (h:wpList P ops Q rest (a.put dst (.agg l.toArray)) w) :
  wpList P ops Q ({dst:=dst,op:=.load ty x,type:=typ,pos:=pos,after:=aft,guard:=none}::rest) a w :=
 wpList_load_row rfl ty x rfl g hx t l.toArray (0,0) d (hm.get i hi) hu hd (by rw [hs];simp [hn]) h
theorem af {ty:TypeId} {x y:Operand} (i:Nat) {g:Nat} {l:List Value} {t:TypeId} (l':List Value) (hm:Mem w0 S w rows) (hi:rows[i]?=some (g,l,t)) (hx:a.eval x=.pointer (some ⟨g,0,none⟩))
  (hy:a.eval y=.agg l'.toArray) (n:Nat) (hs:(P.info? ty).map (·.size)=some n) (hn:l.length=n) (hn':l'.length=n) (h1:∀v∈l',v.oneCell'=true)
  (h:∀w',Mem w0 S w' (rows.set i (g,l',t))→wpList P ops Q rest a w') :
  wpList P ops Q ({dst:=none,op:=.store ty x y,type:=typ,pos:=pos,after:=aft,guard:=none}::rest) a w:=by
 refine wpList_plain rfl fun K hK=>?_
 have hr:=hm.get i hi
 have hh:=hK _ _ (h _ (hm.upd i hi (Upd.setRow g w l'.toArray) (hr.setRow l')))
 unfold Oper.wp execOp
 simp only [hx,hy,Instr.storeAt,Instr.sureAddr,Sem.run_bind,Sem.run_pure,Result.andThen_ok,
  run_storeVar_row w g t ty l.toArray l'.toArray hr (by rw [hs];simp [hn']) (by simp [hn,hn']) (by simpa using h1)]
 exact hh
theorem aw {ty:TypeId} {x:Operand} (i:Nat) {g:Nat} {l:List Value} {t:TypeId} (j:Nat) (v:Value) (hm:Mem w0 S w rows) (hi:rows[i]?=some (g,l,t)) (hx:a.eval x=.pointer (some ⟨g,j,none⟩))
  (ha:∀w,(isAgg ty).run P w=.ok false w) (hv:l[j]?=some v)
  (h:wpList P ops Q rest (a.put dst v) w) :
  wpList P ops Q ({dst:=dst,op:=.load ty x,type:=typ,pos:=pos,after:=aft,guard:=none}::rest) a w:=by
 refine wpList_plain rfl fun K hK=>?_
 have hh:=hK _ _ h
 have hc:w.cell? ⟨g,j,none⟩=some v:=by rw [hm.cell i hi,hv]
 have hld:(loadVar ty ⟨g,j,none⟩).run P w=.ok v w:=by
  simp [loadVar,ha,go_sem,hc]
 unfold Oper.wp execOp
 simp only [hx,Instr.loadAt,Instr.sureAddr,Sem.run_bind,Sem.run_pure,Result.andThen_ok,hld]
 exact hh
theorem bi {ty:TypeId} {x y:Operand} (i:Nat) {g:Nat} {l:List Value} {t:TypeId} (j:Nat) (v:Value) (hm:Mem w0 S w rows) (hi:rows[i]?=some (g,l,t)) (hx:a.eval x=.pointer (some ⟨g,j,none⟩))
  (hy:a.eval y=v) (hs:(P.info? ty).map (·.size)=some 1) (hj:j<l.length) (hc:v.cells=#[v]) (h1:v.oneCell'=true)
  (h:∀w',Mem w0 S w' (rows.set i (g,l.set j v,t))→wpList P ops Q rest a w') :
  wpList P ops Q ({dst:=none,op:=.store ty x y,type:=typ,pos:=pos,after:=aft,guard:=none}::rest) a w:=by
 refine wpList_plain rfl fun K hK=>?_
 have hr:=hm.get i hi
 have hh:=hK _ _ (h _ (hm.upd i hi (Upd.setCell g j w v) (hr.set j v)))
 have hcell:w.cell? ⟨g,j,none⟩=some l[j]:=by rw [hm.cell i hi];simp [hj]
 have hadd:(⟨g,j,none⟩:Addr).add 0=⟨g,j,none⟩:=by unfold Addr.add;split<;>simp_all
 have hst:(storeVar ty ⟨g,j,none⟩ v).run P w=.ok () (w.setCell ⟨g,j,none⟩ v):=by
  cases hq:P.info? ty with
  | none=>simp [hq] at hs
  | some q =>
   have hs1:q.size=1:=by simpa [hq] using hs
   have hs2:(store ⟨g,j,none⟩ v).run P w=.ok () (w.setCell ⟨g,j,none⟩ v):=by
    rw [run_store P w _ v _ h1,hcell];simp [hr.free j]
   simp [storeVar,sizeOf,typeInfo,hq,hc,hs1,storeCells,hadd,hs2]
 unfold Oper.wp execOp
 simp only [hx,hy,Instr.storeAt,Instr.sureAddr,Sem.run_bind,Sem.run_pure,Result.andThen_ok,hst]
 exact hh
theorem bn (g o j:Nat):(⟨g,o,none⟩:Addr).add j=⟨g,o+j,none⟩:=by unfold Addr.add;split<;>simp_all
theorem run_sla (w:World) {ty:TypeId} {n:Nat} {elem:TypeId} (hu:P.underlying ty=some (.array n elem)) (hs:(P.info? elem).map (·.size)=some 1) (g o l m:Nat) (hlm:l+m≤n) (hln:l<n) (lo hi:Option Value)
  (hlo:lo=some (.int .i64 l)∨(lo=none∧l=0)) (hhi:hi=some (.int .i64 (l+m:Nat))∨(hi=none∧l+m=n)) :
  (Instr.sliceAt ty (.pointer (some ⟨g,o,none⟩)) lo hi none).run P w=.ok (.slice (some ⟨g,o+l,none⟩) m (n - l)) w:=by
 cases hq:P.info? elem with
 | none=>simp [hq] at hs
 | some q =>
  have hs1:q.size=1:=by simpa [hq] using hs
  have hsz:(sizeOf elem).run P w=.ok 1 w:=by simp [sizeOf,typeInfo,hq,hs1]
  have hne:¬n=l:=by omega
  have bnd:∀(j y:Nat) (code:BoundsCode),j≤y→(Instr.sliceBound (.int .i64 (j:Int)) y code).run P w=.ok j w:=by
   intro j y code hj
   rw [run_sliceBound (P:=P) w .i64 (j:Int) y code (by omega) (by omega)]
   simp
  obtain ⟨h,hh⟩:∃h,h=l+m:=⟨_,rfl⟩
  rw [←hh] at hhi hlm
  have hb:(Instr.sliceBounds false n n lo hi none).run P w=.ok (l,h,n) w:=by
   rcases hlo with rfl|⟨rfl,rfl⟩
   ·rcases hhi with rfl|⟨rfl,hn⟩
    ·simp [Instr.sliceBounds,bnd h n _ hlm,bnd l h _ (by omega)]
    ·simp [Instr.sliceBounds,bnd l n _ (by omega),hn]
   ·rcases hhi with rfl|⟨rfl,hn⟩
    ·simp [Instr.sliceBounds,bnd h n _ hlm]
    ·simp [Instr.sliceBounds,hn]
  have hml:h - l=m:=by omega
  simp [Instr.sliceAt,Instr.sureAddr,run_underlying hu,hb,hsz,hne,bn,hml]
theorem wpl_sla {ty:TypeId} {x:Operand} {lo hi:Option Operand} (n:Nat) {elem:TypeId} (hu:P.underlying ty=some (.array n elem)) (hs:(P.info? elem).map (·.size)=some 1) {g o:Nat} (l m:Nat) (hlm:l+m≤n) (hln:l<n) (hx:a.eval x=.pointer (some ⟨g,o,none⟩))
  (hlo:lo.map a.eval=some (.int .i64 l)∨(lo.map a.eval=none∧l=0)) (hhi:hi.map a.eval=some (.int .i64 (l+m:Nat))∨(hi.map a.eval=none∧l+m=n))
  (h:wpList P ops Q rest (a.put dst (.slice (some ⟨g,o+l,none⟩) m (n - l))) w) :
  wpList P ops Q ({dst:=dst,op:=.slice ty x lo hi none,type:=typ,pos:=pos,after:=aft,guard:=none}::rest) a w:=by
 refine wpList_plain rfl fun K hK=>?_
 have hh:=hK _ _ h
 have hr:=run_sla (P:=P) w hu hs g o l m hlm hln (lo.map a.eval) (hi.map a.eval) hlo hhi
 unfold Oper.wp execOp
 simp only [hx,Option.map_none,hr,Sem.run_bind,Sem.run_pure,Result.andThen_ok]
 exact hh
theorem int_at {x:Operand} {il:Int} (l:Nat) (h:a.eval x=.int .i64 il) (he:il=(l:Int)):(some x).map a.eval=some (.int .i64 l):=by simp [h,he]
end
def Seg (w:World) (b off:Nat) (cs:List Int):Prop:=∀j,j<cs.length→w.cell? ⟨b,off+j,none⟩=some (.int .u8 (cs.getD j 0))
theorem Seg.lt {w:World} {b off:Nat} {cs:List Int} (h:Seg w b off cs) (hc:0<cs.length):b<w.heap.size:=block_lt_of_cell (h 0 hc)
theorem Seg.mem {w0 w:World} {S:List Nat} {rows:List (Nat×List Value×TypeId)} {b off:Nat} {cs:List Int} (h:Seg w0 b off cs) (hm:Mem w0 S w rows) (hS:b ∉ S):Seg w b off cs:=by
 intro j hj
 rw [hm.old (p:=⟨b,off+j,none⟩) (h.lt (by omega)) hS]
 exact h j hj
theorem Seg.below {w w':World} {b off:Nat} {cs:List Int} (h:Seg w b off cs) (hb:Below w.heap.size w w'):Seg w' b off cs:=by
 intro j hj
 rw [hb.cell (p:=⟨b,off+j,none⟩) (h.lt (by omega))]
 exact h j hj
theorem Seg.take {w:World} {b off:Nat} {cs:List Int} (h:Seg w b off cs) (n:Nat):Seg w b off (cs.take n):=by
 intro j hj
 simp at hj
 rw [h j (by omega)]
 have h1:j<n:=by omega
 have h2:j<cs.length:=by omega
 simp [h1,h2]
theorem Seg.drop {w:World} {b off:Nat} {cs:List Int} (h:Seg w b off cs) (n:Nat):Seg w b (off+n) (cs.drop n):=by
 intro j hj
 simp at hj
 rw [Nat.add_assoc,h (n+j) (by omega)]
 congr 2
 simp
theorem Seg.row {w:World} {g:Nat} {l:List Int} {t:TypeId} (h:Row w g (u8s l) t):Seg w g 0 l:=by
 intro j hj
 rw [Nat.zero_add,h.cell j,u8s_get l j hj]
theorem ct {P:Program} {fn:Func} {R:Ending→World→Prop} {a:Act} {w w0:World} {S:List Nat} {rows:List (Nat×List Value×TypeId)} {p:Tmp} {ty:TypeId} (i:Nat) {g:Nat} {l:List Value} {t:TypeId} (hm:Mem w0 S w rows) (hi:rows[i]?=some (g,l,t))
  (hres:fn.results=#[.cell p ty]) (hp:a.tmps.getD p undef=.pointer (some ⟨g,0,none⟩)) (d:TypeDesc) (hu:P.underlying ty=some d) (hd:(match d with | .struct _ | .array _ _=>true|_=>false)=true)
  (n:Nat) (hs:(P.info? ty).map (·.size)=some n) (hn:l.length=n) (hd0:a.defers=[]) (hR:R (.returned (.agg l.toArray)) w):bodyPost P fn R .ret a w :=
 bodyPost_ret (results_cell_row hres a.tmps w g t l.toArray (0,0) d hp (hm.get i hi) hu hd (by rw [hs];simp [hn])) hd0 hR
open Go Go.RowKit
theorem be {B g:Nat} {a b c:World} (h:Below B a b) (hu:Upd g b c) (hg:B≤g) (hB:B≤b.heap.size):Below B a c :=
 h.trans ⟨hu.os,hu.tape,hu.output,hu.size,fun k hk=>hu.block k (by omega) (by omega)⟩
section
variable {P:Program}
theorem ez (w:World) (g off n:Nat) (ty t:TypeId) (l:List Value) (d:TypeDesc) (hg:Row w g l t) (hu:P.underlying ty=some d)
  (hd:(match d with | .struct _ | .array _ _=>true|_=>false)=true) (hi:(P.info? ty).map (·.size)=some n) (hn:off+n≤l.length) :
  (loadVar ty ⟨g,off,none⟩).run P w=.ok (.agg ((l.drop off).take n).toArray) w:=by
 have hlen:((l.drop off).take n).length=n:=by simp;omega
 have hl:(loadCells ⟨g,off,none⟩ ((l.drop off).take n).length).run P w=.ok ((l.drop off).take n).toArray w :=
  run_loadCells_list (P:=P) w ⟨g,off,none⟩ ((l.drop off).take n) (fun j v hv=>by
   rw [bn,hg.cell]
   have hj:j<n:=by
    rcases Nat.lt_or_ge j n with h|h
    ·exact h
    ·rw [List.getElem?_eq_none (by omega)] at hv;cases hv
   rw [List.getElem?_take,if_pos hj,List.getElem?_drop] at hv
   exact hv)
 rw [hlen] at hl
 cases hq:P.info? ty with
 | none=>simp [hq] at hi
 | some i =>
  have hs:i.size=n:=by simpa [hq] using hi
  have hagg:(isAgg ty).run P w=.ok true w:=by
   unfold isAgg
   rw [Sem.run_bind,run_underlying hu w]
   cases d<;>simp_all
  simp [loadVar,Sem.run_bind,hagg,sizeOf,typeInfo,hq,hs,hl]
end
section
variable {P:Program} {ops:Array Oper} {rest:List Oper} {a:Act} {w w0:World} {Q:Exit→Act→World→Prop} {dst:Option Tmp} {typ:TypeId} {pos:String} {aft:Array Edge} {S:List Nat} {rows:List (Nat×List Value×TypeId)}
theorem az {ty:TypeId} {pl:List (Nat×Operand)} (l:List Value) (ps:List (Nat×Value)) (hps:(pl.map fun p=>(p.1,a.eval p.2))=ps) (hb:P.built ty ps=some l.toArray)
  (h:wpList P ops Q rest (a.put dst (.agg l.toArray)) w) :
  wpList P ops Q ({dst:=dst,op:=.build ty pl.toArray,type:=typ,pos:=pos,after:=aft,guard:=none}::rest) a w:=by
 refine wpList_plain rfl fun K hK=>?_
 have hh:=hK _ _ h
 have e:(pl.toArray.map fun (i,x)=>(i,a.eval x)).toList=pl.map fun p=>(p.1,a.eval p.2):=by simp
 refine wp_build ty pl.toArray rfl (by rw [e,hps,hb];rfl) ?_
 rw [e,hps,hb]
 exact hh
end
section
variable {P:Program} {ops:Array Oper} {rest:List Oper} {a:Act} {w w0:World} {Q:Act→Prop} {dst:Option Tmp} {typ:TypeId} {pos:String} {aft:Array Edge} {S:List Nat} {rows:List (Nat×List Value×TypeId)}
end
def Sl (w:World) (g:Nat) (v:Value) (cs:List Int):Prop :=
 ∃p cap,v=.slice p cs.length cap∧cs.length≤cap∧(0<cs.length→∃b off,p=some ⟨b,off,none⟩∧b≠g∧Seg w b off cs)
def slLen:Value→Nat
 | .slice _ n _=>n
 | _=>0
open Go Go.RowKit
def endsIn (R:Act→World→Prop):Exit→Act→World→Prop
 | .normal,a,w=>R a w
 | _,_,_=>False
theorem wp_ends {P:Program} {c:Code} {Q:Exit→Act→World→Prop} {a:Act} {w:World} (R:Act→World→Prop) (h:c.wp P (endsIn R) a w) (hq:∀a w,R a w→Q .normal a w):c.wp P Q a w :=
 Code.wp_mono (fun e a w q=>by
  cases e with
  | normal=>exact hq a w q
  | _=>exact q.elim) h
theorem am {P:Program} {c:Code} {Q:Exit→Act→World→Prop} {a:Act} {w:World} (h:c.wp P (endsIn (fun a w=>Q .normal a w)) a w):c.wp P Q a w:=wp_ends _ h (fun _ _ h=>h)
section
variable {P:Program} {md:Region.Mode} {ops:Array Oper} {R:Act→World→Prop} {T:World→Prop} {fuel:Nat} {listed:Array Bool} {a:Act} {w w0:World} {S:List Nat} {rows:List (Nat×List Value×TypeId)}
theorem anyH_take (i:Nat) {o:Oper} {v:Value} (hi:ops[i]?=some o) (hs:Region.noSelect ops=true) (hf:Region.free md ops listed i=true) (hr:(Region.ready md ops listed).contains i=true) (hg:o.guard=none)
  (hy:∀w,T w→(execOp a.eval o).run P w=.ok (.value v) w) (hT:T w) (h:wpAnyH P md ops (endsIn R) T fuel (listed.setIfInBounds i true) (a.put o.dst v) w):wpAnyH P md ops (endsIn R) T (fuel+1) listed a w :=
 wpAnyH_take hi hs hf hr (fun _ _ _ h=>h) (Or.inl ⟨by simp [Region.wanted,hg],hy⟩) hT h
theorem aT (i:Nat) {o:Oper} {v:Value} (hi:ops[i]?=some o) (hb:(Region.noSelect ops&&Region.free md ops listed i&&(Region.ready md ops listed).contains i)=true) (hg:o.guard=none)
  (hy:∀w,T w→(execOp a.eval o).run P w=.ok (.value v) w) (hT:T w) (h:wpAnyH P md ops (endsIn R) T fuel (listed.setIfInBounds i true) (a.put o.dst v) w):wpAnyH P md ops (endsIn R) T (fuel+1) listed a w:=by
 simp only [Bool.and_eq_true] at hb
 exact anyH_take i hi hb.1.1 hb.1.2 hb.2 hg hy hT h
theorem anyH_takeG (i:Nat) {o:Oper} {v:Value} (hi:ops[i]?=some o) (hs:Region.noSelect ops=true) (hf:Region.free md ops listed i=true) (hr:(Region.ready md ops listed).contains i=true) (hw:Region.wanted o (yielded ops a.tmps)=true)
  (hy:∀w,T w→(execOp a.eval o).run P w=.ok (.value v) w) (hT:T w) (h:wpAnyH P md ops (endsIn R) T fuel (listed.setIfInBounds i true) (a.put o.dst v) w):wpAnyH P md ops (endsIn R) T (fuel+1) listed a w :=
 wpAnyH_take hi hs hf hr (fun _ _ _ h=>h) (Or.inl ⟨hw,hy⟩) hT h
theorem aG (i:Nat) {o:Oper} {v:Value} (hi:ops[i]?=some o) (hb:(Region.noSelect ops&&Region.free md ops listed i&&(Region.ready md ops listed).contains i)=true) (hw:Region.wanted o (yielded ops a.tmps)=true)
  (hy:∀w,T w→(execOp a.eval o).run P w=.ok (.value v) w) (hT:T w) (h:wpAnyH P md ops (endsIn R) T fuel (listed.setIfInBounds i true) (a.put o.dst v) w):wpAnyH P md ops (endsIn R) T (fuel+1) listed a w:=by
 simp only [Bool.and_eq_true] at hb
 exact anyH_takeG i hi hb.1.1 hb.1.2 hb.2 hw hy hT h
theorem anyH_op (i:Nat) {o:Oper} (hi:ops[i]?=some o) (hg:o.guard=none)
  (h:∀K:Act→World→Prop,(∀a' w',T w'→wpAnyH P md ops (endsIn R) T fuel (listed.setIfInBounds i true) a' w'→K a' w')→wpList P ops (endsIn K) [o] a w) :
  wpOp P ops (endsIn R) i (fun a' w'=>T w'∧wpAnyH P md ops (endsIn R) T fuel (listed.setIfInBounds i true) a' w') a w:=by
 have hh:=h (fun a' w'=>T w'∧wpAnyH P md ops (endsIn R) T fuel (listed.setIfInBounds i true) a' w') (fun _ _ h1 h2=>⟨h1,h2⟩)
 unfold wpOp
 simp only [hi]
 have hw:Region.wanted o (yielded ops a.tmps)=true:=by simp [Region.wanted,hg]
 unfold wpList at hh
 rw [if_pos hw] at hh
 rw [if_pos hw]
 exact hh
theorem aP (i:Nat) {o:Oper} (hr:Region.ready md ops listed=[i]) (hi:ops[i]?=some o) (hg:o.guard=none)
  (h:∀K:Act→World→Prop,(∀a' w',T w'→wpAnyH P md ops (endsIn R) T fuel (listed.setIfInBounds i true) a' w'→K a' w')→wpList P ops (endsIn K) [o] a w):wpAnyH P md ops (endsIn R) T (fuel+1) listed a w :=
 wpAnyH_all hr (by simp) (fun j hj=>by
  simp only [List.mem_cons,List.not_mem_nil,or_false] at hj
  subst hj
  exact anyH_op j hi hg h)
end
section
variable {P:Program} {ops:Array Oper} {rest:List Oper} {a:Act} {w:World} {dst:Option Tmp} {typ:TypeId} {pos:String} {aft:Array Edge}
theorem run_ldr {ty:TypeId} {g:Nat} {l:List Value} {t:TypeId} (j:Nat) (v:Value) (hr:Row w g l t) (ha:∀w,(isAgg ty).run P w=.ok false w) (hv:l[j]?=some v):(loadVar ty ⟨g,j,none⟩).run P w=.ok v w:=by
 have hc:w.cell? ⟨g,j,none⟩=some v:=by rw [hr.cell,hv]
 simp [loadVar,ha,go_sem,hc]
end
theorem Mem.allocO {w0 w:World} {S:List Nat} {rows:List (Nat×List Value×TypeId)} (hm:Mem w0 S w rows) (o:Obj):Mem w0 S (w.alloc o) rows :=
 hm.call ⟨rfl,rfl,rfl,by simp,fun _ hk=>Below.heap_alloc _ _ _ hk⟩
section
variable {P:Program} {a:Act} {w:World} {dst:Option Tmp} {typ:TypeId} {pos:String} {aft:Array Edge} {gd:Option (Nat×Bool)}
theorem al {ty:TypeId} {x:Operand} {g:Nat} {l:List Value} {t:TypeId} (off:Nat) (sub:List Value) (hr:Row w g l t) (hx:a.eval x=.pointer (some ⟨g,off,none⟩))
  (d:TypeDesc) (hu:P.underlying ty=some d) (hd:(match d with | .struct _ | .array _ _=>true|_=>false)=true) (n:Nat) (hs:(P.info? ty).map (·.size)=some n) (hn:off+n≤l.length) (hsub:(l.drop off).take n=sub) :
  (execOp a.eval {dst:=dst,op:=.load ty x,type:=typ,pos:=pos,after:=aft,guard:=gd}).run P w=.ok (.value (.agg sub.toArray)) w:=by
 unfold execOp
 simp only [hx,Instr.loadAt,Instr.sureAddr,Sem.run_bind,Sem.run_pure,Result.andThen_ok,ez w g off n ty t l d hr hu hd hs hn,hsub]
theorem ad {ty:TypeId} {x:Operand} {g:Nat} {l:List Value} {t:TypeId} (j:Nat) (v:Value) (hr:Row w g l t) (hx:a.eval x=.pointer (some ⟨g,j,none⟩)) (ha:∀w,(isAgg ty).run P w=.ok false w) (hv:l[j]?=some v) :
  (execOp a.eval {dst:=dst,op:=.load ty x,type:=typ,pos:=pos,after:=aft,guard:=gd}).run P w=.ok (.value v) w:=by
 unfold execOp
 simp only [hx,Instr.loadAt,Instr.sureAddr,Sem.run_bind,Sem.run_pure,Result.andThen_ok,run_ldr j v hr ha hv]
theorem exec_eqs {t:TypeId} {x y:Operand} {rt:TypeId} (s s':ByteArray) (hx:a.eval x=.string s) (hy:a.eval y=.string s') :
  (execOp a.eval {dst:=dst,op:=.binOp .eql t x y rt,type:=typ,pos:=pos,after:=aft,guard:=gd}).run P w=.ok (.value (.bool (s==s'))) w:=by
 unfold execOp
 simp only [hx,hy]
 simp [eqGuard,binOp,Op.stringOp]
 exact (beq_toListBytes s s').symm
theorem aM {t:TypeId} {x y:Operand} {rt:TypeId} (s s':ByteArray) (v:Bool) (hx:a.eval x=.string s) (hy:a.eval y=.string s') (hv:(s==s')=v) :
  (execOp a.eval {dst:=dst,op:=.binOp .eql t x y rt,type:=typ,pos:=pos,after:=aft,guard:=gd}).run P w=.ok (.value (.bool v)) w:=by
 subst hv
 exact exec_eqs s s' hx hy
end
open Go Go.RowKit
section
variable {P:Program} {ops:Array Oper} {rest:List Oper} {a:Act} {w:World} {Q:Exit→Act→World→Prop} {dst:Option Tmp} {typ:TypeId} {pos:String} {aft:Array Edge}
end
open Go Go.RowKit
section
variable {P:Program} {ops:Array Oper} {rest:List Oper} {a:Act} {w:World} {Q:Exit→Act→World→Prop}
theorem ax {typ:TypeId} {pos:String} {aft:Array Edge} (dst:Option Tmp) (op:Op) (gd:Option (Nat×Bool)) (h:wpList P ops Q ({dst:=dst,op:=op,type:=typ,pos:=pos,after:=aft,guard:=gd}::rest) a w) :
  wpList P ops Q ({dst:=dst,op:=op,type:=typ,pos:=pos,after:=aft,guard:=gd}::rest) a w:=h
theorem aa {o:Oper} (v:Value) (hw:Region.wanted o (yielded ops a.tmps)=true) (hr:(execOp a.eval o).run P w=.ok (.value v) w) (h:wpList P ops Q rest (a.put o.dst v) w):wpList P ops Q (o::rest) a w:=by
 refine wpList_step fun K hK=>?_
 rw [if_pos hw]
 unfold Oper.wp
 rw [hr]
 exact hK _ _ h
end
open Go Go.RowKit
theorem an {w w':World} (h:Below w.heap.size w w'):w.grownBy w' none:=⟨h.os,h.tape,h.output,h.size,fun k hk _=>h.block k hk⟩
theorem cY {w w':World} {g:Nat} (h:Upd g w w'):w.grownBy w' (some g):=⟨h.os,h.tape,h.output,h.size,fun k hk hn=>h.block k hk (fun e=>hn (by rw [e]))⟩
def OwnB (e:TypeId) (w:World) (base:Nat) (v:Value) (zs:List Int):Prop:=w.ownsRow base e 1 v zs.length (u8s zs)
section
variable {e:TypeId} {w w' w0:World} {base:Nat} {v:Value} {zs:List Int} {S:List Nat} {rows:List (Nat×List Value×TypeId)}
theorem OwnB.nil (e:TypeId) (w:World) (base:Nat):OwnB e w base (.slice none 0 0) []:=World.ownsRow_nil w base e 1
theorem OwnB.below (h:OwnB e w base v zs) (hb:Below w.heap.size w w'):OwnB e w' base v zs:=World.ownsRow.kept h (an hb) (by cases h':v.ownBlock<;>simp)
theorem OwnB.alloc (h:OwnB e w base v zs) (o:Obj):OwnB e (w.alloc o) base v zs:=World.ownsRow.alloc h o
theorem OwnB.apart (h:OwnB e w base v zs) {g:Nat} {l:List Value} {t:TypeId} (hr:Row w g l t) (ht:t≠e):v.ownBlock≠some g:=by
 obtain ⟨_,h2⟩:=h
 rcases h2 with ⟨rfl,_⟩|⟨g',cap,cur,rfl,_,hh,_⟩
 ·simp [Value.ownBlock]
 ·intro he
  have hg:g'=g:=by simpa [Value.ownBlock] using he
  subst hg
  rw [hr] at hh
  simp only [Option.some.injEq,Obj.cells.injEq] at hh
  exact ht hh.2.1
theorem OwnB.upd (h:OwnB e w base v zs) {g:Nat} {l:List Value} {t:TypeId} (hr:Row w g l t) (ht:t≠e) (hu:Upd g w w'):OwnB e w' base v zs :=
 World.ownsRow.kept h (cY hu) (Or.inr (h.apart hr ht))
theorem OwnB.old (h:OwnB e w base v zs):∃p cap,v=.slice p zs.length cap∧zs.length≤cap∧(0<zs.length→∃b off,p=some ⟨b,off,none⟩∧Seg w b off zs):=by
 have h0:=h
 obtain ⟨_,h2⟩:=h
 rcases h2 with ⟨rfl,hn⟩|⟨g,cap,cur,rfl,hb,hh,hn,_,_,_⟩
 ·exact ⟨none,0,by rw [hn],by omega,fun h=>absurd h (by omega)⟩
 ·refine ⟨_,cap,rfl,hn,fun _=>⟨g,0,rfl,fun j hj=>?_⟩⟩
  have:=World.ownsRow.cells h0 rfl j (.int .u8 (zs.getD j 0)) (u8s_get zs j hj)
  rw [bn] at this
  exact this
theorem Mem.grown (hm:Mem w0 S w rows) (h:OwnB e w w0.heap.size v zs) (hty:∀r∈rows,r.2.2≠e) (hg:w.grownBy w' v.ownBlock):Mem w0 S w' rows:=by
 have hl:=World.ownsRow.lt h
 refine ⟨hg.os.trans hm.os,hg.tape.trans hm.tape,hg.output.trans hm.output,Nat.le_trans hm.size hg.size,fun k hk hn=>?_,fun r hr=>?_,hm.nodup,hm.fresh⟩
 ·refine (hg.block k (Nat.lt_of_lt_of_le hk hm.size) (fun he=>?_)).trans (hm.block k hk hn)
  have:=(hl k he.symm).1
  omega
 ·have hrow:=hm.row r hr
  unfold Row
  rw [hg.block r.1 hrow.lt (fun he=>h.apart hrow (hty r hr) he.symm)]
  exact hrow
end
section
variable {P:Program} {ops:Array Oper} {rest:List Oper} {a:Act} {w w0:World} {Q:Exit→Act→World→Prop} {dst:Option Tmp} {typ:TypeId} {pos:String} {aft:Array Edge} {gd:Option (Nat×Bool)} {S:List Nat} {rows:List (Nat×List Value×TypeId)}
end
open Go Go.RowKit
section
variable {P:Program} {ops:Array Oper} {rest:List Oper} {a:Act} {w w0:World} {Q:Exit→Act→World→Prop} {dst:Option Tmp} {typ:TypeId} {pos:String} {aft:Array Edge} {gd:Option (Nat×Bool)} {S:List Nat} {rows:List (Nat×List Value×TypeId)}
end
open Go Go.RowKit
def Bytes (l:List Int):Prop:=∀x∈l,0≤x∧x<256
theorem Bytes.get {l:List Int} (h:Bytes l) (j:Nat):0≤l.getD j 0∧l.getD j 0<256:=by
 rcases Nat.lt_or_ge j l.length with hj|hj
 ·have:=h l[j] (List.getElem_mem hj)
  simpa [hj] using this
 ·simp [List.getElem?_eq_none hj]
theorem Bytes.append {l l':List Int} (h:Bytes l) (h':Bytes l'):Bytes (l++l'):=by
 intro x hx
 rcases List.mem_append.1 hx with hx|hx
 ·exact h x hx
 ·exact h' x hx
theorem Bytes.take {l:List Int} (h:Bytes l) (n:Nat):Bytes (l.take n):=fun x hx=>h x (List.mem_of_mem_take hx)
theorem Bytes.drop {l:List Int} (h:Bytes l) (n:Nat):Bytes (l.drop n):=fun x hx=>h x (List.mem_of_mem_drop hx)
theorem Bytes.splice {l cs:List Int} (h:Bytes l) (hc:Bytes cs) (off:Nat):Bytes (Go.splice l off cs) :=
 (h.take _).append (hc.append (h.drop _))
theorem Bytes.set {l:List Int} (h:Bytes l) (i:Nat) (x:Int) (hx:0≤x∧x<256):Bytes (l.set i x):=by
 intro y hy
 rcases List.mem_or_eq_of_mem_set hy with hy|rfl
 ·exact h y hy
 ·exact hx
def firstW:List Int:=[1779033703,3144134277,1013904242,2773480762,1359893119,2600822924,528734635,1541459225]
def absorb (m:List Int):Nat→List Int
 | 0=>firstW
 | k+1=>mix (absorb m k) ((m.drop (64 * k)).take 64)
def wsOf (m:List Int):List Int:=absorb m (m.length / 64)
def tailOf (m:List Int):List Int:=m.drop (64 * (m.length / 64))
def restOf (m:List Int):List Int:=tailOf m++List.replicate (64 - m.length % 64) 0
def hrow (ws rest:List Int) (n:Int):List Value:=u32s ws++(u8s rest++[.int .i64 n])
def be8 (n:Int):List Int :=
 [n / 256 / 256 / 256 / 256 / 256 / 256 / 256 % 256,n / 256 / 256 / 256 / 256 / 256 / 256 % 256,n / 256 / 256 / 256 / 256 / 256 % 256,n / 256 / 256 / 256 / 256 % 256,n / 256 / 256 / 256 % 256,n / 256 / 256 % 256,n / 256 % 256,n % 256]
def fin (ws rest:List Int) (n:Nat):List Int :=
 if 56≤n % 64 then mix (mix ws (rest.set (n % 64) 128)) (splice (List.replicate 64 0) 56 (be8 (n * 8)))
 else mix ws (splice (rest.set (n % 64) 128) 56 (be8 (n * 8)))
def asB (ws:List Int):List Int:=ws.flatMap four
def asRow (ws:List Int) (k:Nat):List Int:=asB (ws.take k)++List.replicate (32 - 4 * k) 0
def shaOf (m:List Int):List Int:=asB (fin (wsOf m) (restOf m) m.length)
def hexDigit (x:Int):Int:=[48,49,50,51,52,53,54,55,56,57,97,98,99,100,101,102].getD x.toNat 0
def hexOf (l:List Int):List Int:=l.flatMap fun c=>[hexDigit (c / 16),hexDigit (c % 16)]
open Go Go.RowKit
def strOf (ns:List Int):ByteArray:=⟨(ns.map fun n=>UInt8.ofNat n.toNat).toArray⟩
section
variable {P:Program} {ops:Array Oper} {rest:List Oper} {a:Act} {w w0:World} {Q:Exit→Act→World→Prop} {dst:Option Tmp} {typ:TypeId} {pos:String} {aft:Array Edge} {S:List Nat} {rows:List (Nat×List Value×TypeId)}
theorem run_ixs (w:World) {ty:TypeId} (hu:P.underlying ty=some .string) (s:ByteArray) {k:IntKind} {i:Int} (j:Nat) (b:UInt8) (hi:i=(j:Int)) (hb:s.data[j]?=some b):(Instr.index ty (.string s) (.int k i)).run P w=.ok (.int .u8 b.toNat) w:=by
 subst hi
 have hj:j<s.size:=by
  rcases Nat.lt_or_ge j s.data.size with h|h
  ·exact h
  ·rw [Array.getElem?_eq_none h] at hb;cases hb
 have hg:s[j]=b:=by
  have:s.data[j]?=some s.data[j]:=by simp
  rw [this] at hb
  exact Option.some.inj hb
 rw [run_index_string w ty s k (j:Int) hu,dif_pos ⟨by omega,by omega⟩]
 simp [hg]
theorem bh {gd:Option (Nat×Bool)} {ty:TypeId} {x ix:Operand} (hu:P.underlying ty=some .string) (s:ByteArray) {k:IntKind} {i:Int} (j:Nat) (v:Int) (hx:a.eval x=.string s) (hix:a.eval ix=.int k i) (hi:i=(j:Int)) (hb:∃b,s.data[j]?=some b∧(b.toNat:Int)=v) :
  (execOp a.eval {dst:=dst,op:=.index ty x ix,type:=typ,pos:=pos,after:=aft,guard:=gd}).run P w=.ok (.value (.int .u8 v)) w:=by
 obtain ⟨b,hb,rfl⟩:=hb
 unfold execOp
 simp only [hx,hix,run_ixs w hu s j b hi hb,Sem.run_bind,Sem.run_pure,Result.andThen_ok]
theorem ck {ty:TypeId} {x ix:Operand} (hu:P.underlying ty=some .string) (s:ByteArray) {k:IntKind} {i:Int} (j:Nat) (v:Int) (hx:a.eval x=.string s) (hix:a.eval ix=.int k i) (hi:i=(j:Int)) (hb:∃b,s.data[j]?=some b∧(b.toNat:Int)=v)
  (h:wpList P ops Q rest (a.put dst (.int .u8 v)) w) :
  wpList P ops Q ({dst:=dst,op:=.index ty x ix,type:=typ,pos:=pos,after:=aft,guard:=none}::rest) a w:=by
 obtain ⟨b,hb,rfl⟩:=hb
 refine wpList_plain rfl fun K hK=>?_
 have hh:=hK _ _ h
 unfold Oper.wp execOp
 simp only [hx,hix,run_ixs w hu s j b hi hb,Sem.run_bind,Sem.run_pure,Result.andThen_ok]
 exact hh
end
def digs:ByteArray:={data:=#[48,49,50,51,52,53,54,55,56,57,97,98,99,100,101,102]}
def hexRow (l:List Int) (k:Nat):List Int:=hexOf (l.take k)++List.replicate (64 - 2 * k) 0
open Go Go.RowKit
def SlOld (w:World) (v:Value) (cs:List Int):Prop :=
 ∃p cap,v=.slice p cs.length cap∧cs.length≤cap∧(0<cs.length→∃b off,p=some ⟨b,off,none⟩∧Seg w b off cs)
theorem SlOld.mem {w w':World} {v:Value} {cs:List Int} {rows:List (Nat×List Value×TypeId)} (h:SlOld w v cs) (hm:Mem w [] w' rows):SlOld w' v cs:=by
 obtain ⟨p,cap,hv,hc,hs⟩:=h
 refine ⟨p,cap,hv,hc,fun h0=>?_⟩
 obtain ⟨b,off,hp,hseg⟩:=hs h0
 exact ⟨b,off,hp,hseg.mem hm (by simp)⟩
theorem SlOld.len {w:World} {v:Value} {cs:List Int} (h:SlOld w v cs):∃p cap,v=.slice p cs.length cap∧cs.length≤cap:=by
 obtain ⟨p,cap,h1,h2,_⟩:=h
 exact ⟨p,cap,h1,h2⟩
theorem SlOld.below {w w':World} {v:Value} {cs:List Int} (h:SlOld w v cs) (hb:Below w.heap.size w w'):SlOld w' v cs:=by
 obtain ⟨p,cap,hv,hc,hs⟩:=h
 refine ⟨p,cap,hv,hc,fun h0=>?_⟩
 obtain ⟨b,off,hp,hseg⟩:=hs h0
 exact ⟨b,off,hp,hseg.below hb⟩
section
variable {P:Program} {ops:Array Oper} {rest:List Oper} {a:Act} {w w0:World} {Q:Exit→Act→World→Prop} {dst:Option Tmp} {typ:TypeId} {pos:String} {aft:Array Edge} {gd:Option (Nat×Bool)} {S:List Nat} {rows:List (Nat×List Value×TypeId)}
end
theorem beq_self_str (s:ByteArray):(s==s)=true:=by
 rw [beq_toListBytes]
 exact beq_self_eq_true _
theorem bO (x:Int) (h0:0≤x) (h1:x<4611686018427387904):IntKind.i64.wrap x=x:=by
 simp [IntKind.wrap,IntKind.bits,IntKind.signed]
 split<;>omega
theorem OwnB.row {e:TypeId} {w:World} {base:Nat} {v:Value} {zs:List Int} (h:OwnB e w base v zs) (h0:0<zs.length):∃g cap l,v=.slice (some ⟨g,0,none⟩) zs.length cap∧base≤g∧Row w g (u8s zs++l) e∧zs.length≤cap:=by
 obtain ⟨_,h2⟩:=h
 rcases h2 with ⟨_,hn⟩|⟨g,cap,cur,rfl,hb,hh,hn,_,_,ht⟩
 ·omega
 ·refine ⟨g,cap,cur.toList.drop zs.length,rfl,hb,?_,hn⟩
  unfold Row
  rw [hh,←ht,Nat.mul_one,List.take_append_drop]
open Go Go.RowKit
section
variable {P:Program} {ops:Array Oper} {Q:Exit→Act→World→Prop} {md:Region.Mode} {c:Nat} {S S2:World→Prop}
def wpAnyC (P:Program) (md:Region.Mode) (ops:Array Oper) (Q:Exit→Act→World→Prop) (c:Nat) (S S2:World→Prop):Nat→Array Bool→Act→World→Prop
 | 0,listed,a,w=>Region.ready md ops listed=[]∧Q .normal a w
 | fuel+1,listed,a,w =>
  (Region.ready md ops listed=[]→Q .normal a w) ∧
  ∀i∈Region.ready md ops listed,wpOp P ops Q i (fun a' w'=>if i=c then S2 w'∧wpAnyH P md ops Q S2 fuel (listed.setIfInBounds i true) a' w' else S w'∧wpAnyC P md ops Q c S S2 fuel (listed.setIfInBounds i true) a' w') a w
theorem fh:∀(fuel:Nat) (listed:Array Bool) (a:Act) (w:World),wpAnyC P md ops Q c S S2 fuel listed a w→wpAny P md ops Q fuel listed a w
 | 0,_,_,_,h=>h
 | fuel+1,_,_,_,h=>⟨h.1,fun i hi=>wpOp_mono (fun a' w' h'=>by
   by_cases hic:i=c
   ·rw [if_pos hic] at h'
    exact wpAny_of_held fuel _ a' w' h'.2
   ·rw [if_neg hic] at h'
    exact fh fuel _ a' w' h'.2) (h.2 i hi)⟩
theorem wpAnyC_first {i:Nat} {oi oc:Oper} {v:Value} (hi:ops[i]?=some oi) (hsel:∀(j:Nat) (o:Oper) cs b,ops[j]?=some o→o.op≠.select cs b)
  (hQ:∀c a w,Q (.panic c) (a.put oi.dst v) w→Q (.panic c) a w) (hoc:ops[c]?=some oc) (hwait:∃e∈oc.after,Region.binds md e=true∧e.on=i) :
  ∀(fuel:Nat) (listed:Array Bool) (a:Act) (w:World),
   (∀j oj,ops[j]?=some oj→j≠i→listed.getD j true=false→(∀e∈oj.after,Region.binds md e=true→e.on≠i)→oi.apart ops oj=true) →
   i∈Region.ready md ops listed→YieldsIf P ops S oi v a→S w→i≠c →
   wpAnyC P md ops Q c S S2 fuel (listed.setIfInBounds i true) (a.put oi.dst v) w→wpAnyC P md ops Q c S S2 (fuel+1) listed a w:=by
 intro fuel
 induction fuel with
 | zero =>
  intro listed a w _ hr hy hS hic H
  refine ⟨fun h=>(by rw [h] at hr;cases hr),fun j hj=>?_⟩
  by_cases hji:j=i
  ·subst hji;exact hy.wpOp hi hS (by rw [if_neg hic];exact ⟨hS,H⟩)
  ·have:=ready_mono hj hji
   rw [H.1] at this
   cases this
 | succ fuel ih =>
  intro listed a w hfree hr hy hS hic H
  refine ⟨fun h=>(by rw [h] at hr;cases hr),fun j hj=>?_⟩
  by_cases hji:j=i
  ·subst hji;exact hy.wpOp hi hS (by rw [if_neg hic];exact ⟨hS,H⟩)
  ·have h1:=H.2 j (ready_mono hj hji)
   obtain ⟨hjun,oj,hoj,hall⟩:=mem_ready.1 hj
   have hnot:∀e∈oj.after,Region.binds md e=true→e.on≠i:=fun e he hb heq=>by
    have h1:=hall e he hb
    have h0:=(mem_ready.1 hr).1
    rw [heq] at h1
    rcases Nat.lt_or_ge i listed.size with h'|h'
    ·simp [h'] at h0 h1;rw [h0] at h1;cases h1
    ·simp [Array.getElem?_eq_none h'] at h1
   have hjc:j≠c:=by
    rintro rfl
    obtain ⟨e,he,hb,hon⟩:=hwait
    have:oj=oc:=Option.some.inj (hoj.symm.trans hoc)
    subst this
    exact hnot e he hb hon
   simp only [if_neg hjc] at h1 ⊢
   have h2:=wpOp_putIf hoj (hfree j oj hoj hji hjun hnot) (fun cs b=>hsel i oi cs b hi) (fun cs b=>hsel j oj cs b hoj) hQ hy h1
   have hfree':∀k ok,ops[k]?=some ok→k≠i→(listed.setIfInBounds j true).getD k true=false →
     (∀e∈ok.after,Region.binds md e=true→e.on≠i)→oi.apart ops ok=true:=fun k ok hk hki hun hno=>by
    refine hfree k ok hk hki ?_ hno
    by_cases hjk:j=k
    ·subst hjk;exact hjun
    ·rw [getD_set_ne true hjk] at hun;exact hun
   refine wpOp_mono (fun a' w' h3=>⟨h3.2.1,ih (listed.setIfInBounds j true) a' w' hfree' (ready_mono hr (Ne.symm hji)) h3.1 h3.2.1 hic ?_⟩) h2
   rw [Array.setIfInBounds_comm _ _ hji]
   exact h3.2.2
theorem wpAnyC_pure {i:Nat} {oi:Oper} {v:Value} (hi:ops[i]?=some oi) (hsel:∀(j:Nat) (o:Oper) cs b,ops[j]?=some o→o.op≠.select cs b)
  (hQ:∀c a w,Q (.panic c) (a.put oi.dst v) w→Q (.panic c) a w) :
  ∀(fuel:Nat) (listed:Array Bool) (a:Act) (w:World),
   (∀j oj,ops[j]?=some oj→j≠i→listed.getD j true=false→(∀e∈oj.after,Region.binds md e=true→e.on≠i)→oi.apart ops oj=true) →
   i∈Region.ready md ops listed→YieldsIf P ops (fun _=>True) oi v a→S w→i≠c →
   wpAnyC P md ops Q c S S2 fuel (listed.setIfInBounds i true) (a.put oi.dst v) w→wpAnyC P md ops Q c S S2 (fuel+1) listed a w:=by
 intro fuel
 induction fuel with
 | zero =>
  intro listed a w _ hr hy hS hic H
  refine ⟨fun h=>(by rw [h] at hr;cases hr),fun j hj=>?_⟩
  by_cases hji:j=i
  ·subst hji;exact hy.wpOp hi trivial (by rw [if_neg hic];exact ⟨hS,H⟩)
  ·have:=ready_mono hj hji
   rw [H.1] at this
   cases this
 | succ fuel ih =>
  intro listed a w hfree hr hy hS hic H
  refine ⟨fun h=>(by rw [h] at hr;cases hr),fun j hj=>?_⟩
  by_cases hji:j=i
  ·subst hji;exact hy.wpOp hi trivial (by rw [if_neg hic];exact ⟨hS,H⟩)
  ·have h1:=H.2 j (ready_mono hj hji)
   obtain ⟨hjun,oj,hoj,hall⟩:=mem_ready.1 hj
   have hnot:∀e∈oj.after,Region.binds md e=true→e.on≠i:=fun e he hb heq=>by
    have h1:=hall e he hb
    have h0:=(mem_ready.1 hr).1
    rw [heq] at h1
    rcases Nat.lt_or_ge i listed.size with h'|h'
    ·simp [h'] at h0 h1;rw [h0] at h1;cases h1
    ·simp [Array.getElem?_eq_none h'] at h1
   have h2:=wpOp_putIf hoj (hfree j oj hoj hji hjun hnot) (fun cs b=>hsel i oi cs b hi) (fun cs b=>hsel j oj cs b hoj) hQ hy h1
   have hfree':∀k ok,ops[k]?=some ok→k≠i→(listed.setIfInBounds j true).getD k true=false →
     (∀e∈ok.after,Region.binds md e=true→e.on≠i)→oi.apart ops ok=true:=fun k ok hk hki hun hno=>by
    refine hfree k ok hk hki ?_ hno
    by_cases hjk:j=k
    ·subst hjk;exact hjun
    ·rw [getD_set_ne true hjk] at hun;exact hun
   refine wpOp_mono (fun a' w' h3=>?_) h2
   obtain ⟨hy',h3⟩:=h3
   by_cases hjc:j=c
   ·rw [if_pos hjc] at h3 ⊢
    refine ⟨h3.1,wpAnyH_first hi hsel hQ fuel (listed.setIfInBounds j true) a' w' hfree' (ready_mono hr (Ne.symm hji)) (hy'.imp (fun ⟨hw,hv⟩=>⟨hw,fun w _=>hv w trivial⟩) id) h3.1 ?_⟩
    rw [Array.setIfInBounds_comm _ _ hji]
    exact h3.2
   ·rw [if_neg hjc] at h3 ⊢
    refine ⟨h3.1,ih (listed.setIfInBounds j true) a' w' hfree' (ready_mono hr (Ne.symm hji)) hy' h3.1 hic ?_⟩
    rw [Array.setIfInBounds_comm _ _ hji]
    exact h3.2
end
section
variable {P:Program} {md:Region.Mode} {ops:Array Oper} {R:Act→World→Prop} {T T2:World→Prop} {c fuel:Nat} {listed:Array Bool} {a:Act} {w w0:World} {S:List Nat} {rows:List (Nat×List Value×TypeId)}
theorem cT {id:Nat} {l:List Oper} (c:Nat) (hmix:P.follows .mixedOrders=true) (hm:Mem w0 S w rows)
  (h:∀w',Mem w0 S w' rows→wpAnyC P .any l.toArray (endsIn R) c T T2 l.toArray.size (Array.replicate l.toArray.size false) a w'):(Code.region id l.toArray true).wp P (endsIn R) a w :=
 wp_region_any hmix (fh _ _ _ _ (h _ hm.drew))
theorem ba (i:Nat) {o oc:Oper} {v:Value} (hi:ops[i]?=some o) (hs:Region.noSelect ops=true) (hf:Region.free md ops listed i=true) (hr:(Region.ready md ops listed).contains i=true) (hg:o.guard=none) (hoc:ops[c]?=some oc) (hwait:(oc.after.any fun e=>Region.binds md e&&e.on==i)=true) (hic:decide (i=c)=false)
  (hy:∀w,T w→(execOp a.eval o).run P w=.ok (.value v) w) (hT:T w) (h:wpAnyC P md ops (endsIn R) c T T2 fuel (listed.setIfInBounds i true) (a.put o.dst v) w):wpAnyC P md ops (endsIn R) c T T2 (fuel+1) listed a w :=
 wpAnyC_first hi (Region.noSelect_spec hs) (fun _ _ _ h=>h) hoc (by
  obtain ⟨e,he,hb⟩:=Array.any_eq_true'.1 hwait
  simp only [Bool.and_eq_true,beq_iff_eq] at hb
  exact ⟨e,he,hb.1,hb.2⟩) fuel listed a w (Region.free_spec hi hf) (by simpa using hr) (Or.inl ⟨by simp [Region.wanted,hg],hy⟩) hT (of_decide_eq_false hic) h
theorem ai (i:Nat) {o:Oper} {v:Value} (hi:ops[i]?=some o) (hs:Region.noSelect ops=true) (hf:Region.free md ops listed i=true) (hr:(Region.ready md ops listed).contains i=true) (hg:o.guard=none) (hic:decide (i=c)=false)
  (hy:∀w,True→(execOp a.eval o).run P w=.ok (.value v) w) (hT:T w) (h:wpAnyC P md ops (endsIn R) c T T2 fuel (listed.setIfInBounds i true) (a.put o.dst v) w):wpAnyC P md ops (endsIn R) c T T2 (fuel+1) listed a w :=
 wpAnyC_pure hi (Region.noSelect_spec hs) (fun _ _ _ h=>h) fuel listed a w (Region.free_spec hi hf) (by simpa using hr) (Or.inl ⟨by simp [Region.wanted,hg],hy⟩) hT (of_decide_eq_false hic) h
theorem dt {o:Oper} (hr:Region.ready md ops listed=[c]) (hi:ops[c]?=some o) (hg:o.guard=none)
  (h:∀K:Act→World→Prop,(∀a' w',T2 w'→wpAnyH P md ops (endsIn R) T2 fuel (listed.setIfInBounds c true) a' w'→K a' w')→wpList P ops (endsIn K) [o] a w):wpAnyC P md ops (endsIn R) c T T2 (fuel+1) listed a w:=by
 refine ⟨fun h0=>absurd (hr▸h0) (by simp),fun i hi'=>?_⟩
 rw [hr] at hi'
 obtain rfl:i=c:=by simpa using hi'
 simp only [if_true]
 exact anyH_op i hi hg h
end
open Go Go.RowKit
section
variable {P:Program} {md:Region.Mode} {ops:Array Oper} {R:Act→World→Prop} {T:World→Prop} {fuel:Nat} {listed:Array Bool} {a:Act} {w:World}
theorem di (i:Nat) {o:Oper} (hi:ops[i]?=some o) (hw:Region.wanted o (yielded ops a.tmps)=true)
  (h:∀K:Act→World→Prop,(∀a' w',T w'→wpAnyH P md ops (endsIn R) T fuel (listed.setIfInBounds i true) a' w'→K a' w')→wpList P ops (endsIn K) [o] a w) :
  wpOp P ops (endsIn R) i (fun a' w'=>T w'∧wpAnyH P md ops (endsIn R) T fuel (listed.setIfInBounds i true) a' w') a w:=by
 have hh:=h (fun a' w'=>T w'∧wpAnyH P md ops (endsIn R) T fuel (listed.setIfInBounds i true) a' w') (fun _ _ h1 h2=>⟨h1,h2⟩)
 unfold wpOp
 simp only [hi]
 unfold wpList at hh
 rw [if_pos hw] at hh
 rw [if_pos hw]
 exact hh
theorem aO (i:Nat) {o:Oper} (hr:Region.ready md ops listed=[i]) (hi:ops[i]?=some o) (hw:Region.wanted o (yielded ops a.tmps)=true)
  (h:∀K:Act→World→Prop,(∀a' w',T w'→wpAnyH P md ops (endsIn R) T fuel (listed.setIfInBounds i true) a' w'→K a' w')→wpList P ops (endsIn K) [o] a w):wpAnyH P md ops (endsIn R) T (fuel+1) listed a w :=
 wpAnyH_all hr (by simp) (fun j hj=>by
  simp only [List.mem_cons,List.not_mem_nil,or_false] at hj
  subst hj
  exact di j hi hw h)
theorem aJ (i:Nat) {o:Oper} (hi:ops[i]?=some o) (hs:Region.noSelect ops=true) (hf:Region.free md ops listed i=true) (hr:(Region.ready md ops listed).contains i=true) (hw:Region.wanted o (yielded ops a.tmps)=false)
  (hT:T w) (h:wpAnyH P md ops (endsIn R) T fuel (listed.setIfInBounds i true) (a.put o.dst undef) w):wpAnyH P md ops (endsIn R) T (fuel+1) listed a w :=
 wpAnyH_take hi hs hf hr (fun _ _ _ h=>h) (Or.inr ⟨hw,rfl⟩) hT h
end
def cutHi (p:Option Addr) (cap:Nat):Option Addr:=if cap=0 then p else p.map (·.add 0)
def cutLo (p:Option Addr) (cap l:Nat):Option Addr:=if cap=l then p else p.map (·.add l)
section
variable {P:Program} {a:Act} {w:World} {dst:Option Tmp} {typ:TypeId} {pos:String} {aft:Array Edge} {gd:Option (Nat×Bool)}
theorem exec_sHi {ty:TypeId} {x hi:Operand} {elem:TypeId} (hu:P.underlying ty=some (.slice elem)) (hs:(P.info? elem).map (·.size)=some 1) {p:Option Addr} {len cap:Nat} (m:Nat) {ih:Int} (hm:m≤cap) (hx:a.eval x=.slice p len cap) (hhi:a.eval hi=.int .i64 ih) (hih:ih=(m:Int)) :
  (execOp a.eval {dst:=dst,op:=.slice ty x none (some hi) none,type:=typ,pos:=pos,after:=aft,guard:=gd}).run P w=.ok (.value (.slice (cutHi p cap) m cap)) w:=by
 subst hih
 cases hq:P.info? elem with
 | none=>simp [hq] at hs
 | some q =>
  have hs1:q.size=1:=by simpa [hq] using hs
  have hsz:(sizeOf elem).run P w=.ok 1 w:=by simp [sizeOf,typeInfo,hq,hs1]
  have bnd:∀code,(Instr.sliceBound (.int .i64 (m:Int)) cap code).run P w=.ok m w:=by
   intro code
   rw [run_sliceBound (P:=P) w .i64 (m:Int) cap code (by omega) (by omega)]
   simp
  have hb:(Instr.sliceBounds true len cap none (some (.int .i64 (m:Int))) none).run P w=.ok (0,m,cap) w:=by
   simp [Instr.sliceBounds,bnd]
  have hr:(Instr.sliceAt ty (.slice p len cap) none (some (.int .i64 (m:Int))) none).run P w=.ok (.slice (cutHi p cap) m cap) w:=by
   simp [Instr.sliceAt,Instr.slice,run_underlying hu,hb,hsz,cutHi]
  unfold execOp
  simp only [hx,hhi,Option.map_some,Option.map_none,hr,Sem.run_bind,Sem.run_pure,Result.andThen_ok]
end
end Go.Proofs.YtdmohffogfbnbaaGreatDoor
