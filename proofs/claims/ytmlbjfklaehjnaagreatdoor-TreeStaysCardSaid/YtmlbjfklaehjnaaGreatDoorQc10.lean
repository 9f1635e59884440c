import Derived.Test.YtmlbjfklaehjnaaGreatDoorQc07
import Derived.Test.YtmlbjfklaehjnaaGreatDoorQc03
import Derived.Test.YtmlbjfklaehjnaaGreatDoorQc09
set_option maxRecDepth 100000
set_option maxHeartbeats 4000000
namespace Go.Proofs.YtmlbjfklaehjnaaGreatDoor
open Go Go.RowKit
def be2 (n:Int):List Int:=[n / 256 % 256,n % 256]
theorem aH (n:Int):(be2 n).length=2:=rfl
theorem fx (n:Int):Bytes (be2 n):=by
 intro x hx
 simp only [be2,List.mem_cons,List.not_mem_nil,or_false] at hx
 omega
def labPage:List Int:=[112,97,103,101]
def labSuper:List Int:=[115,117,112,101,114]
theorem aY:Bytes labPage:=by unfold Bytes labPage;decide
theorem mn:Bytes labSuper:=by unfold Bytes labSuper;decide
def fillTo (l:List Int) (n:Nat):List Int:=l.take n++List.replicate (n - l.length) 0
theorem fh (l:List Int) (n:Nat):(fillTo l n).length=n:=by simp [fillTo];omega
theorem gC {l:List Int} (h:Bytes l) (n:Nat):Bytes (fillTo l n):=(h.take _).append (Bytes.zeros _)
theorem fT (a b:List Int) (n:Nat) (h:(a++b).length≤n):fillTo (a++b) n=a++(b++List.replicate (n - (a++b).length) 0):=by
 rw [fillTo,List.take_of_length_le h,List.append_assoc]
def numL (l:List Int):Int:=l.foldl (fun n c=>n * 256+c) 0
theorem numL_snoc (l:List Int) (c:Int):numL (l++[c])=numL l * 256+c:=by simp [numL]
theorem bL {l:List Int} (h:Bytes l):0≤numL l:=by
 have:∀(l:List Int) (n:Int),Bytes l→0≤n→0≤l.foldl (fun n c=>n * 256+c) n:=by
  intro l
  induction l with
  | nil=>intro n _ hn;exact hn
  | cons x l ih =>
   intro n hb hn
   have hx:=hb x (List.mem_cons_self ..)
   exact ih _ (fun y hy=>hb y (List.mem_cons_of_mem _ hy)) (by show 0≤n * 256+x;omega)
 exact this l 0 h (Int.le_refl _)
theorem eX {l:List Int} (h:Bytes l):numL l<256 ^ l.length:=by
 have:∀(l:List Int) (n:Int) (k:Nat),Bytes l→n+1≤256 ^ k→l.foldl (fun n c=>n * 256+c) n+1≤256 ^ (k+l.length):=by
  intro l
  induction l with
  | nil=>intro n k _ hn;simpa using hn
  | cons x l ih =>
   intro n k hb hn
   have hx:=hb x (List.mem_cons_self ..)
   have e:k+(x::l).length=(k+1)+l.length:=by simp;omega
   rw [e]
   refine ih _ _ (fun y hy=>hb y (List.mem_cons_of_mem _ hy)) ?_
   show n * 256+x+1≤_
   rw [Int.pow_succ]
   omega
 have h2:=this l 0 0 h (by decide)
 rw [Nat.zero_add] at h2
 unfold numL
 omega
theorem numL_be8 {g:Int} (h:0≤g∧g<18446744073709551616):numL (be8 g)=g:=by
 simp only [numL,be8,List.foldl_cons,List.foldl_nil]
 omega
theorem numL_be2 {n:Int} (h:0≤n∧n<65536):numL (be2 n)=n:=by
 simp only [numL,be2,List.foldl_cons,List.foldl_nil]
 omega
theorem numL_be4 {n:Int} (h:0≤n∧n<4294967296):numL (be4 n)=n:=by
 simp only [numL,be4,List.foldl_cons,List.foldl_nil]
 omega
def textOf (b:List Int):List Int:=fillTo (be2 b.length++b) 482
theorem dh (b:List Int):(textOf b).length=482:=fh _ _
theorem f8 {b:List Int} (h:Bytes b):Bytes (textOf b):=gC ((fx _).append h) _
theorem textOf_num {b:List Int} (h:b.length≤480):numL ((textOf b).take 2)=b.length:=by
 have e:(textOf b).take 2=be2 b.length:=by
  unfold textOf
  rw [fT _ _ _ (by simp [aH];omega),List.take_append_of_le_length (by simp [aH]),List.take_of_length_le (by simp [aH])]
 rw [e,numL_be2 (by omega)]
theorem textOf_rest {b:List Int} (h:b.length≤480):((textOf b).drop 2).take b.length=b:=by
 unfold textOf
 rw [fT _ _ _ (by simp [aH];omega),List.drop_append_of_le_length (by simp [aH]),List.drop_of_length_le (by simp [aH]),List.nil_append,List.take_left]
def pageOf (k:List Int) (id gen:Int) (b:List Int):List Int:=fillTo (be8 gen++sealOf k (nonceOf id gen) labPage (textOf b)) 512
theorem i3 (k:List Int) (id gen:Int) (b:List Int):(pageOf k id gen b).length=512:=fh _ _
theorem pageOf_bytes (k:List Int) (id gen:Int) {b:List Int} (h:Bytes b):Bytes (pageOf k id gen b):=gC ((dy _).append (jC _ _ _ (f8 h))) _
theorem pageOf_eq (k:List Int) (id gen:Int) (b:List Int):pageOf k id gen b=be8 gen++(sealOf k (nonceOf id gen) labPage (textOf b)++List.replicate 6 0):=by
 unfold pageOf
 rw [fT _ _ _ (by simp [aw,bY,dh])]
 simp [aw,bY,dh]
theorem pageOf_gen (k:List Int) (id gen:Int) (b:List Int):(pageOf k id gen b).take 8=be8 gen:=by
 rw [pageOf_eq,List.take_append_of_le_length (by simp [aw]),List.take_of_length_le (by simp [aw])]
theorem i4 (k:List Int) (id gen:Int) (b:List Int):((pageOf k id gen b).drop 8).take 498=sealOf k (nonceOf id gen) labPage (textOf b):=by
 rw [pageOf_eq,List.drop_append_of_le_length (by simp [aw]),List.drop_of_length_le (by simp [aw]),List.nil_append]
 have:(sealOf k (nonceOf id gen) labPage (textOf b)).length=498:=by rw [bY,dh]
 rw [←this,List.take_left]
def secs (f:Nat→List Int) (at_ n:Nat):List Int:=flatK (fun i=>f (at_+i)) n
theorem cJ {f:Nat→List Int} {at_ n:Nat} (h:∀i,i<n→(f (at_+i)).length=64):(secs f at_ n).length=n * 64:=bK _ _ h
theorem jc {f f':Nat→List Int} {at_ n:Nat} (h:∀i,i<n→f (at_+i)=f' (at_+i)):secs f at_ n=secs f' at_ n:=eg _ _ _ h
def putSecs (f:Nat→List Int) (at_:Nat) (b:List Int) (n:Nat):Nat→List Int:=fun j=>if at_≤j∧j<at_+n then (b.drop (64 * (j - at_))).take 64 else f j
theorem i6 (f:Nat→List Int) (at_:Nat) (b:List Int) (n j:Nat) (h:j<at_∨at_+n≤j):putSecs f at_ b n j=f j:=by
 unfold putSecs
 rw [if_neg (by omega)]
theorem mq (b:List Int):∀n,n * 64≤b.length→flatK (fun i=>(b.drop (64 * i)).take 64) n=b.take (n * 64)
 | 0,_=>by simp [flatK]
 | n+1,h=>by
  rw [flatK,mq b n (by omega),show (n+1) * 64=n * 64+64 by omega,List.take_add,show 64 * n=n * 64 by omega]
theorem putSecs_secs (f:Nat→List Int) (at_:Nat) (b:List Int) (n:Nat) (h:b.length=n * 64):secs (putSecs f at_ b n) at_ n=b:=by
 have:secs (putSecs f at_ b n) at_ n=flatK (fun i=>(b.drop (64 * i)).take 64) n:=by
  unfold secs
  refine eg _ _ _ (fun i hi=>?_)
  unfold putSecs
  rw [if_pos (by omega),show at_+i - at_=i by omega]
 rw [this,mq b n (by omega),←h,List.take_length]
def aadN (pages limit:Int):List Int:=labSuper++be8 limit++be2 pages
theorem bU (pages limit:Int):(aadN pages limit).length=15:=rfl
theorem fZ (pages limit:Int):Bytes (aadN pages limit):=(mn.append (dy _)).append (fx _)
structure Marks (f:Gens) (n:Nat) (out:List Int):Prop where
 len:out.length=50
 bytes:Bytes out
 bit:∀j,j<400→bitL out j=if j<n∧(f j).isSome=true then 1 else 0
def marksL (f:Gens):Nat→List Int
 | 0=>List.replicate 50 0
 | i+1=>if (f i).isSome=true then setBitL (marksL f i) i 1 else marksL f i
theorem mB (n j:Nat):bitL (List.replicate n 0) j=0:=by
 unfold bitL
 have h:(List.replicate n (0:Int)).getD (j / 8) 0=0:=by
  rw [List.getD_eq_getElem?_getD,List.getElem?_replicate]
  split<;>rfl
 rw [h]
 simp
theorem c8 (f:Gens):∀n,n≤400→Marks f n (marksL f n)
 | 0,_=>⟨by simp [marksL],Bytes.zeros 50,fun j _=>by rw [marksL,mB,if_neg (by omega)]⟩
 | n+1,hn=>by
  have ih:=c8 f n (by omega)
  rw [marksL]
  by_cases hf:(f n).isSome=true
  ·rw [if_pos hf]
   refine ⟨by rw [eQ,ih.len],fi ih.bytes _ (by decide),fun j hj=>?_⟩
   rw [mp (by rw [ih.len];omega) (by decide),ih.bit j hj]
   by_cases hjn:j=n
   ·subst hjn
    rw [if_pos rfl,if_pos ⟨by omega,hf⟩]
   ·rw [if_neg hjn]
    by_cases hc:j<n∧(f j).isSome=true
    ·rw [if_pos hc,if_pos ⟨by omega,hc.2⟩]
    ·rw [if_neg hc,if_neg (fun h=>hc ⟨by omega,h.2⟩)]
  ·rw [if_neg hf]
   refine ⟨ih.len,ih.bytes,fun j hj=>?_⟩
   rw [ih.bit j hj]
   by_cases hc:j<n∧(f j).isSome=true
   ·rw [if_pos hc,if_pos ⟨by omega,hc.2⟩]
   ·rw [if_neg hc,if_neg (fun h=>hc ⟨by
     have h1:j≠n:=fun h9=>hf (h9▸h.2)
     omega,h.2⟩)]
theorem Marks.same {f:Gens} {n:Nat} {a b:List Int} (ha:Marks f n a) (hb:Marks f n b):a=b :=
 lQ ha.bytes hb.bytes (by rw [ha.len,hb.len]) fun i hi=>by
  have h9:i<400:=by rw [ha.len] at hi;omega
  rw [ha.bit i h9,hb.bit i h9]
def marksOf (f:Gens):List Int:=marksL f 400
theorem cO (f:Gens):(marksOf f).length=50:=(c8 f 400 (by decide)).len
theorem ng (f:Gens):Bytes (marksOf f):=(c8 f 400 (by decide)).bytes
theorem marksOf_bit (f:Gens) (j:Nat) (hj:j<400):bitL (marksOf f) j=if (f j).isSome=true then 1 else 0:=by
 have h:=(c8 f 400 (by decide)).bit j hj
 unfold marksOf
 rw [h]
 by_cases hc:(f j).isSome=true
 ·rw [if_pos ⟨hj,hc⟩,if_pos hc]
 ·rw [if_neg (fun h=>hc h.2),if_neg hc]
def bodyN (root:Int) (mt:List Int) (f:Gens):List Int:=fillTo (be4 root++marksOf f++(be2 mt.length++mt)) 263
theorem bV (root:Int) (mt:List Int) (f:Gens):(bodyN root mt f).length=263:=fh _ _
theorem eY (root:Int) {mt:List Int} (hm:Bytes mt) (f:Gens):Bytes (bodyN root mt f):=gC (((kH _).append (ng f)).append ((fx _).append hm)) _
theorem bodyN_eq (root:Int) (mt:List Int) (f:Gens) (h:mt.length≤200):bodyN root mt f=be4 root++(marksOf f++(be2 mt.length++mt++List.replicate (207 - mt.length) 0)):=by
 unfold bodyN
 rw [fT _ _ _ (by simp [bC,cO,aH];omega)]
 simp only [List.append_assoc]
 congr 4
 simp [bC,cO,aH]
 omega
theorem bodyN_marks (root:Int) (mt:List Int) (f:Gens) (h:mt.length≤200):((bodyN root mt f).drop 4).take 50=marksOf f:=by
 rw [bodyN_eq root mt f h,List.drop_append_of_le_length (by simp [bC]),List.drop_of_length_le (by simp [bC]),List.nil_append,List.take_append_of_le_length (by simp [cO]),List.take_of_length_le (by simp [cO])]
theorem eS {a b:List Int} {n:Nat} (h:a.length=n):(a++b).drop n=b:=by subst h;exact List.drop_left
def gensB (f:Gens):Nat→List Int
 | 0=>[]
 | i+1=>match f i with
  | none=>gensB f i
  | some g=>gensB f i++be8 (g:Int)
theorem iA (f:Gens):∀n,Bytes (gensB f n)
 | 0=>fun x hx=>by cases hx
 | n+1=>by
  rw [gensB]
  split
  ·exact iA f n
  ·exact (iA f n).append (dy _)
theorem jI (f:Gens):∀n,(gensB f n).length≤8 * n
 | 0=>by simp [gensB]
 | n+1=>by
  have ih:=jI f n
  rw [gensB]
  split
  ·omega
  ·rw [List.length_append,aw];omega
def nonN (kN:List Int) (pages:Nat) (limit:Int) (body:List Int) (f:Gens):List Int:=(macOf kN (aadN pages limit++body++gensB f pages)).take 12
theorem ch (kN:List Int) (pages:Nat) (limit:Int) (body:List Int) (f:Gens):(nonN kN pages limit body f).length=12:=by simp [nonN,aW]
theorem l9 (kN:List Int) (pages:Nat) (limit:Int) (body:List Int) (f:Gens):Bytes (nonN kN pages limit body f):=(cS _ _).take _
def blockN (kS kN:List Int) (pages:Nat) (limit:Int) (body:List Int) (f:Gens):List Int:=be8 limit++nonN kN pages limit body f++sealOf kS (nonN kN pages limit body f) (aadN pages limit) body
theorem cD (kS kN:List Int) (pages:Nat) (limit:Int) {body:List Int} (h:body.length=263) (f:Gens):(blockN kS kN pages limit body f).length=299:=by simp [blockN,aw,ch,bY,h]
theorem j2 (kS kN:List Int) (pages:Nat) (limit:Int) {body:List Int} (h:Bytes body) (f:Gens):Bytes (blockN kS kN pages limit body f):=((dy _).append (l9 _ _ _ _ _)).append (jC _ _ _ h)
def limitAt (b:List Int):Int:=numL (b.take 8)
def nonceAt (b:List Int):List Int:=(b.drop 8).take 12
def opensN (kS:List Int) (pages:Nat) (b:List Int):Bool:=fits kS (nonceAt b) (aadN pages (limitAt b)) (b.drop 20)
def bodyAt (kS:List Int) (b:List Int):List Int:=encOf kS (nonceAt b) ((b.drop 20).take 263)
def genB (limit low:Int):Int:=((limit - 1) % 18446744073709551616 - (limit - 1 - low) % 536870912) % 18446744073709551616
def statesN (pages:Nat) (limit:Int) (marks table:List Int):Gens:=fun i=>if i<pages∧bitL marks i=1 then some (genB limit (getT table (29 * i) 29)).toNat else none
def validN (kS kN:List Int) (pages:Nat) (b table:List Int):Bool:=opensN kS pages b&&decide (nonceAt b=nonN kN pages (limitAt b) (bodyAt kS b) (statesN pages (limitAt b) (((bodyAt kS b).drop 4).take 50) table))
theorem fp (kS kN:List Int) (pages:Nat) {limit:Int} (hl:0≤limit∧limit<18446744073709551616) (body:List Int) (f:Gens):limitAt (blockN kS kN pages limit body f)=limit:=by
 unfold limitAt blockN
 rw [List.append_assoc,List.take_append_of_le_length (by simp [aw]),List.take_of_length_le (by simp [aw]),numL_be8 hl]
theorem fj (kS kN:List Int) (pages:Nat) (limit:Int) (body:List Int) (f:Gens):nonceAt (blockN kS kN pages limit body f)=nonN kN pages limit body f:=by
 unfold nonceAt blockN
 rw [List.append_assoc,List.drop_append_of_le_length (by simp [aw]),List.drop_of_length_le (by simp [aw]),List.nil_append,List.take_append_of_le_length (by simp [ch]),List.take_of_length_le (by simp [ch])]
theorem jy (kS kN:List Int) (pages:Nat) (limit:Int) (body:List Int) (f:Gens):(blockN kS kN pages limit body f).drop 20=sealOf kS (nonN kN pages limit body f) (aadN pages limit) body:=by
 unfold blockN
 rw [List.drop_append_of_le_length (by simp [aw,ch]),List.drop_of_length_le (by simp [aw,ch]),List.nil_append]
theorem genB_back {g limit:Nat} (h:g<limit) (hn:limit≤g+536870912) (hl:limit<18446744073709551616):genB limit ((g % 536870912:Nat):Int)=(g:Int):=by
 unfold genB
 omega
theorem opens_block (kS kN:List Int) (pages:Nat) {limit:Int} (hl:0≤limit∧limit<18446744073709551616) (body:List Int) (f:Gens):opensN kS pages (blockN kS kN pages limit body f)=true:=by
 unfold opensN
 rw [fj,fp kS kN pages hl,jy]
 exact fits_seal _ _ _ _
theorem bodyAt_block (kS kN:List Int) (pages:Nat) (limit:Int) {body:List Int} (hb:Bytes body) (h:body.length=263) (f:Gens):bodyAt kS (blockN kS kN pages limit body f)=body:=by
 unfold bodyAt
 rw [fj,jy,←h,ik,kO _ _ hb]
structure Kept (f:Gens) (pages limit:Nat):Prop where
 lim:limit<18446744073709551616
 out:∀i,pages≤i→f i=none
 gen:∀i g,f i=some g→g<limit∧limit≤g+536870912
def newN (v0 v1:Bool) (l0 l1:Int):Int:=if v0=true then (if v1=true∧l0<l1 then 1 else 0) else if v1=true then 1 else -1
def nextP (v0 v1:Bool) (l0 l1:Int):Nat:=if v0=true then (if v1=true∧l0<l1 then 0 else 1) else if v1=true then 0 else if l1<l0 then 1 else 0
def knownN (v0 v1:Bool) (l0 l1:Int):Int:=if v0=true then (if v1=true∧l0<l1 then l1 else l0) else if v1=true then l1 else 0
def limitN (v0 v1:Bool) (l0 l1:Int):Int:=max (max 1 (if v0=true∨l0<1152921504606846976 then l0+1 else 1)) (if v1=true∨l1<1152921504606846976 then l1+1 else 1)
theorem ef (v0 v1:Bool) (l0 l1:Int):nextP v0 v1 l0 l1<2:=by
 unfold nextP
 split
 ·split<;>omega
 ·split
  ·omega
  ·split<;>omega
theorem knownN_le (v0 v1:Bool) {l0 l1 m:Int} (h0:l0≤m) (h1:l1≤m) (hm:0≤m):knownN v0 v1 l0 l1≤m:=by
 unfold knownN
 split
 ·split<;>omega
 ·split<;>omega
structure Gn where
 first:Nat
 next:Nat
 limit:Nat
def Gn.from (n:Nat):Gn:=⟨n,n,n⟩
def Gn.more (g:Gn) (known:Nat):Gn :=
 let h:=if g.limit<known then Gn.from known else g
 {h with limit:=max h.limit (h.next+(h.next - h.first))+1}
def Gn.ok (g:Gn):Prop:=1≤g.first∧g.first≤g.next∧g.next≤g.limit
open Go Go.RowKit Go.Maps
theorem new_some (k:Nat) (hk:k≤4000) (w:World) :
  Calls Tryz.prog 27 #[.int .i64 (k:Int)] w fun e w'=>∃g,e=.returned (.pointer (some ⟨g,0,none⟩))∧∃mb kv,DkAt w' g mb kv (Dk.new (k))∧(∀q∈foot g mb kv,w.heap.size≤q)∧Below w.heap.size w w':=by
 have hm:=Mem.start w
 have h1:¬((0:Int) > (k:Int)):=by omega
 have h2:¬((4000:Int)<(k:Int)):=by omega
 go_enter Tryz.func27,Tryz.ntmps27
 go_wp2_with (first
  | ((with_reducible refine aa (some 6) (.makeSlice 130 (.tmp 5) (.tmp 5)) ?_);go_must (refine jm (k) rfl (by first|rfl|omega) rfl (by first|rfl|omega) (by omega) hm ?_);clear hm;intro w1 kb hm)
  | ((with_reducible refine aa (some 7) (.makeMap 131 none) ?_);go_must (refine fG hm ?_);intro w2 mb hm2 hmap hmb;have hkm:w.heap.size≤mb:=Nat.le_trans hm.size hmb;clear hm hmb;have hm:=hm2;clear hm2)
  | ((with_reducible refine aa (some 8) (.build 133 #[(0,.tmp 6),(1,.tmp 7)]) ?_);go_must (refine aB (drow (.slice (some ⟨kb,0,none⟩) (k) (k)) mb 0 0 false) _ rfl (by kernel_rfl) ?_))
  | ((with_reducible refine aa (some 9) (.box 133 (.tmp 8)) ?_);go_must (refine mO (drow (.slice (some ⟨kb,0,none⟩) (k) (k)) mb 0 0 false) rfl hm ?_);intro w3 g hb3 hm3;have hmap3:=(hb3.block mb (Array.getElem?_eq_some_iff.1 hmap).1).trans hmap;clear hm hmap hb3;have hm:=hm3;clear hm3))
 go_ret
 refine ⟨g,rfl,mb,.slice (some ⟨kb,0,none⟩) (k) (k),⟨Dk.new_ok _ (by omega),hm.get 0 rfl,⟨_,_,rfl,Nat.le_refl _,fun _=>⟨kb,[],rfl,by rw [List.append_nil];exact hm.get 1 rfl⟩⟩,⟨0,_,ku hmap3,PM.none⟩⟩,?_,hm.below⟩
 intro q hq
 have h1:=hm.fresh _ (List.mem_cons_self ..)
 have h2:=hm.tail.fresh _ (List.mem_cons_self ..)
 simp only [List.not_mem_nil,false_or] at h1 h2
 simp only [foot,kbOf,List.mem_cons] at hq
 rcases hq with rfl|rfl|hq
 ·exact h1
 ·exact hkm
 ·split at hq
  ·cases hq
  ·simp only [List.mem_cons,List.not_mem_nil,or_false] at hq
   subst hq
   exact h2
theorem new_none (n:Int) (hn:n<0) (w:World) :
  Calls Tryz.prog 27 #[.int .i64 n] w fun e w'=>∃g,e=.returned (.pointer (some ⟨g,0,none⟩))∧∃mb kv,DkAt w' g mb kv (Dk.new (0))∧(∀q∈foot g mb kv,w.heap.size≤q)∧Below w.heap.size w w':=by
 have hm:=Mem.start w
 have h1:(0:Int) > n:=by omega
 go_enter Tryz.func27,Tryz.ntmps27
 go_wp2_with (first
  | ((with_reducible refine aa (some 6) (.makeSlice 130 (.tmp 5) (.tmp 5)) ?_);go_must (refine jm (0) rfl (by first|rfl|omega) rfl (by first|rfl|omega) (by omega) hm ?_);clear hm;intro w1 kb hm)
  | ((with_reducible refine aa (some 7) (.makeMap 131 none) ?_);go_must (refine fG hm ?_);intro w2 mb hm2 hmap hmb;have hkm:w.heap.size≤mb:=Nat.le_trans hm.size hmb;clear hm hmb;have hm:=hm2;clear hm2)
  | ((with_reducible refine aa (some 8) (.build 133 #[(0,.tmp 6),(1,.tmp 7)]) ?_);go_must (refine aB (drow (.slice (some ⟨kb,0,none⟩) (0) (0)) mb 0 0 false) _ rfl (by kernel_rfl) ?_))
  | ((with_reducible refine aa (some 9) (.box 133 (.tmp 8)) ?_);go_must (refine mO (drow (.slice (some ⟨kb,0,none⟩) (0) (0)) mb 0 0 false) rfl hm ?_);intro w3 g hb3 hm3;have hmap3:=(hb3.block mb (Array.getElem?_eq_some_iff.1 hmap).1).trans hmap;clear hm hmap hb3;have hm:=hm3;clear hm3))
 go_ret
 refine ⟨g,rfl,mb,.slice (some ⟨kb,0,none⟩) (0) (0),⟨Dk.new_ok _ (by omega),hm.get 0 rfl,⟨_,_,rfl,Nat.le_refl _,fun _=>⟨kb,[],rfl,by rw [List.append_nil];exact hm.get 1 rfl⟩⟩,⟨0,_,ku hmap3,PM.none⟩⟩,?_,hm.below⟩
 intro q hq
 have h1:=hm.fresh _ (List.mem_cons_self ..)
 have h2:=hm.tail.fresh _ (List.mem_cons_self ..)
 simp only [List.not_mem_nil,false_or] at h1 h2
 simp only [foot,kbOf,List.mem_cons] at hq
 rcases hq with rfl|rfl|hq
 ·exact h1
 ·exact hkm
 ·split at hq
  ·cases hq
  ·simp only [List.mem_cons,List.not_mem_nil,or_false] at hq
   subst hq
   exact h2
theorem new_many (n:Int) (hn:4000<n) (w:World) :
  Calls Tryz.prog 27 #[.int .i64 n] w fun e w'=>∃g,e=.returned (.pointer (some ⟨g,0,none⟩))∧∃mb kv,DkAt w' g mb kv (Dk.new (4000))∧(∀q∈foot g mb kv,w.heap.size≤q)∧Below w.heap.size w w':=by
 have hm:=Mem.start w
 have h1:¬((0:Int) > n):=by omega
 have h2:(4000:Int)<n:=by omega
 go_enter Tryz.func27,Tryz.ntmps27
 go_wp2_with (first
  | ((with_reducible refine aa (some 6) (.makeSlice 130 (.tmp 5) (.tmp 5)) ?_);go_must (refine jm (4000) rfl (by first|rfl|omega) rfl (by first|rfl|omega) (by omega) hm ?_);clear hm;intro w1 kb hm)
  | ((with_reducible refine aa (some 7) (.makeMap 131 none) ?_);go_must (refine fG hm ?_);intro w2 mb hm2 hmap hmb;have hkm:w.heap.size≤mb:=Nat.le_trans hm.size hmb;clear hm hmb;have hm:=hm2;clear hm2)
  | ((with_reducible refine aa (some 8) (.build 133 #[(0,.tmp 6),(1,.tmp 7)]) ?_);go_must (refine aB (drow (.slice (some ⟨kb,0,none⟩) (4000) (4000)) mb 0 0 false) _ rfl (by kernel_rfl) ?_))
  | ((with_reducible refine aa (some 9) (.box 133 (.tmp 8)) ?_);go_must (refine mO (drow (.slice (some ⟨kb,0,none⟩) (4000) (4000)) mb 0 0 false) rfl hm ?_);intro w3 g hb3 hm3;have hmap3:=(hb3.block mb (Array.getElem?_eq_some_iff.1 hmap).1).trans hmap;clear hm hmap hb3;have hm:=hm3;clear hm3))
 go_ret
 refine ⟨g,rfl,mb,.slice (some ⟨kb,0,none⟩) (4000) (4000),⟨Dk.new_ok _ (by omega),hm.get 0 rfl,⟨_,_,rfl,Nat.le_refl _,fun _=>⟨kb,[],rfl,by rw [List.append_nil];exact hm.get 1 rfl⟩⟩,⟨0,_,ku hmap3,PM.none⟩⟩,?_,hm.below⟩
 intro q hq
 have h1:=hm.fresh _ (List.mem_cons_self ..)
 have h2:=hm.tail.fresh _ (List.mem_cons_self ..)
 simp only [List.not_mem_nil,false_or] at h1 h2
 simp only [foot,kbOf,List.mem_cons] at hq
 rcases hq with rfl|rfl|hq
 ·exact h1
 ·exact hkm
 ·split at hq
  ·cases hq
  ·simp only [List.mem_cons,List.not_mem_nil,or_false] at hq
   subst hq
   exact h2
def clampK (n:Int):Nat:=if n<0 then 0 else if 4000<n then 4000 else n.toNat
theorem new_anyD (n:Int) (w:World) :
  Calls Tryz.prog 27 #[.int .i64 n] w fun e w'=>∃g,e=.returned (.pointer (some ⟨g,0,none⟩))∧∃mb kv,DkAt w' g mb kv (Dk.new (clampK n))∧(∀q∈foot g mb kv,w.heap.size≤q)∧Below w.heap.size w w':=by
 unfold clampK
 by_cases h0:n<0
 ·rw [if_pos h0]
  exact new_none n h0 w
 ·rw [if_neg h0]
  by_cases h1:4000<n
  ·rw [if_pos h1]
   exact new_many n h1 w
  ·rw [if_neg h1]
   obtain ⟨k,rfl⟩:∃k:Nat,n=(k:Int):=⟨n.toNat,by omega⟩
   exact new_some k (by omega) w
theorem read_good (g mb:Nat) (kv:Value) (d:Dk) (i:Nat) (ho:d.off=false) (hi:i<d.n) (w:World) (hd:DkAt w g mb kv d) :
  Calls Tryz.prog 112 #[.pointer (some ⟨g,0,none⟩),.int .i64 i] w fun e w'=>∃q,e=.returned (.tuple #[.slice (some ⟨q,0,none⟩) 64 64,.int .i64 0])∧w.heap.size≤q∧Row w' q (u8s (d.now i)) 250∧Below w.heap.size w w':=by
 have c4:w.cell? ⟨g,4,none⟩=some (.bool d.off):=by rw [hd.row.cell];rfl
 rw [ho] at c4
 have hm:=Mem.start w
 have HD:Hid _:=hd
 have HH:Hid (d.has i=true):=by show _=_;simp [Dk.has];omega
 have HI:Hid (i<d.n):=hi
 have HZ:Hid ((u8s zeroK).length=64):=by show _=_;rw [ab];exact bq
 have HL:Hid ((u8s (d.now i)).length=64):=by show _=_;rw [ab];exact hd.ok.now hi
 clear hd ho hi
 go_enter Tryz.func112,Tryz.ntmps112
 go_wp2_with (first
  | (go_at_call 161;refine (lw g mb kv d i _ HD.out).mono ?_;rintro e w1 ⟨he,hw⟩;rw [HH.out] at he;subst he;replace hw:=hw.symm;subst hw)
  | (go_at_call 162;refine (now_any g mb kv d i HI.out _ (HD.out.mem hm)).mono ?_;rintro e w2 ⟨he,hb⟩;subst he;replace hm:=hm.call hb;clear hb)
  | ((with_reducible refine aa (some 6) (.alloc 250) ?_);refine af _ eb hm ?_;clear hm;intro w3 q hm)
  | ((with_reducible refine aa none (.store 250 (.tmp 6) (.tmp 17)) ?_);refine ag 0 (u8s (d.now i)) hm rfl rfl rfl 64 dJ (HZ.out) (HL.out) (ar _) ?_;clear hm;intro w4 hm)
  | ((with_reducible refine aa (some 18) (.slice 250 (.tmp 6) none none none) ?_);refine iO 64 gQ sz_u8D 0 64 (by omega) (by omega) rfl (Or.inr ⟨rfl,rfl⟩) (Or.inr ⟨rfl,rfl⟩) ?_))
 go_ret2
 have hf:=hm.fresh _ (List.mem_cons_self ..)
 exact ⟨q,rfl,by simpa using hf,hm.get 0 rfl,hm.below⟩
end Go.Proofs.YtmlbjfklaehjnaaGreatDoor
namespace Go.Proofs.YtmlbjfklaehjnaaGreatDoor
open Go Go.RowKit Go.Maps
theorem write_off (g mb:Nat) (kv:Value) (d:Dk) (i:Int) (v:Value) (ho:d.step.off=true) (hnu:d.Num) (w:World) (hd:DkAt w g mb kv d) :
  Calls Tryz.prog 119 #[.pointer (some ⟨g,0,none⟩),.int .i64 i,v] w fun e w'=>e=.returned (.int .i64 61)∧DkAt w' g mb kv d.step∧UpdS (foot g mb kv) w w':=by
 have HD:Hid _:=hd
 have HNU:Hid _:=hnu
 have HO:Hid (d.step.off=true):=ho
 clear hd hnu ho
 go_enter Tryz.func119,Tryz.ntmps119
 go_wp2_with (first
  | (go_at_call 167;refine (fw g mb kv d HNU.out _ HD.out).mono ?_;rintro e w1 ⟨he,hd1,hu1⟩;rw [HO.out] at he;subst he;clear HD;have HD:Hid _:=hd1;have HU1:Hid _:=hu1;clear hd1 hu1;have hm:=Mem.start w1))
 go_ret
 exact ⟨rfl,HD.out,HU1.out⟩
theorem write_no (g mb:Nat) (kv:Value) (d:Dk) (i:Int) (v:Value) (ho:d.step.off=false) (hh:d.has i=false) (hnu:d.Num) (w:World) (hd:DkAt w g mb kv d) :
  Calls Tryz.prog 119 #[.pointer (some ⟨g,0,none⟩),.int .i64 i,v] w fun e w'=>e=.returned (.int .i64 60)∧DkAt w' g mb kv d.step∧UpdS (foot g mb kv) w w':=by
 have HD:Hid _:=hd
 have HNU:Hid _:=hnu
 have HO:Hid (d.step.off=false):=ho
 have HH:Hid (d.has i=false):=hh
 clear hd hnu ho hh
 go_enter Tryz.func119,Tryz.ntmps119
 go_wp2_with (first
  | (go_at_call 167;refine (fw g mb kv d HNU.out _ HD.out).mono ?_;rintro e w1 ⟨he,hd1,hu1⟩;rw [HO.out] at he;subst he;clear HD;have HD:Hid _:=hd1;have HU1:Hid _:=hu1;clear hd1 hu1;have hm:=Mem.start w1)
  | (go_at_call 161;refine (lw g mb kv d.step i _ HD.out).mono ?_;rintro e w2 ⟨he,hw⟩;rw [show d.step.has i=false from HH.out] at he;subst he;replace hw:=hw.symm;subst hw))
 go_ret
 exact ⟨rfl,HD.out,HU1.out⟩
theorem write_long (g mb:Nat) (kv:Value) (d:Dk) (i:Int) (n cap:Nat) (p:Option Addr) (ho:d.step.off=false) (hh:d.has i=true) (hn:64<n) (hnu:d.Num) (w:World) (hd:DkAt w g mb kv d) :
  Calls Tryz.prog 119 #[.pointer (some ⟨g,0,none⟩),.int .i64 i,.slice p n cap] w fun e w'=>e=.returned (.int .i64 60)∧DkAt w' g mb kv d.step∧UpdS (foot g mb kv) w w':=by
 have HD:Hid _:=hd
 have HNU:Hid _:=hnu
 have HO:Hid (d.step.off=false):=ho
 have HH:Hid (d.has i=true):=hh
 have hn1:(n:Int) > 64:=by omega
 clear hd hnu ho hh
 go_enter Tryz.func119,Tryz.ntmps119
 go_wp2_with (first
  | (go_at_call 167;refine (fw g mb kv d HNU.out _ HD.out).mono ?_;rintro e w1 ⟨he,hd1,hu1⟩;rw [HO.out] at he;subst he;clear HD;have HD:Hid _:=hd1;have HU1:Hid _:=hu1;clear hd1 hu1;have hm:=Mem.start w1)
  | (go_at_call 161;refine (lw g mb kv d.step i _ HD.out).mono ?_;rintro e w2 ⟨he,hw⟩;rw [show d.step.has i=true from HH.out] at he;subst he;replace hw:=hw.symm;subst hw))
 go_ret
 exact ⟨rfl,HD.out,HU1.out⟩
theorem lI (g mb:Nat) (kv:Value) (d:Dk) (i:Nat) (bs:List Int) (v:Value) (ho:d.step.off=false) (hi:i<d.n) (hl:bs.length≤64) (hbb:Bytes bs) (hnu:d.Num) (w:World) (hd:DkAt w g mb kv d) (hs:SlA w (foot g mb kv) v bs) :
  Calls Tryz.prog 119 #[.pointer (some ⟨g,0,none⟩),.int .i64 i,v] w fun e w'=>e=.returned (.int .i64 0)∧DkAt w' g mb kv (d.step.put i (over (d.now i) bs))∧UpdS (foot g mb kv) w w':=by
 have HD:Hid _:=hd
 have HNU:Hid _:=hnu
 have HO:Hid (d.step.off=false):=ho
 obtain ⟨p,cap,rfl,hcap,_⟩:=id hs
 obtain ⟨bl,hbl⟩:∃bl,bl=bs.length:=⟨_,rfl⟩
 have HS:Hid (SlA w (foot g mb kv) (.slice p bl cap) bs):=by rw [hbl];exact hs
 have HH:Hid (d.has (i:Int)=true):=by show _=_;simp [Dk.has];omega
 have hbl1:¬((bl:Int) > 64):=by omega
 have hbl2:bl≤64:=by omega
 have HI:Hid (i<d.step.n):=hi
 obtain ⟨N,hN⟩:∃N,N=d.now i:=⟨_,rfl⟩
 have HNN:Hid (∀_:Unit,d.step.now i=N):=fun _=>hN.symm
 have hNl:N.length=64:=by rw [hN];exact hd.ok.now hi
 have HZ:Hid ((u8s zeroK).length=64):=by show _=_;rw [ab];exact bq
 have HNL:Hid ((u8s N).length=64):=by show _=_;rw [ab];exact hNl
 have HOL:Hid ((over N bs).length=64):=kL hNl hl
 have HOU:Hid ((u8s (over N bs)).length=64):=by show _=_;rw [ab];exact HOL.out
 have HOB:Hid (Bytes (over N bs)):=mW (by rw [hN];exact hd.ok.nowB hi) hbb
 have HSP:Hid (splice (u8s N) 0 (u8s (bs.take bl))=u8s (over N bs)):=by
  show _=_
  rw [hbl,List.take_of_length_le (Nat.le_refl _),←splice_over]
  simp [splice,u8s]
 rw [←hN,←hbl]
 clear hd hnu ho hs hN hNl hi hl hbl hbb hcap
 go_enter Tryz.func119,Tryz.ntmps119
 go_wp2_with (first
  | (go_at_call 167;refine (fw g mb kv d HNU.out _ HD.out).mono ?_;rintro e w1 ⟨he,hd1,hu1⟩;rw [HO.out] at he;subst he;clear HD;have HD:Hid _:=hd1;have HU1:Hid _:=hu1;clear hd1 hu1;have hm:=Mem.start w1)
  | (go_at_call 161;refine (lw g mb kv d.step i _ HD.out).mono ?_;rintro e w2 ⟨he,hw⟩;rw [show d.step.has i=true from HH.out] at he;subst he;replace hw:=hw.symm;subst hw)
  | (go_at_call 162;refine (now_any g mb kv d.step i HI.out _ (HD.out.mem hm)).mono ?_;rintro e w3 ⟨he,hb⟩;rw [HNN.out ()] at he;subst he;replace hm:=hm.call hb;clear hb)
  | ((with_reducible refine aa (some 7) (.alloc 250) ?_);refine af _ eb hm ?_;clear hm;intro w4 q hm)
  | ((with_reducible refine aa none (.store 250 (.tmp 7) (.tmp 22)) ?_);refine ag 0 (u8s N) hm rfl rfl rfl 64 dJ (HZ.out) (HNL.out) (ar _) ?_;clear hm;intro w5 hm)
  | ((with_reducible refine aa (some 23) (.slice 250 (.tmp 7) none none none) ?_);refine iO 64 gQ sz_u8D 0 64 (by omega) (by omega) rfl (Or.inr ⟨rfl,rfl⟩) (Or.inr ⟨rfl,rfl⟩) ?_)
  | ((with_reducible refine aa (some 25) (.call {callee:=.builtin .copy,args:=#[.tmp 23,.tmp 24],argTypes:=#[54,54]}) ?_);go_must (refine ek 0 bs bl (u8s (over N bs)) hm rfl rfl rfl _ un_bsD sz_u8D (SlOld.mem (SlA.old (SlA.upd HS.out HU1.out)) hm) (by show bl=min bl 64;omega) (by rw [HNL.out];omega) HSP.out ?_);clear hm;intro w6 hm))
 refine dq 6 (by kernel_rfl) (by kernel_rfl) hm ?_
 clear hm
 intro w7 hm
 simp only [List.take_succ_cons,List.take_zero,List.drop_succ_cons,List.drop_zero]
 still_step
 still_step
 still_step
 refine fY 1 (.map (some mb)) (DkAt.row (HD.out.mem hm)) rfl jZ rfl ?_
 still_step
 refine lv 0 0 (u8s (over N bs)) hm rfl rfl _ gQ rfl 64 dJ (by rw [HOU.out];omega) (by rw [List.drop_zero,List.take_of_length_le (by rw [HOU.out];omega)]) ?_
 refine wpStill_nil ?_
 go_wp2_with (first
  | ((with_reducible refine aa none (.mapUpdate 131 (.tmp 29) (.tmp 30) (.tmp 31)) ?_);go_must (refine wpl_put i (over N bs) (HD.out.mem hm) HI.out HOL.out HOB.out rfl rfl rfl rfl ?_);intro w8 hd8 hu8;have HD8:Hid _:=hd8;have HU8:Hid _:=hu8;clear hd8 hu8))
 go_ret
 exact ⟨rfl,HD8.out,(HU1.out.trans (UpdS.of_below hm.below)).trans (UpdS.of_upd HU8.out (foot_m ..))⟩
theorem write_anyD (g mb:Nat) (kv:Value) (d:Dk) (i:Int) (bs:List Int) (v:Value) (hbb:Bytes bs) (hnu:d.Num) (w:World) (hd:DkAt w g mb kv d) (hs:SlA w (foot g mb kv) v bs) :
  Calls Tryz.prog 119 #[.pointer (some ⟨g,0,none⟩),.int .i64 i,v] w fun e w'=>e=.returned (.int .i64 (d.wcode i bs))∧DkAt w' g mb kv (d.write i bs)∧UpdS (foot g mb kv) w w':=by
 unfold Dk.wcode Dk.write
 cases ho:d.step.off with
 | true =>
  rw [if_pos rfl,if_neg (by simp)]
  exact write_off g mb kv d i v ho hnu w hd
 | false =>
  rw [if_neg (by simp)]
  cases hf:d.fits i bs with
  | true =>
   simp only [Dk.fits,Bool.and_eq_true,decide_eq_true_eq] at hf
   rw [if_pos rfl,if_pos ⟨rfl,rfl⟩]
   obtain ⟨k,rfl⟩:∃k:Nat,i=(k:Int):=⟨i.toNat,by omega⟩
   exact lI g mb kv d k bs v ho (by omega) hf.2 hbb hnu w hd hs
  | false =>
   rw [if_neg (by simp),if_neg (by simp)]
   cases hh:d.has i with
   | false=>exact write_no g mb kv d i v ho hh hnu w hd
   | true =>
    obtain ⟨p,cap,rfl,_,_⟩:=hs
    refine write_long g mb kv d i bs.length cap p ho hh ?_ hnu w hd
    unfold Dk.has at hh
    unfold Dk.fits at hf
    rw [hh,Bool.true_and] at hf
    simpa using hf
end Go.Proofs.YtmlbjfklaehjnaaGreatDoor
namespace Go.Proofs.YtmlbjfklaehjnaaGreatDoor
open Go Go.RowKit Go.Maps
def Dk.flOf (d:Dk) (left:Lit→Bool) (i:Nat):List Int :=
 match d.pend i with
 | some l=>if left (.int .i64 (i:Int))=true then d.kept i else l
 | none=>d.kept i
def Dk.fl (d:Dk) (left:Lit→Bool):Dk:={d with kept:=d.flOf left}
theorem Dk.flOf_done (d:Dk) (left:Lit→Bool) (h:∀k,left k=false):d.flOf left=d.now:=by
 funext i
 unfold Dk.flOf Dk.now
 cases d.pend i<;>simp [h]
theorem Dk.flOf_step (d:Dk) (left:Lit→Bool) (i:Nat) (l:List Int) (hp:d.pend i=some l):d.flOf (fun z=>left z && !z.sameKey (.int .i64 (i:Int)))=upf (d.flOf left) i l:=by
 funext j
 by_cases he:j=i
 ·subst he
  rw [b4]
  simp [Dk.flOf,hp,Lit.sameKey]
 ·rw [bj _ _ he]
  unfold Dk.flOf
  cases hj:d.pend j with
  | none=>rfl
  | some x =>
   have hne:¬((j:Int)=(i:Int)):=by omega
   simp [Lit.sameKey,hne]
theorem DkAt.congr {w:World} {g mb:Nat} {kv:Value} {d d':Dk} (h:DkAt w g mb kv d) (he:d=d'):DkAt w g mb kv d':=he▸h
theorem Dk.flOf_start {D:DataW Value} (d:Dk) (pm:PM D d.pend):d.flOf (Maps.has D)=d.kept:=by
 funext i
 unfold Dk.flOf
 cases hp:d.pend i with
 | none=>rfl
 | some l =>
  simp only
  rw [if_pos (by rw [pm.hasN i,hp];rfl)]
theorem flush_off (g mb:Nat) (kv:Value) (d:Dk) (ho:d.step.off=true) (hnu:d.Num) (w:World) (hd:DkAt w g mb kv d) :
  Calls Tryz.prog 120 #[.pointer (some ⟨g,0,none⟩)] w fun e w'=>e=.returned (.int .i64 61)∧DkAt w' g mb kv d.step∧UpdS (foot g mb kv) w w':=by
 have HD:Hid _:=hd
 have HNU:Hid _:=hnu
 have HO:Hid (d.step.off=true):=ho
 clear hd hnu ho
 go_enter Tryz.func120,Tryz.ntmps120
 go_wp2_with (first
  | (go_at_call 167;refine (fw g mb kv d HNU.out _ HD.out).mono ?_;rintro e w1 ⟨he,hd1,hu1⟩;rw [HO.out] at he;subst he;clear HD;have HD:Hid _:=hd1;have HU1:Hid _:=hu1;clear hd1 hu1;have hm:=Mem.start w1))
 go_ret
 exact ⟨rfl,HD.out,HU1.out⟩
theorem flush_good (g mb:Nat) (kv:Value) (d:Dk) (ho:d.step.off=false) (hnu:d.Num) (w:World) (hd:DkAt w g mb kv d) :
  Calls Tryz.prog 120 #[.pointer (some ⟨g,0,none⟩)] w fun e w'=>e=.returned (.int .i64 0)∧DkAt w' g mb kv d.step.flushed∧UpdS (foot g mb kv) w w':=by
 have HD:Hid _:=hd
 have HNU:Hid _:=hnu
 have HO:Hid (d.step.off=false):=ho
 clear hd hnu ho
 go_enter Tryz.func120,Tryz.ntmps120
 go_wp2_with (first
  | (go_at_call 167;refine (fw g mb kv d HNU.out _ HD.out).mono ?_;rintro e w1 ⟨he,hd1,hu1⟩;rw [HO.out] at he;subst he;clear HD;have HD:Hid _:=hd1;have HU1:Hid _:=hu1;clear hd1 hu1;have hm:=Mem.start w1)
  | ((with_reducible refine aa (some 11) (.load 131 (.tmp 10)) ?_);refine fO 1 (.map (some mb)) (DkAt.row HD.out) rfl jZ rfl ?_;obtain ⟨qn,D,ho,pm⟩:=HD.out.map;have HPM:Hid _:=pm;have HOW:Hid _:=ho;clear ho pm)
  | ((with_reducible refine aa (some 12) (.range 131 (.tmp 11)) ?_);go_must (refine wpList_range_own _ rfl _ _ rfl 3 250 j5 lD rdV mb qn D rfl HOW.out ?_);intro w2 hrg0 hg0 hs0))
 have HST:Hid (DkAt w2 g mb kv (d.step.fl (Maps.has D))∧UpdS (foot g mb kv) w w2):=by
  have hb:Below w1.heap.size w1 w2:=⟨hg0.os,hg0.tape,hg0.output,hg0.size,fun k hk=>hg0.block k hk (by simp)⟩
  refine ⟨(HD.out.below hb).congr ?_,HU1.out.trans (UpdS.of_below hb)⟩
  rw [Dk.fl,Dk.flOf_start d.step HPM.out]
 have HFT:Hid (∀k∈foot g mb kv,k<w1.heap.size):=HD.out.lt
 have HOK:Hid d.step.Ok:=HD.out.ok
 have HW1:Hid (w.heap.size≤w1.heap.size):=HU1.out.size
 have HRG:Hid _:=hrg0
 clear hrg0 hg0 hs0 HOW hm HNU HO
 go_frame
 go_loopw [3] (fun _ wr=>∃(left:Lit→Bool) (cnt:Nat),wr.ranges Tryz.prog 3 rdV mb w1.heap.size qn D left cnt∧DkAt wr g mb kv (d.step.fl left)∧UpdS (foot g mb kv) w wr)
  (fun _ wr=>wr.rangeLeft mb w1.heap.size)
 case atStart=>exact ⟨_,_,HRG.out,HST.out.1,HST.out.2⟩
 case round =>
  obtain ⟨left,cnt,hrg,hdr,hur⟩:=hrel
  have HR:Hid _:=hdr
  have HUR:Hid _:=hur
  have HRR:Hid _:=hrg
  have HRL:Hid (wr.rangeLeft mb w1.heap.size=cnt):=hrg.left_eq
  clear hdr hur HRG HST HD HU1 hrg
  go_wp2_with (first
   | (at_next;refine wpList_next_ranges _ rfl _ rfl 3 j5 rdV (fun x:Int=>Value.int .i64 x) id (fun key kl hk=>by obtain ⟨x,hx,_⟩:=Maps.keyOf_i64 j6 hk;exact ⟨x,hx⟩) (fun v _ _=>⟨v,rfl⟩) mb w1.heap.size qn D _ _ rfl HRR.out ?_ ?_)
   | go_in)
  ·intro _ hl0
   have HL0:Hid _:=hl0
   clear hl0
   go_wp2_with (first
    | ((with_reducible refine aa (some 28) (.load 131 (.tmp 27)) ?_);refine fO 1 (.map (some mb)) (DkAt.row HR.out) rfl jZ rfl ?_)
    | ((with_reducible refine aa none (.call {callee:=.builtin .clear,args:=#[.tmp 28],argTypes:=#[131]}) ?_);go_must (refine wpl_clear HR.out rfl ?_);intro w9 hd9 hu9;have HD9:Hid _:=hd9;have HU9:Hid _:=hu9;clear hd9 hu9))
   go_ret
   refine ⟨rfl,HD9.out.congr ?_,HUR.out.trans (UpdS.of_upd HU9.out (foot_m ..))⟩
   show ({d.step.fl left with pend:=fun _=>none}:Dk)=d.step.flushed
   rw [Dk.fl,Dk.flOf_done d.step left HL0.out]
   rfl
  ·intro x c kl yd yp w3 cnt3 hkey hlk hv hat hrg3 hlt hg3 hs3 hen
   obtain ⟨x',ex,rfl,_⟩:=Maps.keyOf_i64 j6 hkey
   obtain rfl:x=x':=encZ_inj ex
   have hhas:Maps.has D (.int .i64 x)=true:=has_true_of_atKey hat
   obtain ⟨i,rfl,hpi⟩:=(HPM.out.has x).1 hhas
   obtain ⟨l,hpl⟩:=Option.isSome_iff_exists.1 hpi
   have hc:c=.agg (u8s l).toArray:=by
    have h1:=HPM.out.val i l hpl (.held c)
    rw [hat] at h1
    have h2:=eZ hv
    rw [h2] at h1
    simpa using h1
   subst hc
   have hok:=HOK.out.pend i l hpl
   have hb3:DkAt w3 g mb kv (d.step.fl left)∧UpdS (foot g mb kv) w w3:=by
    have hk:∀k∈foot g mb kv,w3.heap[k]?=wr.heap[k]?:=fun k hk=>hg3.block k (HR.out.lt k hk) (fun e=>by
     have:=HFT.out k hk
     simp only [Option.some.injEq] at e
     omega)
    refine ⟨HR.out.keep hk,⟨hg3.os.trans HUR.out.os,hg3.tape.trans HUR.out.tape,hg3.output.trans HUR.out.output,Nat.le_trans HUR.out.size hg3.size,fun k hk hn=>?_⟩⟩
    refine (hg3.block k (Nat.lt_of_lt_of_le hk HUR.out.size) (fun e=>?_)).trans (HUR.out.block k hk hn)
    have:=HW1.out
    simp only [Option.some.injEq] at e
    omega
   have HB3:Hid _:=hb3.1
   have HU3:Hid _:=hb3.2
   have HLL:Hid ((u8s l).length=64):=by show _=_;rw [ab];exact hok.2.1
   have HL1:Hid (l.length=64):=hok.2.1
   have HLB:Hid (Bytes l):=hok.2.2
   have HZ:Hid ((u8s zeroK).length=64):=by show _=_;rw [ab];exact bq
   have HPL:Hid (d.step.pend i=some l):=hpl
   have HRG3:Hid (w3.ranges Tryz.prog 3 rdV mb w1.heap.size qn D (fun z=>left z && !z.sameKey (.int .i64 (i:Int))) cnt3):=hrg3
   have hi:i<d.step.n:=hok.1
   obtain ⟨kb,cap,tl,hkv,hcap,hrk⟩:=hb3.1.kept.some (by show 0<d.step.n;omega)
   have HKV:Hid (∀_:Unit,kv=.slice (some ⟨kb,0,none⟩) d.step.n cap):=fun _=>hkv
   have HKB:Hid (∀_:Unit,kb∈kbOf kv):=fun _=>by rw [hkv];simp [kbOf];show ¬d.step.n=0;omega
   obtain ⟨n,hn⟩:∃n,n=d.step.n:=⟨_,rfl⟩
   have HN:Hid (∀_:Unit,d.step.n=n):=fun _=>hn.symm
   have HKE:Hid (kv=.slice (some ⟨kb,0,none⟩) n cap):=by show _=_;rw [hkv,hn];rfl
   rw [←hn] at hi
   have hm:=Mem.start w3
   clear hkey hlk hv hat hg3 hs3 ex hhas hpi hok hb3 hkv hcap hrk hn HR HUR hrg3 hpl HRR
   go_wp2_with (first
    | ((with_reducible refine aa (some 4) (.alloc 250) ?_);refine af _ eb hm ?_;clear hm;intro w4 q hm)
    | ((with_reducible refine aa none (.store 250 (.tmp 4) (.tmp 17)) ?_);refine ag 0 (u8s l) hm rfl rfl rfl 64 dJ (HZ.out) (HLL.out) (ar _) ?_;clear hm;intro w5 hm))
   refine dq 6 (by kernel_rfl) (by kernel_rfl) hm ?_
   clear hm
   intro w6 hm
   simp only [List.take_succ_cons,List.take_zero,List.drop_succ_cons,List.drop_zero]
   still_step
   still_step
   still_step
   refine fY 0 (.slice (some ⟨kb,0,none⟩) n cap) (DkAt.row (HB3.out.mem hm)) rfl ag_cons (by rw [←HKE.out];rfl) ?_
   still_step
   refine lv 0 0 (u8s l) hm rfl rfl _ gQ rfl 64 dJ (by rw [HLL.out];omega) (by rw [List.drop_zero,List.take_of_length_le (by rw [HLL.out];omega)]) ?_
   refine wpStill_nil ?_
   go_wp2_with (first
    | ((with_reducible refine aa (some 24) (.indexAddr 130 (.tmp 21) (.tmp 22)) ?_);refine ae (.pointer (some ⟨kb,i * 64,none⟩)) rfl (exec_ixK i rfl rfl rfl hi) ?_)
    | ((with_reducible refine aa none (.store 250 (.tmp 24) (.tmp 23)) ?_);go_must (refine wpl_stK (d:=d.step.fl left) i l (by have h:=HB3.out.mem hm;rw [HKE.out] at h;exact h) (HN.out ()) hi rfl rfl HL1.out HLB.out ?_);intro w7 hd7 hu7;have HD7:Hid _:=hd7;have HU7:Hid _:=hu7;clear hd7 hu7))
   have hrg3':w3.ranges Tryz.prog 3 rdV mb w1.heap.size qn D (fun z=>left z && !z.sameKey (.int .i64 (i:Int))) cnt3:=HRG3.out
   have hrg7:=World.ranges.kept (World.ranges.kept hrg3' (br hm.below) (by simp) (by simp)) (dF HU7.out) (by
    have:=(DkAt.ne_k (HB3.out.mem hm) kb (HKB.out ())).2
    intro e
    exact this (Option.some.inj e).symm) (by
    have:=HFT.out kb (by simp only [foot,List.mem_cons];exact Or.inr (Or.inr (HKB.out ())))
    intro e
    have:=Option.some.inj e
    omega)
   have HRG7:Hid (w7.ranges Tryz.prog 3 rdV mb w1.heap.size qn D (fun z=>left z && !z.sameKey (.int .i64 (i:Int))) cnt3):=hrg7
   have HRL7:Hid (w7.rangeLeft mb w1.heap.size=cnt3):=hrg7.left_eq
   clear hrg7 hrg3'
   go_frame
   go_roundw
   case rel =>
    refine ⟨_,cnt3,HRG7.out,?_,(HU3.out.trans (UpdS.of_below hm.below)).trans (UpdS.of_upd HU7.out (by simp only [foot,List.mem_cons];exact Or.inr (Or.inr (HKB.out ()))))⟩
    have h7:=HD7.out
    rw [←HKE.out] at h7
    refine h7.congr ?_
    show ({d.step.fl left with kept:=upf (d.step.flOf left) i l}:Dk)=d.step.fl _
    rw [Dk.fl,Dk.fl,Dk.flOf_step d.step left i l HPL.out]
   case measure=>rw [HRL7.out,HRL.out];exact hlt
theorem flush_any (g mb:Nat) (kv:Value) (d:Dk) (hnu:d.Num) (w:World) (hd:DkAt w g mb kv d) :
  Calls Tryz.prog 120 #[.pointer (some ⟨g,0,none⟩)] w fun e w'=>e=.returned (.int .i64 d.fcode)∧DkAt w' g mb kv d.flush∧UpdS (foot g mb kv) w w':=by
 unfold Dk.fcode Dk.flush
 cases ho:d.step.off with
 | true =>
  rw [if_pos rfl,if_pos rfl]
  exact flush_off g mb kv d ho hnu w hd
 | false =>
  rw [if_neg (by simp),if_neg (by simp)]
  exact flush_good g mb kv d ho hnu w hd
open Go Go.RowKit Go.Maps
theorem eD (n:Int) (h : -9223372036854775808≤n∧n≤9223372036854775807):wrap64 n=n:=by unfold wrap64;omega
theorem ec (n:Nat) (h:n<18446744073709551616):IntKind.u64.wrap (n:Int)=(n:Int):=by simp [IntKind.wrap,IntKind.signed,IntKind.bits];omega
theorem un_sta:∃fs,Tryz.prog.underlying 162=some (.struct fs):=⟨_,Tryz.underlying162⟩
theorem dx:(Tryz.prog.info? 162).map (·.size)=some 1:=by kernel_rfl
theorem sz_u64:(Tryz.prog.info? 109).map (·.size)=some 1:=by kernel_rfl
theorem aI:∀w,(isAgg 109).run Tryz.prog w=.ok false w:=by intro w;simp [go_sem]
theorem cV:Tryz.prog.underlying 115=some (.array 4 5):=Tryz.underlying115
theorem info_idx:(Tryz.prog.info? 115).map (fun i=>(i.zero,i.size))=some (some (.agg (u8s (List.replicate 4 0)).toArray),4):=by kernel_rfl
theorem eG:∀w,(zeroValue 115).run Tryz.prog w=.ok (.agg (u8s (List.replicate 4 0)).toArray) w:=(zero_of_info info_idx).1
theorem cF:(Tryz.prog.info? 115).map (·.size)=some 4:=(zero_of_info info_idx).2
theorem ej (id:Nat) (h:id≤4294967295) (w:World) :
  Calls Tryz.prog 134 #[.int .u32 (id:Int)] w fun e w'=>e=.returned (.int .i64 ((32+8 * id:Nat):Int))∧w'=w:=by
 go_enter Tryz.func134,Tryz.ntmps134
 go_wp2
 go_ret
 refine ⟨?_,rfl⟩
 show Ending.returned (Value.int .i64 _)=_
 congr 2
 first|omega|(rw [show ((32+8 * id:Nat):Int)=32+(id:Int) * 8 by omega])
theorem iq (g mb:Nat) (kv:Value) (d:Dk) (pg:Nat) (hn:d.n=32+8 * pg) (hp:pg≤400) (w:World) (hd:DkAt w g mb kv d) :
  Calls Tryz.prog 42 #[.pointer (some ⟨g,0,none⟩)] w fun x w'=>x=.returned (.int .i64 (pg:Int))∧w'=w:=by
 obtain ⟨i,hi⟩:∃i:Int,i=(d.n:Int):=⟨_,rfl⟩
 have HI:Hid (i=(d.n:Int)):=hi
 have hi2:i=32+8 * (pg:Int):=by omega
 have HW:wrap64 (i - 32)=8 * (pg:Int):=by rw [hi2,eD _ (by omega)];omega
 have HD:(8 * (pg:Int)).tdiv 8=(pg:Int):=by rw [Int.tdiv_eq_ediv_of_nonneg (by omega)];omega
 have HV:wrap64 (pg:Int)=(pg:Int):=eD _ (by omega)
 have h0:¬8 * (pg:Int)<0:=by omega
 have h4:¬400<(pg:Int):=by omega
 clear hi hi2
 go_enter Tryz.func42,Tryz.ntmps42
 go_wp2_with (go_at_call 71;refine (len_any g mb kv d _ hd).mono ?_;rintro e w1 ⟨he,rfl⟩;rw [←HI.out] at he;subst he)
 all_goals (first|(go_ret;exact ⟨rfl,rfl⟩)|omega)
theorem cg (x:Int) (w:World) :
  Calls Tryz.prog 132 #[.int .u32 x] w fun e w'=>e=.returned (.agg (u8s (four x)).toArray)∧Below w.heap.size w w':=by
 have hm:=Mem.start w
 go_enter Tryz.func132,Tryz.ntmps132
 go_wp2_with (first
  | ((with_reducible refine aa (some 2) (.alloc 115) ?_);refine af _ eG hm ?_;clear hm;intro w1 g hm)
  | (go_at_call 177;refine (mA x _).mono ?_;rintro e w2 ⟨rfl,hb⟩;replace hm:=hm.call hb;clear hb)
  | ((with_reducible refine aa none (.store 115 (.tmp 2) (.tmp 4)) ?_);refine ag 0 (u8s (four x)) hm rfl rfl rfl 4 cF (by simp [ab]) (rfl) (ar _) ?_;clear hm;intro w3 hm))
 exact ay 0 hm rfl Tryz.results132 rfl _ cV rfl 4 cF rfl rfl ⟨rfl,hm.below⟩
theorem and_mask (z:Nat) (h:z<18446744073709551616):Go.bits .and .u64 (z:Int) 536870911=((z % 536870912:Nat):Int):=by
 have ho:∀a:Nat,a<18446744073709551616→(BitVec.ofInt 64 (a:Int)).toNat=a:=by
  intro a ha
  rw [BitVec.toNat_ofInt]
  omega
 show IntKind.u64.wrap ((BitVec.ofInt 64 (z:Int) &&& BitVec.ofInt 64 ((536870911:Nat):Int)).toNat:Int)=_
 rw [BitVec.toNat_and,ho z h,ho 536870911 (by omega),show 536870911=2 ^ 29 - 1 by decide,Nat.and_two_pow_sub_one_eq_mod,ec _ (by omega)]
theorem below_go (limit low:Int):IntKind.u64.wrap (IntKind.u64.wrap (limit - 1) - Go.bits .and .u64 (IntKind.u64.wrap (IntKind.u64.wrap (limit - 1) - low)) 536870911)=genB limit low:=by
 have hw64:∀x:Int,IntKind.u64.wrap x=x % 18446744073709551616:=by intro x;simp [IntKind.wrap,IntKind.bits,IntKind.signed]
 obtain ⟨z,hz⟩:∃z:Nat,(z:Int)=((limit - 1) % 18446744073709551616 - low) % 18446744073709551616:=⟨(((limit - 1) % 18446744073709551616 - low) % 18446744073709551616).toNat,by omega⟩
 rw [hw64,hw64,hw64,←hz,and_mask z (by omega)]
 unfold genB
 omega
theorem fR:∃fs,Tryz.prog.underlying 111=some (.struct fs):=⟨_,Tryz.underlying111⟩
theorem bX:(Tryz.prog.info? 111).map (·.size)=some 3:=by kernel_rfl
theorem info_gens:(Tryz.prog.info? 111).map (fun i=>(i.zero,i.size))=some (some (.agg [.int .u64 0,.int .u64 0,.int .u64 0].toArray),3):=by kernel_rfl
theorem iC:∀w,(zeroValue 111).run Tryz.prog w=.ok (.agg [.int .u64 0,.int .u64 0,.int .u64 0].toArray) w:=(zero_of_info info_gens).1
theorem lg (s:Int) (w:World) :
  Calls Tryz.prog 133 #[.agg #[.int .u64 s]] w fun e w'=>e=.returned (.bool (decide (0<s)))∧Below w.heap.size w w':=by
 have hm:=Mem.start w
 go_enter Tryz.func133,Tryz.ntmps133
 go_wp2_with (first
  | ((with_reducible refine aa (some 1) (.box 162 (.tmp 0)) ?_);refine ak [.int .u64 s] rfl hm ?_;clear hm;intro w1 g hm)
  | ((with_reducible refine aa (some 4) (.load 109 (.tmp 3)) ?_);refine ai 0 0 (.int .u64 s) hm rfl rfl aI (rfl) ?_))
 go_ret
 exact ⟨rfl,hm.below⟩
theorem none_any (a b c:Int) (w:World) :
  Calls Tryz.prog 197 #[.agg #[.int .u64 a,.int .u64 b,.int .u64 c]] w fun e w'=>e=.returned (.bool (b==c))∧Below w.heap.size w w':=by
 have hm:=Mem.start w
 go_enter Tryz.func197,Tryz.ntmps197
 go_wp2_with (first
  | ((with_reducible refine aa (some 1) (.box 111 (.tmp 0)) ?_);refine ak [.int .u64 a,.int .u64 b,.int .u64 c] rfl hm ?_;clear hm;intro w1 g hm)
  | ((with_reducible refine aa (some 4) (.load 109 (.tmp 3)) ?_);refine ai 0 1 (.int .u64 b) hm rfl rfl aI (rfl) ?_)
  | ((with_reducible refine aa (some 6) (.load 109 (.tmp 5)) ?_);refine ai 0 2 (.int .u64 c) hm rfl rfl aI (rfl) ?_))
 go_ret
 exact ⟨rfl,hm.below⟩
theorem genBelow_any (limit low:Int) (w:World) :
  Calls Tryz.prog 207 #[.int .u64 limit,.int .u64 low] w fun e w'=>e=.returned (.int .u64 (genB limit low))∧w'=w:=by
 have HA:Hid (∀_:Unit,IntKind.u64.wrap (IntKind.u64.wrap (limit - 1) - Go.bits .and .u64 (IntKind.u64.wrap (IntKind.u64.wrap (limit - 1) - low)) 536870911)=genB limit low):=fun _=>below_go limit low
 go_enter Tryz.func207,Tryz.ntmps207
 go_wp2_with fail
 go_ret
 exact ⟨by rw [←HA.out ()];simp,rfl⟩
end Go.Proofs.YtmlbjfklaehjnaaGreatDoor
