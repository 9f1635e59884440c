import Derived.Lib.ConvBytes
import Derived.Lib.BufferWrite
import Derived.Laws.BitsAllLaws
import Derived.Test.YtmlbjfklaehjnaaGreatDoorProg
import Derived.Test.YtmlbjfklaehjnaaGreatDoorQc29
import Derived.Sort.Walk0
import Derived.Maps.AppendAt
set_option maxRecDepth 100000
set_option maxHeartbeats 4000000
namespace Go.Proofs.YtmlbjfklaehjnaaGreatDoor
open Go Go.RowKit
theorem un_u32:Tryz.prog.underlying 25=some (.int .u32):=Tryz.underlying25
theorem dc:Tryz.prog.underlying 59=some (.slice 25):=Tryz.underlying59
theorem bw:Tryz.prog.underlying 28=some (.slice 44):=Tryz.underlying28
theorem jG:(Tryz.prog.info? 25).map (fun i=>(i.zero,i.size,i.bytes))=some (some (.int .u32 0),1,4):=by kernel_rfl
theorem eC:(Tryz.prog.info? 44).map (fun i=>(i.zero,i.size,i.bytes))=some (some (.agg [.string ByteArray.empty,.string ByteArray.empty].toArray),2,32):=by kernel_rfl
theorem j1:(Tryz.prog.info? 25).map (fun i=>(i.zero,i.size))=some (some (.int .u32 0),1):=by kernel_rfl
theorem info_pair:(Tryz.prog.info? 44).map (fun i=>(i.zero,i.size))=some (some (.agg [.string ByteArray.empty,.string ByteArray.empty].toArray),2):=by kernel_rfl
theorem bB:∀w,(zeroValue 44).run Tryz.prog w=.ok (.agg [.string ByteArray.empty,.string ByteArray.empty].toArray) w:=(zero_of_info info_pair).1
theorem kw:(Tryz.prog.info? 9).map (·.size)=some 1:=by kernel_rfl
theorem bA:(Tryz.prog.info? 44).map (·.size)=some 2:=by kernel_rfl
theorem un_pair:∃fs,Tryz.prog.underlying 44=some (.struct fs):=⟨_,Tryz.underlying44⟩
theorem a8:∀w,(isAgg 9).run Tryz.prog w=.ok false w:=by intro w;simp [go_sem]
section
variable {P:Program} {ops:Array Oper} {rest:List Oper} {a:Act} {w w0:World} {Q:Exit→Act→World→Prop} {dst:Option Tmp} {typ:TypeId} {pos:String} {aft:Array Edge} {gd:Option (Nat×Bool)} {S:List Nat} {rows:List (Nat×List Value×TypeId)}
end
section
variable {P:Program} {ops:Array Oper} {rest:List Oper} {a:Act} {w w0:World} {Q:Exit→Act→World→Prop} {dst:Option Tmp} {typ:TypeId} {pos:String} {aft:Array Edge} {gd:Option (Nat×Bool)} {S:List Nat} {rows:List (Nat×List Value×TypeId)}
end
section
variable {P:Program} {a:Act} {w:World} {dst:Option Tmp} {typ:TypeId} {pos:String} {aft:Array Edge} {gd:Option (Nat×Bool)}
end
open Go Go.RowKit
def noStr:ByteArray:=ByteArray.empty
def less (a b:ByteArray):Bool:=Op.bytesLess a.toList b.toList
def fitK (k:ByteArray):Bool:=decide (1≤k.size)&&decide (k.size≤60)
def okKey (ks:List ByteArray) (i:Nat):Bool:=fitK (ks.getD i noStr)&&(decide (i=0)||less (ks.getD (i - 1) noStr) (ks.getD i noStr))
def okKeys (ks:List ByteArray):Nat→Bool
 | 0=>true
 | n+1=>okKeys ks n&&okKey ks n
def okVals (l:List (ByteArray×ByteArray)):Nat→Bool
 | 0=>true
 | n+1=>okVals l n&&decide ((l.getD n (noStr,noStr)).2.size≤150)
def okPair (l:List (ByteArray×ByteArray)) (i:Nat):Bool:=decide ((l.getD i (noStr,noStr)).2.size≤150)&&okKey (l.map Prod.fst) i
def okPairs (l:List (ByteArray×ByteArray)):Nat→Bool
 | 0=>true
 | n+1=>okPairs l n&&okPair l n
theorem jr {l:List (ByteArray×ByteArray)} {n m:Nat} (h:n≤m) (hn:okPairs l n=false):okPairs l m=false:=by
 induction m with
 | zero=>rw [Nat.le_zero.1 h] at hn;exact hn
 | succ m ih =>
  rcases Nat.lt_or_ge n (m+1) with h1|h1
  ·rw [okPairs,ih (by omega)];rfl
  ·rw [show n=m+1 by omega] at hn;exact hn
theorem okPairs_at {l:List (ByteArray×ByteArray)} {n i:Nat} (h:okPairs l n=true) (hi:i<n):okPair l i=true:=by
 induction n with
 | zero=>omega
 | succ n ih =>
  rw [okPairs,Bool.and_eq_true] at h
  rcases Nat.lt_or_ge i n with h1|h1
  ·exact ih h.1 h1
  ·rw [show i=n by omega];exact h.2
theorem fst_getD (l:List (ByteArray×ByteArray)) (i:Nat):(l.map Prod.fst).getD i noStr=(l.getD i (noStr,noStr)).1:=by
 by_cases h:i<l.length
 ·simp [h]
 ·simp [h]
theorem okPair_eq (l:List (ByteArray×ByteArray)) (i:Nat):okPair l i=(decide ((l.getD i (noStr,noStr)).2.size≤150)&&(fitK (l.getD i (noStr,noStr)).1&&(decide (i=0)||less (l.getD (i - 1) (noStr,noStr)).1 (l.getD i (noStr,noStr)).1))):=by
 rw [okPair,okKey,fst_getD,fst_getD]
def textB (s:ByteArray):List Int:=be2 s.size++strB s
theorem bF (s:ByteArray):(textB s).length=2+s.size:=by simp [textB,aH,a6]
theorem lf (s:ByteArray):Bytes (textB s):=(fx _).append (cW _)
theorem strOf_strB (s:ByteArray):strOf (strB s)=s:=by
 apply ByteArray.ext
 apply Array.ext'
 simp only [strOf,strB,List.map_map]
 exact (List.map_congr_left (fun b _=>by simp)).trans (List.map_id _)
def gtNum (cs:List Int):Nat:=(numL (cs.take 2)).toNat
def gtCode (cs:List Int) (m:Nat):Int:=if cs.length<2 then 10 else if m<gtNum cs then 11 else if cs.length<2+gtNum cs then 10 else 0
def gtStr (cs:List Int) (m:Nat):ByteArray:=if gtCode cs m=0 then strOf ((cs.drop 2).take (gtNum cs)) else noStr
def gtRest (cs:List Int) (m:Nat):List Int:=if gtCode cs m=0 then cs.drop (2+gtNum cs) else cs
theorem fK {cs:List Int} (h:Bytes cs) (m:Nat):Bytes (gtRest cs m):=by
 unfold gtRest;split
 ·exact h.drop _
 ·exact h
theorem ft (cs:List Int) (m:Nat):(gtRest cs m).length≤cs.length:=by
 unfold gtRest;split
 ·rw [List.length_drop];omega
 ·exact Nat.le_refl _
theorem jd (s:ByteArray) (r:List Int) (h:s.size<65536):gtNum (textB s++r)=s.size:=by
 unfold gtNum textB
 rw [List.append_assoc,List.take_append_of_le_length (by simp [aH]),List.take_of_length_le (by simp [aH]),numL_be2 (by omega)]
 rfl
theorem fa (s:ByteArray) (r:List Int) (m:Nat) (h:s.size≤m) (hm:m<65536):gtCode (textB s++r) m=0:=by
 unfold gtCode
 rw [jd s r (by omega),List.length_append,bF,if_neg (by omega),if_neg (by omega),if_neg (by omega)]
theorem m3 (s:ByteArray) (r:List Int) (m:Nat) (h:s.size≤m) (hm:m<65536):gtStr (textB s++r) m=s:=by
 unfold gtStr
 rw [if_pos (fa s r m h hm),jd s r (by omega)]
 unfold textB
 rw [List.append_assoc,List.drop_append_of_le_length (by simp [aH]),List.drop_of_length_le (by simp [aH]),List.nil_append,List.take_append_of_le_length (by rw [a6];exact Nat.le_refl _),List.take_of_length_le (by rw [a6];exact Nat.le_refl _),strOf_strB]
theorem gX (s:ByteArray) (r:List Int) (m:Nat) (h:s.size≤m) (hm:m<65536):gtRest (textB s++r) m=r:=by
 unfold gtRest
 rw [if_pos (fa s r m h hm),jd s r (by omega),List.drop_append_of_le_length (by rw [bF];exact Nat.le_refl _),List.drop_of_length_le (by rw [bF];exact Nat.le_refl _),List.nil_append]
def pairB (p:ByteArray×ByteArray):List Int:=textB p.1++textB p.2
def texts (l:List (ByteArray×ByteArray)):List Int:=l.flatMap pairB
def psz (p:ByteArray×ByteArray):Nat:=4+p.1.size+p.2.size
def szP (l:List (ByteArray×ByteArray)):Nat:=3+(l.map psz).sum
theorem pairB_length (p:ByteArray×ByteArray):(pairB p).length=psz p:=by
 rw [pairB,List.length_append,bF,bF,psz];omega
theorem texts_length (l:List (ByteArray×ByteArray)):3+(texts l).length=szP l:=by
 unfold texts szP
 congr 1
 induction l with
 | nil=>rfl
 | cons p l ih=>rw [List.flatMap_cons,List.length_append,ih,pairB_length,List.map_cons,List.sum_cons]
theorem texts_append (l m:List (ByteArray×ByteArray)):texts (l++m)=texts l++texts m:=by simp [texts]
theorem texts_one (p:ByteArray×ByteArray):texts [p]=textB p.1++textB p.2:=by simp [texts,pairB]
theorem mM (l m:List (ByteArray×ByteArray)):szP (l++m)=szP l+(m.map psz).sum:=by simp [szP];omega
theorem kE {α:Type} (l:List α) (n:Nat) (d:α) (h:n<l.length):l.take (n+1)=l.take n++[l.getD n d]:=by
 rw [List.take_add_one,List.getElem?_eq_getElem h,Option.toList_some];simp [h]
theorem szP_take (l:List (ByteArray×ByteArray)) (n:Nat) (h:n<l.length):szP (l.take (n+1))=szP (l.take n)+psz (l.getD n (noStr,noStr)):=by
 rw [kE l n (noStr,noStr) h,mM];simp
theorem lm (l:List (ByteArray×ByteArray)) (n:Nat):szP (l.take n)≤szP l:=by
 have h:szP l=szP (l.take n)+((l.drop n).map psz).sum:=by rw [←mM,List.take_append_drop]
 omega
theorem szP_len (l:List (ByteArray×ByteArray)):3+4 * l.length≤szP l:=by
 unfold szP
 induction l with
 | nil=>simp
 | cons p l ih=>simp only [List.map_cons,List.sum_cons,List.length_cons,psz] at ih ⊢;omega
def leafB (l:List (ByteArray×ByteArray)):List Int:=[1]++be2 l.length++texts l
theorem bW (l:List (ByteArray×ByteArray)):(leafB l).length=szP l:=by
 rw [leafB,List.length_append,←texts_length];simp [aH]
theorem texts_bytes (l:List (ByteArray×ByteArray)):Bytes (texts l):=by
 intro x hx
 obtain ⟨p,_,hp⟩:=List.mem_flatMap.1 hx
 exact ((lf _).append (lf _)) x hp
theorem gT (l:List (ByteArray×ByteArray)):Bytes (leafB l) :=
 (((show Bytes [1] by intro x hx;simp at hx;omega)).append (fx _)).append (texts_bytes l)
def leafCode (l:List (ByteArray×ByteArray)):Int:=if okPairs l l.length=false then 90 else if 480<szP l then 11 else 0
def leafOut (l:List (ByteArray×ByteArray)):List Int:=if leafCode l=0 then leafB l else []
theorem leafCode_ok {l:List (ByteArray×ByteArray)} (h:leafCode l=0):okPairs l l.length=true∧szP l≤480:=by
 unfold leafCode at h
 split at h
 ·simp at h
 ·rename_i h1
  split at h
  ·simp at h
  ·exact ⟨by simpa using h1,by omega⟩
theorem leafCode_of {l:List (ByteArray×ByteArray)} (h:okPairs l l.length=true) (h2:szP l≤480):leafCode l=0:=by
 rw [leafCode,if_neg (by rw [h];simp),if_neg (by omega)]
theorem js {l:List (ByteArray×ByteArray)} (h:okPairs l l.length=true) (i:Nat) (hi:i<l.length):(l.getD i (noStr,noStr)).1.size≤60∧(l.getD i (noStr,noStr)).2.size≤150:=by
 have h1:=okPairs_at h hi
 simp only [okPair,okKey,fitK,Bool.and_eq_true,decide_eq_true_eq] at h1
 refine ⟨?_,h1.1⟩
 have h2:=h1.2.1.2
 simpa [List.getD_eq_getElem?_getD,hi] using h2
def headB (b:List Int) (k:Int):Bool:=decide (3≤b.length∧b.length≤480∧b.getD 0 0=k)
def cnt (b:List Int):Nat:=(b.getD 1 0 * 256+b.getD 2 0).toNat
def restL (r:List Int):Nat→List Int
 | 0=>r
 | n+1=>gtRest (gtRest (restL r n) 60) 150
def pairL (r:List Int) (n:Nat):ByteArray×ByteArray:=(gtStr (restL r n) 60,gtStr (gtRest (restL r n) 60) 150)
def goodL (r:List Int) (n:Nat):Bool:=decide (gtCode (restL r n) 60=0)&&decide (gtCode (gtRest (restL r n) 60) 150=0)
def okL (r:List Int):Nat→Bool
 | 0=>true
 | n+1=>okL r n&&goodL r n
def listL (r:List Int):Nat→List (ByteArray×ByteArray)
 | 0=>[]
 | n+1=>listL r n++[pairL r n]
theorem jR (r:List Int) (n:Nat):(listL r n).length=n:=by
 induction n with
 | zero=>rfl
 | succ n ih=>rw [listL,List.length_append,ih];rfl
theorem okL_le {r:List Int} {n m:Nat} (h:n≤m) (hn:okL r n=false):okL r m=false:=by
 induction m with
 | zero=>rw [Nat.le_zero.1 h] at hn;exact hn
 | succ m ih =>
  rcases Nat.lt_or_ge n (m+1) with h1|h1
  ·rw [okL,ih (by omega)];rfl
  ·rw [show n=m+1 by omega] at hn;exact hn
theorem restL_bytes {r:List Int} (h:Bytes r) (n:Nat):Bytes (restL r n):=by
 induction n with
 | zero=>exact h
 | succ n ih=>exact fK (fK ih _) _
theorem restL_length (r:List Int) (n:Nat):(restL r n).length≤r.length:=by
 induction n with
 | zero=>exact Nat.le_refl _
 | succ n ih=>exact Nat.le_trans (ft _ _) (Nat.le_trans (ft _ _) ih)
def rlOk (b:List Int):Bool:=headB b 1&&okL (b.drop 3) (cnt b)&&decide (leafCode (listL (b.drop 3) (cnt b))=0)&&decide (leafB (listL (b.drop 3) (cnt b))=b)
def rlOut (b:List Int):List (ByteArray×ByteArray):=if rlOk b then listL (b.drop 3) (cnt b) else []
theorem restL_texts {l:List (ByteArray×ByteArray)} (h:okPairs l l.length=true) (r:List Int) (n:Nat) (hn:n≤l.length):restL (texts l++r) n=texts (l.drop n)++r:=by
 induction n with
 | zero=>rfl
 | succ n ih =>
  obtain ⟨h1,h2⟩:=js h n (by omega)
  have e:l.drop n=l.getD n (noStr,noStr)::l.drop (n+1):=by
   rw [List.drop_eq_getElem_cons (show n<l.length by omega)];simp [show n<l.length by omega]
  rw [restL,ih (by omega),e]
  simp only [texts,List.flatMap_cons,pairB,List.append_assoc]
  rw [gX _ _ _ h1 (by omega),gX _ _ _ h2 (by omega)]
theorem pairL_texts {l:List (ByteArray×ByteArray)} (h:okPairs l l.length=true) (r:List Int) (n:Nat) (hn:n<l.length):pairL (texts l++r) n=l.getD n (noStr,noStr)∧goodL (texts l++r) n=true:=by
 obtain ⟨h1,h2⟩:=js h n hn
 have e:l.drop n=l.getD n (noStr,noStr)::l.drop (n+1):=by
  rw [List.drop_eq_getElem_cons hn];simp [hn]
 unfold pairL goodL
 rw [restL_texts h r n (by omega),e]
 simp only [texts,List.flatMap_cons,pairB,List.append_assoc]
 rw [m3 _ _ _ h1 (by omega),fa _ _ _ h1 (by omega),gX _ _ _ h1 (by omega),m3 _ _ _ h2 (by omega),fa _ _ _ h2 (by omega)]
 exact ⟨rfl,rfl⟩
theorem listL_texts {l:List (ByteArray×ByteArray)} (h:okPairs l l.length=true) (r:List Int) (n:Nat) (hn:n≤l.length):listL (texts l++r) n=l.take n∧okL (texts l++r) n=true:=by
 induction n with
 | zero=>exact ⟨rfl,rfl⟩
 | succ n ih =>
  obtain ⟨i1,i2⟩:=ih (by omega)
  obtain ⟨h1,h2⟩:=pairL_texts h r n (by omega)
  rw [listL,okL,i1,i2,h1,h2,kE l n (noStr,noStr) (by omega)]
  exact ⟨rfl,rfl⟩
theorem listL_all {l:List (ByteArray×ByteArray)} (h:okPairs l l.length=true) (r:List Int):listL (texts l++r) l.length=l∧okL (texts l++r) l.length=true:=by
 obtain ⟨h1,h2⟩:=listL_texts h r l.length (Nat.le_refl _)
 rw [List.take_length] at h1
 exact ⟨h1,h2⟩
theorem leafB_drop (l:List (ByteArray×ByteArray)) (r:List Int):(leafB l++r).drop 3=texts l++r:=by simp [leafB,be2]
theorem leafB_cnt (l:List (ByteArray×ByteArray)) (h:l.length<65536) (r:List Int):cnt (leafB l++r)=l.length:=by
 simp [cnt,leafB,be2];omega
theorem leafB_head (l:List (ByteArray×ByteArray)) (r:List Int):(leafB l++r).getD 0 0=1:=by simp [leafB]
theorem rl_back {l:List (ByteArray×ByteArray)} (h:leafCode l=0):rlOk (leafB l)=true∧rlOut (leafB l)=l:=by
 obtain ⟨h1,h2⟩:=leafCode_ok h
 have hl:=szP_len l
 have e1:(leafB l).drop 3=texts l++[]:=by rw [←leafB_drop,List.append_nil]
 have e2:cnt (leafB l)=l.length:=by rw [←leafB_cnt l (by omega) [],List.append_nil]
 obtain ⟨e3,e4⟩:=listL_all h1 []
 have e5:headB (leafB l) 1=true:=by
  unfold headB
  rw [bW]
  have:=leafB_head l []
  rw [List.append_nil] at this
  exact decide_eq_true ⟨by omega,h2,this⟩
 have e6:rlOk (leafB l)=true:=by
  unfold rlOk
  rw [e1,e2,e3,e4,e5,h];simp
 refine ⟨e6,?_⟩
 rw [rlOut,e6,if_pos rfl,e1,e2,e3]
theorem li {cs:List Int} {m:Nat} (h:gtCode cs m=0):(gtRest cs m).length+2≤cs.length:=by
 rw [gtRest,if_pos h,List.length_drop]
 unfold gtCode at h
 split at h
 ·simp at h
 ·split at h
  ·simp at h
  ·split at h
   ·simp at h
   ·omega
theorem mC (cs:List Int) (m:Nat):(gtStr cs m).size≤m:=by
 unfold gtStr
 split
 ·rename_i h
  rw [fI,List.length_take]
  unfold gtCode at h
  split at h
  ·simp at h
  ·split at h
   ·simp at h
   ·omega
 ·exact Nat.zero_le _
theorem okL_len {r:List Int} {n:Nat} (h:okL r n=true):(restL r n).length+4 * n≤r.length:=by
 induction n with
 | zero=>simp [restL]
 | succ n ih =>
  rw [okL,Bool.and_eq_true] at h
  have h1:=ih h.1
  have h2:=h.2
  simp only [goodL,Bool.and_eq_true,decide_eq_true_eq] at h2
  have h3:=li h2.1
  have h4:=li h2.2
  rw [restL]
  omega
theorem listL_sizes (r:List Int) (n:Nat):∀p∈listL r n,p.1.size≤60∧p.2.size≤150:=by
 induction n with
 | zero=>intro p hp;cases hp
 | succ n ih =>
  intro p hp
  rw [listL,List.mem_append] at hp
  rcases hp with hp|hp
  ·exact ih p hp
  ·simp only [List.mem_cons,List.not_mem_nil,or_false] at hp
   subst hp
   exact ⟨mC _ _,mC _ _⟩
theorem rl_head {b:List Int} (h:headB b 1=false):rlOk b=false:=by unfold rlOk;rw [h];rfl
theorem rl_bad {b:List Int} {k:Nat} (hk:k≤cnt b) (h:okL (b.drop 3) k=false):rlOk b=false:=by
 unfold rlOk;rw [okL_le hk h];simp
theorem rl_code {b:List Int} (h:¬leafCode (listL (b.drop 3) (cnt b))=0):rlOk b=false:=by
 unfold rlOk;rw [decide_eq_false h];simp
theorem rl_eq {b:List Int} (h:¬leafB (listL (b.drop 3) (cnt b))=b):rlOk b=false:=by
 unfold rlOk;rw [decide_eq_false h];simp
theorem rl_yes {b:List Int} (h1:headB b 1=true) (h2:okL (b.drop 3) (cnt b)=true) (h3:leafCode (listL (b.drop 3) (cnt b))=0) (h4:leafB (listL (b.drop 3) (cnt b))=b):rlOk b=true:=by
 unfold rlOk;rw [h1,h2,h3,h4];simp
def keysB (ks:List ByteArray):List Int:=ks.flatMap textB
def kidsB (kids:List Int):List Int:=kids.flatMap be4
def ksz (ks:List ByteArray):Nat:=(ks.map fun k=>2+k.size).sum
def szB (ks:List ByteArray) (m:Nat):Nat:=3+4 * m+ksz ks
def branchB (ks:List ByteArray) (kids:List Int):List Int:=[2]++be2 ks.length++keysB ks++kidsB kids
def okBr (ks:List ByteArray) (m:Nat):Bool:=decide (ks.length≠0)&&decide (m=ks.length+1)&&okKeys ks ks.length
def branchCode (ks:List ByteArray) (m:Nat):Int:=if okBr ks m=false then 90 else if 480<szB ks m then 11 else 0
def branchOut (ks:List ByteArray) (kids:List Int):List Int:=if branchCode ks kids.length=0 then branchB ks kids else []
def restK (r:List Int):Nat→List Int
 | 0=>r
 | n+1=>gtRest (restK r n) 60
def okK (r:List Int):Nat→Bool
 | 0=>true
 | n+1=>okK r n&&decide (gtCode (restK r n) 60=0)
def listK (r:List Int):Nat→List ByteArray
 | 0=>[]
 | n+1=>listK r n++[gtStr (restK r n) 60]
def kidsL (r:List Int):Nat→List Int
 | 0=>[]
 | n+1=>kidsL r n++[numL ((r.drop (4 * n)).take 4)]
def rbKeys (b:List Int):List ByteArray:=listK (b.drop 3) (cnt b)
def rbTail (b:List Int):List Int:=restK (b.drop 3) (cnt b)
def rbKids (b:List Int):List Int:=kidsL (rbTail b) ((rbTail b).length / 4)
def rbOk (b:List Int):Bool:=headB b 2&&okK (b.drop 3) (cnt b)&&decide (branchCode (rbKeys b) (rbKids b).length=0)&&decide (branchB (rbKeys b) (rbKids b)=b)
def rbOutK (b:List Int):List ByteArray:=if rbOk b then rbKeys b else []
def rbOutI (b:List Int):List Int:=if rbOk b then rbKids b else []
open Go Go.RowKit
abbrev Pr:=ByteArray×ByteArray
theorem ba_ext {a b:ByteArray} (h:a.toList=b.toList):a=b:=by
 rw [ByteArray.toList_eq,ByteArray.toList_eq] at h
 have h2:=Array.toList_inj.1 h
 cases a
 cases b
 simp only at h2
 rw [h2]
theorem less_is (a b:ByteArray):less a b=decide (a.toList<b.toList):=bytesLess_eq _ _
theorem bh (a:ByteArray):less a a=false:=by
 rw [less_is]
 exact decide_eq_false (List.lt_irrefl _)
theorem dV {a b c:ByteArray} (h1:less a b=true) (h2:less b c=true):less a c=true:=by
 rw [less_is] at h1 h2 ⊢
 exact decide_eq_true (List.lt_trans (of_decide_eq_true h1) (of_decide_eq_true h2))
theorem jM {a b:ByteArray} (h:less a b=false) (hne:a≠b):less b a=true:=by
 rw [less_is] at h ⊢
 have h1:=of_decide_eq_false h
 refine decide_eq_true ?_
 have h2:b.toList≤a.toList:=List.not_lt.1 h1
 by_cases h3:b.toList<a.toList
 ·exact h3
 ·exact absurd (ba_ext (List.le_antisymm (List.not_lt.1 h3) h2)) hne
theorem fM {a b:ByteArray} (h:less a b=true):less b a=false:=by
 cases h2:less b a with
 | false=>rfl
 | true =>
  have h3:=dV h h2
  rw [bh] at h3
  cases h3
def Srt (l:List Pr):Prop:=l.Pairwise fun a b=>less a.1 b.1=true
def Fit (l:List Pr):Prop:=∀p∈l,fitK p.1=true∧p.2.size≤150
def lows (l:List Pr) (k:ByteArray):List Pr:=l.filter fun p=>less p.1 k
def highs (l:List Pr) (k:ByteArray):List Pr:=l.filter fun p=>less k p.1
def posP (l:List Pr) (k:ByteArray):Nat:=(lows l k).length
def hadP (l:List Pr) (k:ByteArray):Bool:=l.any fun p=>decide (p.1=k)
def insP (l:List Pr) (k v:ByteArray):List Pr:=lows l k++(k,v)::highs l k
def delP (l:List Pr) (k:ByteArray):List Pr:=lows l k++highs l k
theorem lows_none {a:Pr} {t:List Pr} {k:ByteArray} (hs:Srt (a::t)) (h:less a.1 k=false):lows t k=[]:=by
 unfold lows
 rw [List.filter_eq_nil_iff]
 intro b hb hlt
 have h1:=List.rel_of_pairwise_cons hs hb
 have h2:=dV h1 hlt
 rw [h] at h2
 cases h2
theorem highs_all {a:Pr} {t:List Pr} {k:ByteArray} (hs:Srt (a::t)) (h:less a.1 k=false):highs t k=t:=by
 unfold highs
 rw [List.filter_eq_self]
 intro b hb
 have h1:=List.rel_of_pairwise_cons hs hb
 by_cases he:a.1=k
 ·rw [←he];exact h1
 ·exact dV (jM h he) h1
theorem iK:∀ {l:List Pr} {k:ByteArray},Srt l→l.take (posP l k)=lows l k
 | [],_,_=>rfl
 | a::t,k,hs=>by
  cases h:less a.1 k with
  | true =>
   have h1:lows (a::t) k=a::lows t k:=by unfold lows;rw [List.filter_cons_of_pos (p:=fun p:Pr=>less p.1 k) h]
   rw [posP,h1,List.length_cons,List.take_succ_cons]
   have h2:=iK (k:=k) (List.Pairwise.of_cons hs)
   rw [posP] at h2
   rw [h2]
  | false =>
   have h1:lows (a::t) k=[]:=by
    have h2:=lows_none hs h
    unfold lows at h2 ⊢
    rw [List.filter_cons_of_neg (by rw [h];exact Bool.false_ne_true)]
    exact h2
   rw [posP,h1]
   rfl
theorem mY:∀ {l:List Pr} {k:ByteArray},Srt l→l.drop (posP l k+if hadP l k=true then 1 else 0)=highs l k
 | [],_,_=>by simp [highs]
 | a::t,k,hs=>by
  cases h:less a.1 k with
  | true =>
   have h1:lows (a::t) k=a::lows t k:=by unfold lows;rw [List.filter_cons_of_pos (p:=fun p:Pr=>less p.1 k) h]
   have hne:¬a.1=k:=fun e=>by rw [e,bh] at h;cases h
   have h2:hadP (a::t) k=hadP t k:=by unfold hadP;rw [List.any_cons,decide_eq_false hne,Bool.false_or]
   have h3:highs (a::t) k=highs t k:=by unfold highs;rw [List.filter_cons_of_neg (by rw [fM h];exact Bool.false_ne_true)]
   rw [posP,h1,List.length_cons,h2,h3,←mY (List.Pairwise.of_cons hs),posP,show (lows t k).length+1+(if hadP t k=true then 1 else 0)=((lows t k).length+if hadP t k=true then 1 else 0)+1 by omega,List.drop_succ_cons]
  | false =>
   have h1:lows (a::t) k=[]:=by
    have h2:=lows_none hs h
    unfold lows at h2 ⊢
    rw [List.filter_cons_of_neg (by rw [h];exact Bool.false_ne_true)]
    exact h2
   have h4:=highs_all hs h
   by_cases he:a.1=k
   ·have h2:hadP (a::t) k=true:=by unfold hadP;rw [List.any_cons,decide_eq_true he,Bool.true_or]
    have h3:highs (a::t) k=highs t k:=by unfold highs;rw [List.filter_cons_of_neg (by rw [he,bh];exact Bool.false_ne_true)]
    rw [posP,h1,h2,h3,h4]
    rfl
   ·have h5:=jM h he
    have h2:hadP (a::t) k=false:=by
     unfold hadP
     rw [List.any_eq_false]
     intro b hb
     rcases List.mem_cons.1 hb with rfl|hb
     ·simpa using he
     ·have h6:=dV h5 (List.rel_of_pairwise_cons hs hb)
      intro e
      rw [of_decide_eq_true e,bh] at h6
      cases h6
    have h3:highs (a::t) k=a::highs t k:=by unfold highs;rw [List.filter_cons_of_pos (p:=fun p:Pr=>less k p.1) h5]
    rw [posP,h1,h2,h3,h4]
    rfl
theorem ly (l:List Pr) (k:ByteArray):posP l k≤l.length:=List.length_filter_le _ _
theorem eM {l:List Pr} {k:ByteArray} (hs:Srt l) (j:Nat) (hj:j<l.length):less (l.getD j (noStr,noStr)).1 k=decide (j<posP l k):=by
 by_cases h:j<posP l k
 ·rw [decide_eq_true h]
  have h1:=iK (k:=k) hs
  have h2:(l.take (posP l k))[j]?=l[j]?:=by rw [List.getElem?_take,if_pos h]
  rw [h1] at h2
  have h3:l[j]?=some (l.getD j (noStr,noStr)):=by rw [List.getD_eq_getElem?_getD,List.getElem?_eq_getElem hj];rfl
  rw [h3] at h2
  have h4:=List.mem_of_getElem? h2
  exact (List.mem_filter.1 h4).2
 ·rw [decide_eq_false h]
  cases h5:less (l.getD j (noStr,noStr)).1 k with
  | false=>rfl
  | true =>
   have h6:(l.drop (posP l k))[j - posP l k]?=some (l.getD j (noStr,noStr)):=by
    rw [List.getElem?_drop,show posP l k+(j - posP l k)=j by omega,List.getD_eq_getElem?_getD,List.getElem?_eq_getElem hj]
    rfl
   have h7:l.getD j (noStr,noStr)∈l.drop (posP l k):=List.mem_of_getElem? h6
   have h8:∀p∈l.drop (posP l k),less p.1 k=false:=by
    intro p hp
    cases h9:less p.1 k with
    | false=>rfl
    | true =>
     have hc:lows l k=lows (l.take (posP l k)) k++lows (l.drop (posP l k)) k:=by unfold lows;rw [←List.filter_append,List.take_append_drop]
     have hd:lows (l.take (posP l k)) k=lows l k:=by rw [iK hs];unfold lows;rw [List.filter_filter];simp
     have he:=congrArg List.length hc
     rw [List.length_append,hd] at he
     have hf:p∈lows (l.drop (posP l k)) k:=List.mem_filter.2 ⟨hp,h9⟩
     rw [List.length_eq_zero_iff.1 (show (lows (l.drop (posP l k)) k).length=0 by omega)] at hf
     cases hf
   rw [h8 _ h7] at h5
   cases h5
theorem lr {l:List Pr} {k:ByteArray} (hs:Srt l):hadP l k=(decide (posP l k<l.length)&&decide ((l.getD (posP l k) (noStr,noStr)).1=k)):=by
 cases h:hadP l k with
 | true =>
  obtain ⟨p,hp,he⟩:=List.any_eq_true.1 h
  have he:=of_decide_eq_true he
  obtain ⟨j,hj,hpj⟩:=List.getElem_of_mem hp
  have h1:l.getD j (noStr,noStr)=p:=by rw [List.getD_eq_getElem?_getD,List.getElem?_eq_getElem hj,←hpj];rfl
  have h2:=eM (k:=k) hs j hj
  rw [h1,he,bh] at h2
  have h3:¬j<posP l k:=of_decide_eq_false h2.symm
  have h4:j=posP l k:=by
   rcases Nat.lt_or_ge (posP l k) j with h5|h5
   ·have h6:=eM (k:=k) hs (posP l k) (by omega)
    rw [decide_eq_false (by omega)] at h6
    have h7:less (l.getD (posP l k) (noStr,noStr)).1 (l.getD j (noStr,noStr)).1=true:=by
     have h8:=List.pairwise_iff_getElem.1 hs (posP l k) j (by omega) hj h5
     rw [List.getD_eq_getElem?_getD,List.getElem?_eq_getElem (show posP l k<l.length by omega),List.getD_eq_getElem?_getD,List.getElem?_eq_getElem hj]
     exact h8
    rw [h1,he,h6] at h7
    cases h7
   ·omega
  rw [←h4,decide_eq_true hj,h1,decide_eq_true he]
  rfl
 | false =>
  symm
  rw [Bool.and_eq_false_iff]
  rcases Nat.lt_or_ge (posP l k) l.length with h1|h1
  ·right
   refine decide_eq_false fun e=>?_
   have h2:l.getD (posP l k) (noStr,noStr)∈l:=by
    rw [List.getD_eq_getElem?_getD,List.getElem?_eq_getElem h1]
    exact List.getElem_mem h1
   have h3:=List.any_eq_false.1 h _ h2
   exact h3 (decide_eq_true e)
  ·left
   exact decide_eq_false (by omega)
theorem insP_srt {l:List Pr} {k v:ByteArray} (hs:Srt l):Srt (insP l k v):=by
 unfold Srt insP
 rw [List.pairwise_append]
 refine ⟨List.Pairwise.filter _ hs,?_,?_⟩
 ·rw [List.pairwise_cons]
  exact ⟨fun b hb=>(List.mem_filter.1 hb).2,List.Pairwise.filter _ hs⟩
 ·intro a ha b hb
  have h1:=(List.mem_filter.1 ha).2
  rcases List.mem_cons.1 hb with rfl|hb
  ·exact h1
  ·exact dV h1 (List.mem_filter.1 hb).2
theorem delP_srt {l:List Pr} {k:ByteArray} (hs:Srt l):Srt (delP l k):=by
 unfold Srt delP
 rw [List.pairwise_append]
 refine ⟨List.Pairwise.filter _ hs,List.Pairwise.filter _ hs,?_⟩
 intro a ha b hb
 exact dV (List.mem_filter.1 ha).2 (List.mem_filter.1 hb).2
theorem lL {l:List Pr} {k v:ByteArray} (h:Fit l) (hk:fitK k=true) (hv:v.size≤150):Fit (insP l k v):=by
 intro p hp
 rcases List.mem_append.1 hp with h1|h1
 ·exact h p (List.mem_filter.1 h1).1
 ·rcases List.mem_cons.1 h1 with rfl|h1
  ·exact ⟨hk,hv⟩
  ·exact h p (List.mem_filter.1 h1).1
theorem mI {l:List Pr} {k:ByteArray} (h:Fit l):Fit (delP l k):=by
 intro p hp
 rcases List.mem_append.1 hp with h1|h1
 ·exact h p (List.mem_filter.1 h1).1
 ·exact h p (List.mem_filter.1 h1).1
theorem mem_insP {l:List Pr} {k v:ByteArray} {p:Pr}:p∈insP l k v↔p=(k,v)∨(p∈l∧p.1≠k):=by
 unfold insP lows highs
 rw [List.mem_append,List.mem_cons,List.mem_filter,List.mem_filter]
 constructor
 ·rintro (⟨h1,h2⟩|h1|⟨h1,h2⟩)
  ·exact Or.inr ⟨h1,fun e=>by rw [e,bh] at h2;cases h2⟩
  ·exact Or.inl h1
  ·exact Or.inr ⟨h1,fun e=>by rw [e,bh] at h2;cases h2⟩
 ·rintro (h1|⟨h1,h2⟩)
  ·exact Or.inr (Or.inl h1)
  ·cases h3:less p.1 k with
   | true=>exact Or.inl ⟨h1,rfl⟩
   | false=>exact Or.inr (Or.inr ⟨h1,jM h3 h2⟩)
theorem srt_ext:∀ {l m:List Pr},Srt l→Srt m→(∀p,p∈l↔p∈m)→l=m
 | [],[],_,_,_=>rfl
 | [],b::_,_,_,h=>absurd ((h b).2 (List.mem_cons_self ..)) (by simp)
 | a::_,[],_,_,h=>absurd ((h a).1 (List.mem_cons_self ..)) (by simp)
 | a::s,b::t,hl,hm,h=>by
  have hab:a=b:=by
   rcases List.mem_cons.1 ((h a).1 (List.mem_cons_self ..)) with e|e
   ·exact e
   ·rcases List.mem_cons.1 ((h b).2 (List.mem_cons_self ..)) with e2|e2
    ·exact e2.symm
    ·have h1:=List.rel_of_pairwise_cons hm e
     have h2:=List.rel_of_pairwise_cons hl e2
     rw [fM h1] at h2
     cases h2
  subst hab
  congr 1
  refine srt_ext (List.Pairwise.of_cons hl) (List.Pairwise.of_cons hm) (fun p=>?_)
  have hne:∀ {u:List Pr},Srt (a::u)→p∈u→p≠a:=fun hu hp e=>by
   have h1:=List.rel_of_pairwise_cons hu hp
   rw [e,bh] at h1
   cases h1
  constructor
  ·intro hp
   rcases List.mem_cons.1 ((h p).1 (List.mem_cons_of_mem _ hp)) with e|e
   ·exact absurd e (hne hl hp)
   ·exact e
  ·intro hp
   rcases List.mem_cons.1 ((h p).2 (List.mem_cons_of_mem _ hp)) with e|e
   ·exact absurd e (hne hm hp)
   ·exact e
theorem k7 {l:List Pr}:∀n,(∀i,i<n→okPair l i=true)→okPairs l n=true
 | 0,_=>rfl
 | n+1,h=>by rw [okPairs,k7 n (fun i hi=>h i (by omega)),h n (by omega)];rfl
theorem jz (l:List Pr) (i:Nat):(l.map Prod.fst).getD i noStr=(l.getD i (noStr,noStr)).1:=by
 rw [List.getD_eq_getElem?_getD,List.getD_eq_getElem?_getD,List.getElem?_map]
 cases l[i]?<;>rfl
theorem ok_of {l:List Pr} (hs:Srt l) (hf:Fit l):okPairs l l.length=true:=by
 refine k7 _ (fun i hi=>?_)
 have h1:l.getD i (noStr,noStr)=l[i]:=by rw [List.getD_eq_getElem?_getD,List.getElem?_eq_getElem hi];rfl
 have h2:=hf _ (List.getElem_mem hi)
 unfold okPair okKey
 rw [jz,jz,h1,decide_eq_true h2.2,h2.1,Bool.true_and,Bool.true_and]
 rcases Nat.eq_zero_or_pos i with h3|h3
 ·rw [decide_eq_true h3];rfl
 ·have h4:l.getD (i - 1) (noStr,noStr)=l[i - 1]'(by omega):=by rw [List.getD_eq_getElem?_getD,List.getElem?_eq_getElem (by omega)];rfl
  rw [h4,List.pairwise_iff_getElem.1 hs (i - 1) i (by omega) hi (by omega),Bool.or_true]
open Go Go.RowKit
def SegV (w:World) (b off:Nat) (cs:List Value):Prop:=∀j u,cs[j]?=some u→w.cell? ⟨b,off+j,none⟩=some u
def SlV (K:Nat) (w:World) (v:Value) (n:Nat) (cs:List Value):Prop :=
 ∃p cap,v=.slice p n cap∧n≤cap∧cs.length=n * K∧(0<n→∃b off,p=some ⟨b,off,none⟩∧SegV w b off cs)
theorem SegV.below {w w':World} {b off:Nat} {cs:List Value} (h:SegV w b off cs) (hb:Below w.heap.size w w'):SegV w' b off cs:=by
 intro j u hu
 have h1:=h j u hu
 rw [hb.cell (p:=⟨b,off+j,none⟩) (block_lt_of_cell h1)]
 exact h1
theorem SlV.below {K:Nat} {w w':World} {v:Value} {n:Nat} {cs:List Value} (h:SlV K w v n cs) (hb:Below w.heap.size w w'):SlV K w' v n cs:=by
 obtain ⟨p,cap,hv,hc,hl,hs⟩:=h
 refine ⟨p,cap,hv,hc,hl,fun h0=>?_⟩
 obtain ⟨b,off,hp,hseg⟩:=hs h0
 exact ⟨b,off,hp,hseg.below hb⟩
theorem SlV.nil (K:Nat) (w:World):SlV K w (.slice none 0 0) 0 []:=⟨none,0,rfl,Nat.le_refl _,by simp,fun h=>absurd h (by omega)⟩
theorem SlV.len {K:Nat} {w:World} {v:Value} {n:Nat} {cs:List Value} (h:SlV K w v n cs):∃p cap,v=.slice p n cap∧n≤cap:=by
 obtain ⟨p,cap,hv,hc,_⟩:=h
 exact ⟨p,cap,hv,hc⟩
theorem SlV.at {K:Nat} {w:World} {p:Option Addr} {n cap:Nat} {cs:List Value} (h:SlV K w (.slice p n cap) n cs) (h0:0<n):∃b off,p=some ⟨b,off,none⟩∧SegV w b off cs:=by
 obtain ⟨q,c,hv,_,_,hs⟩:=h
 simp only [Value.slice.injEq] at hv
 obtain ⟨rfl,_,rfl⟩:=hv
 exact hs h0
def prs (l:List (ByteArray×ByteArray)):List Value:=l.flatMap fun p=>[.string p.1,.string p.2]
def strs (l:List ByteArray):List Value:=l.map .string
theorem bE (l:List (ByteArray×ByteArray)):(prs l).length=l.length * 2:=by
 unfold prs
 induction l with
 | nil=>rfl
 | cons p l ih=>rw [List.flatMap_cons,List.length_append,ih];simp;omega
theorem cX (l m:List (ByteArray×ByteArray)):prs (l++m)=prs l++prs m:=by simp [prs]
theorem prs_at (l:List (ByteArray×ByteArray)) (i:Nat) (h:i<l.length):(prs l)[i * 2]?=some (.string (l.getD i (noStr,noStr)).1)∧(prs l)[i * 2+1]?=some (.string (l.getD i (noStr,noStr)).2):=by
 have e:l=l.take i++(l.getD i (noStr,noStr)::l.drop (i+1)):=by
  have h2:l.drop i=l.getD i (noStr,noStr)::l.drop (i+1):=by rw [List.drop_eq_getElem_cons h];simp [h]
  rw [←h2,List.take_append_drop]
 have hl:(prs (l.take i)).length=i * 2:=by rw [bE,List.length_take,Nat.min_eq_left (by omega)]
 generalize l.getD i (noStr,noStr)=p at e ⊢
 rw [e,cX,List.getElem?_append_right (by omega),List.getElem?_append_right (by omega),hl,Nat.sub_self,show i * 2+1 - i * 2=1 by omega]
 exact ⟨rfl,rfl⟩
theorem strs_at (l:List ByteArray) (i:Nat) (h:i<l.length):(strs l)[i]?=some (.string (l.getD i noStr)):=by simp [strs,h]
def SlP (w:World) (v:Value) (l:List (ByteArray×ByteArray)):Prop:=SlV 2 w v l.length (prs l)
def SlS (w:World) (v:Value) (l:List ByteArray):Prop:=SlV 1 w v l.length (strs l)
def SlU (w:World) (v:Value) (l:List Int):Prop:=SlV 1 w v l.length (u32s l)
theorem SlP.nil (w:World):SlP w (.slice none 0 0) []:=SlV.nil 2 w
theorem SlS.nil (w:World):SlS w (.slice none 0 0) []:=SlV.nil 1 w
theorem SlU.nil (w:World):SlU w (.slice none 0 0) []:=SlV.nil 1 w
theorem SlP.cells {w:World} {b off n cap:Nat} {l:List (ByteArray×ByteArray)} (hn:l.length=n) (h:SlP w (.slice (some ⟨b,off,none⟩) n cap) l) (i:Nat) (hi:i<n) :
  w.cell? ⟨b,off+i * 2,none⟩=some (.string (l.getD i (noStr,noStr)).1)∧w.cell? ⟨b,off+i * 2+1,none⟩=some (.string (l.getD i (noStr,noStr)).2):=by
 subst hn
 obtain ⟨b',off',hp,hs⟩:=SlV.at h (by omega)
 simp only [Option.some.injEq,Addr.mk.injEq] at hp
 obtain ⟨rfl,rfl,_⟩:=hp
 obtain ⟨h1,h2⟩:=prs_at l i hi
 exact ⟨hs _ _ h1,by rw [Nat.add_assoc];exact hs _ _ h2⟩
theorem SlS.cells {w:World} {b off n cap:Nat} {l:List ByteArray} (hn:l.length=n) (h:SlS w (.slice (some ⟨b,off,none⟩) n cap) l) (i:Nat) (hi:i<n) :
  w.cell? ⟨b,off+i,none⟩=some (.string (l.getD i noStr)):=by
 subst hn
 obtain ⟨b',off',hp,hs⟩:=SlV.at h (by omega)
 simp only [Option.some.injEq,Addr.mk.injEq] at hp
 obtain ⟨rfl,rfl,_⟩:=hp
 exact hs _ _ (strs_at l i hi)
theorem SlU.cells {w:World} {b off n cap:Nat} {l:List Int} (hn:l.length=n) (h:SlU w (.slice (some ⟨b,off,none⟩) n cap) l) (i:Nat) (hi:i<n) :
  w.cell? ⟨b,off+i,none⟩=some (.int .u32 (l.getD i 0)):=by
 subst hn
 obtain ⟨b',off',hp,hs⟩:=SlV.at h (by omega)
 simp only [Option.some.injEq,Addr.mk.injEq] at hp
 obtain ⟨rfl,rfl,_⟩:=hp
 exact hs _ _ (bu l i hi)
theorem SlP.at {w:World} {p:Option Addr} {n cap:Nat} {l:List (ByteArray×ByteArray)} (h:SlP w (.slice p n cap) l) (hn:l.length=n) (h0:0<n):∃b off,p=some ⟨b,off,none⟩:=by
 subst hn
 obtain ⟨b,off,hp,_⟩:=SlV.at h h0
 exact ⟨b,off,hp⟩
theorem SlS.at {w:World} {p:Option Addr} {n cap:Nat} {l:List ByteArray} (h:SlS w (.slice p n cap) l) (hn:l.length=n) (h0:0<n):∃b off,p=some ⟨b,off,none⟩:=by
 subst hn
 obtain ⟨b,off,hp,_⟩:=SlV.at h h0
 exact ⟨b,off,hp⟩
theorem SlU.at {w:World} {p:Option Addr} {n cap:Nat} {l:List Int} (h:SlU w (.slice p n cap) l) (hn:l.length=n) (h0:0<n):∃b off,p=some ⟨b,off,none⟩:=by
 subst hn
 obtain ⟨b,off,hp,_⟩:=SlV.at h h0
 exact ⟨b,off,hp⟩
theorem cI {B:Nat} {w0 w w':World} (h:Below B w0 w) (hB:B≤w.heap.size) (hm:Below w.heap.size w w'):Below B w0 w':=h.trans (hm.mono hB)
theorem own_sl {w:World} {base:Nat} {e:TypeId} {K:Nat} {v:Value} {n:Nat} {cs:List Value} (h:w.ownsRow base e K v n cs):SlV K w v n cs:=by
 have h0:=h
 obtain ⟨hl,h2⟩:=h
 rcases h2 with ⟨rfl,hn⟩|⟨g,cap,cur,rfl,hb,hh,hn,_,_,_⟩
 ·exact ⟨none,0,by rw [hn],by omega,hl,fun h=>absurd h (by omega)⟩
 ·refine ⟨_,cap,rfl,hn,hl,fun _=>⟨g,0,rfl,fun j u hu=>?_⟩⟩
  have:=World.ownsRow.cells h0 rfl j u hu
  rw [aZ] at this
  exact this
theorem bM {w w':World} {base:Nat} {e:TypeId} {K:Nat} {v:Value} {n:Nat} {cs:List Value} (h:w.ownsRow base e K v n cs) (hb:Below w.heap.size w w'):w'.ownsRow base e K v n cs :=
 World.ownsRow.kept h (br hb) (by cases h':v.ownBlock<;>simp)
theorem fc {B:Nat} {w0 w w':World} {e:TypeId} {K:Nat} {v:Value} {n:Nat} {cs:List Value} (hb:Below B w0 w) (hB:B≤w.heap.size) (h:w.ownsRow B e K v n cs) (hg:w.grownBy w' v.ownBlock):Below B w0 w':=by
 refine ⟨hg.os.trans hb.os,hg.tape.trans hb.tape,hg.output.trans hb.output,Nat.le_trans hb.size hg.size,fun k hk=>?_⟩
 refine (hg.block k (Nat.lt_of_lt_of_le hk hB) (fun he=>?_)).trans (hb.block k hk)
 have:=(World.ownsRow.lt h k he.symm).1
 omega
def SlR (B:Nat) (w:World) (v:Value) (cs:List Int):Prop :=
 ∃p cap,v=.slice p cs.length cap∧cs.length≤cap∧(0<cs.length→∃b off,p=some ⟨b,off,none⟩∧Seg w b off cs∧(b<B∨∃l,Row w b l 5))
theorem SlR.old {B:Nat} {w:World} {v:Value} {cs:List Int} (h:SlR B w v cs):SlOld w v cs:=by
 obtain ⟨p,cap,hv,hc,hs⟩:=h
 exact ⟨p,cap,hv,hc,fun h0=>by obtain ⟨b,off,hp,hseg,_⟩:=hs h0;exact ⟨b,off,hp,hseg⟩⟩
theorem SlR.of_old {w:World} {v:Value} {cs:List Int} (h:SlOld w v cs):SlR w.heap.size w v cs:=by
 obtain ⟨p,cap,hv,hc,hs⟩:=h
 exact ⟨p,cap,hv,hc,fun h0=>by obtain ⟨b,off,hp,hseg⟩:=hs h0;exact ⟨b,off,hp,hseg,Or.inl (hseg.lt h0)⟩⟩
theorem SlR.of_row {B:Nat} {w:World} {g n:Nat} {cs:List Int} (hr:Row w g (u8s cs) 5) (hn:cs.length=n):SlR B w (.slice (some ⟨g,0,none⟩) n n) cs :=
 ⟨_,n,by rw [hn],by omega,fun _=>⟨g,0,rfl,Seg.row hr,Or.inr ⟨_,hr⟩⟩⟩
theorem SlR.below {B:Nat} {w w':World} {v:Value} {cs:List Int} (h:SlR B w v cs) (hb:Below w.heap.size w w'):SlR B w' v cs:=by
 obtain ⟨p,cap,hv,hc,hs⟩:=h
 refine ⟨p,cap,hv,hc,fun h0=>?_⟩
 obtain ⟨b,off,hp,hseg,hr⟩:=hs h0
 refine ⟨b,off,hp,hseg.below hb,?_⟩
 rcases hr with h1|⟨l,h1⟩
 ·exact Or.inl h1
 ·exact Or.inr ⟨l,h1.below' hb⟩
theorem SlR.grown {B:Nat} {w w':World} {v:Value} {cs:List Int} {e:TypeId} {K:Nat} {o:Value} {n:Nat} {xs:List Value} (h:SlR B w v cs) (ho:w.ownsRow B e K o n xs) (he:5≠e) (hg:w.grownBy w' o.ownBlock):SlR B w' v cs:=by
 obtain ⟨p,cap,hv,hc,hs⟩:=h
 refine ⟨p,cap,hv,hc,fun h0=>?_⟩
 obtain ⟨b,off,hp,hseg,hr⟩:=hs h0
 have hne:some b≠o.ownBlock:=by
  rcases hr with h1|⟨l,h1⟩
  ·intro h2
   have:=(World.ownsRow.lt ho b h2.symm).1
   omega
  ·obtain ⟨_,h2⟩:=ho
   rcases h2 with ⟨rfl,_⟩|⟨g',cap',cur,rfl,_,hh,_⟩
   ·simp [Value.ownBlock]
   ·intro h3
    have hg':g'=b:=by simpa [Value.ownBlock] using h3.symm
    subst hg'
    rw [h1] at hh
    simp only [Option.some.injEq,Obj.cells.injEq] at hh
    exact he hh.2.1
 have hb:=hg.block b (hseg.lt h0) hne
 refine ⟨b,off,hp,fun j hj=>?_,?_⟩
 ·rw [World.cell?_of_block (w:=w) hb];exact hseg j hj
 ·rcases hr with h1|⟨l,h1⟩
  ·exact Or.inl h1
  ·exact Or.inr ⟨l,by unfold Row;rw [hb];exact h1⟩
section
variable {P:Program} {ops:Array Oper} {rest:List Oper} {a:Act} {w w0:World} {Q:Exit→Act→World→Prop} {dst:Option Tmp} {typ:TypeId} {pos:String} {aft:Array Edge} {gd:Option (Nat×Bool)} {S:List Nat} {rows:List (Nat×List Value×TypeId)}
theorem cU {s x:Operand} {t e:TypeId} (z:Value) (K bytes:Nat) (hw:Region.wanted {dst:=dst,op:=.call {callee:=.builtin .append,args:=#[s,x],argTypes:=#[t,t]},type:=typ,pos:=pos,after:=aft,guard:=gd} (yielded ops a.tmps)=true)
  (ht:P.underlying t=some (.slice e)) (hi:(P.info? e).map (fun i=>(i.zero,i.size,i.bytes))=some (some z,K,bytes)) (hz:z.cells.size=K) (hK0:0<K) (hby:bytes≤100) {v:Value} {n base g:Nat} {cs new:List Value} (hown:w.ownsRow base e K v n cs) (hbase:base≤w.heap.size)
  (hs:a.eval s=v) (hx:a.eval x=.slice (some ⟨g,0,none⟩) 1 1) (hr:Row w g new e) (hl:new.length=K) (h1:∀u∈new,u.oneCell'=true) (hn:n≤100000)
  (h:∀v' w',w'.ownsRow base e K v' (n+1) (cs++new)→w.grownBy w' v.ownBlock→(v'.ownBlock=v.ownBlock∨v'.ownBlock=some w.heap.size)→wpList P ops Q rest (a.put dst v') w') :
  wpList P ops Q ({dst:=dst,op:=.call {callee:=.builtin .append,args:=#[s,x],argTypes:=#[t,t]},type:=typ,pos:=pos,after:=aft,guard:=gd}::rest) a w:=by
 cases hq:P.info? e with
 | none=>simp [hq] at hi
 | some i =>
  simp only [hq,Option.map_some,Option.some.injEq,Prod.mk.injEq] at hi
  obtain ⟨hz1,h2,h3⟩:=hi
  have hbd:(n+1) * bytes≤140737488355328:=by
   have:=Nat.mul_le_mul (show n+1≤100001 by omega) hby
   omega
  obtain ⟨v',w',hrun,ho,hg,_,hb⟩:=run_append_own_at (P:=P) w base t typ e i z K bytes ht hq hz1 h2 h3 hz hK0 v n cs hown ⟨g,0,none⟩ 1 1 new (by rw [hl];omega) (fun j u hu=>by rw [aZ,Nat.zero_add,hr.cell j];exact hu) h1 (by unfold maxLen;omega) hbd hbase
  refine wpList_step fun K hK=>?_
  rw [if_pos hw]
  have hh:=hK _ _ (h v' w' ho hg hb)
  unfold Oper.wp execOp
  simp only [resolve,invoke,builtin,Sem.run_bind,Sem.run_pure,Result.andThen_ok,List.map_toArray,List.map_cons,List.map_nil,hs,hx,hrun]
  exact hh
end
theorem fold_set:∀(l:List Value) (k:Nat) (cs:Array Value) (i:Nat),((l.zipIdx k).foldl (fun cs (p:Value×Nat)=>cs.setIfInBounds p.2 p.1) cs)[i]?=if k≤i∧i<k+l.length∧i<cs.size then l[i - k]? else cs[i]?
 | [],k,cs,i=>by
  rw [if_neg (by simp;omega)]
  rfl
 | x::r,k,cs,i=>by
  rw [List.zipIdx_cons,List.foldl_cons,fold_set r (k+1)]
  simp only [Array.size_setIfInBounds,List.length_cons]
  by_cases h1:k+1≤i∧i<k+1+r.length∧i<cs.size
  ·rw [if_pos h1,if_pos (by omega),show i - k=(i - (k+1))+1 by omega,List.getElem?_cons_succ]
  ·rw [if_neg h1,Array.getElem?_setIfInBounds]
   by_cases h2:k=i
   ·subst h2
    by_cases h3:k<cs.size
    ·simp [h3]
    ·simp [h3]
   ·rw [if_neg h2,if_neg (by omega)]
theorem run_bslK {P:Program} (w:World) {t elem:TypeId} (z l:List Value) (hu:P.underlying t=some (.slice elem)) (hi:(P.info? elem).map (fun i=>(i.zero,i.size))=some (some (.agg z.toArray),2)) (hz:z.length=2) (hl:l.length=2) :
  (Instr.buildSlice t 1 #[(0,.agg l.toArray)]).run P w=.ok (.slice (some ⟨w.heap.size,0,none⟩) 1 1) (w.alloc (.cells l.toArray elem)):=by
 obtain ⟨hz1,hs1⟩:=zero_of_info hi
 cases hq:P.info? elem with
 | none=>simp [hq] at hi
 | some qq =>
  have hs:qq.size=2:=by simpa [hq] using hs1
  have e:∀cs:Array Value,cs.size=2→List.foldl (fun (cs:Array Value) (x:Value×Nat)=>cs.setIfInBounds x.2 x.1) cs l.zipIdx=l.toArray:=by
   intro cs hcs
   apply Array.ext_getElem?
   intro i
   rw [fold_set l 0 cs i]
   by_cases h:i<2
   ·rw [if_pos (by omega)];simp
   ·rw [if_neg (by omega),Array.getElem?_eq_none (by omega),Array.getElem?_eq_none (by simp;omega)]
  simp [Instr.buildSlice,run_underlying hu,sizeOf,typeInfo,hq,hs,hz1,Value.cells,Instr.fill,hl,hz,newRow,newObj]
  rw [e _ (by simp)]
  rfl
theorem mX {P:Program} (w:World) (g off n:Nat) (ty:TypeId) (cs:List Value) (d:TypeDesc) (hc:∀j v,cs[j]?=some v→w.cell? ⟨g,off+j,none⟩=some v) (hu:P.underlying ty=some d)
  (hd:(match d with | .struct _ | .array _ _=>true|_=>false)=true) (hi:(P.info? ty).map (·.size)=some n) (hn:cs.length=n) :
  (loadVar ty ⟨g,off,none⟩).run P w=.ok (.agg cs.toArray) w:=by
 have hl:(loadCells ⟨g,off,none⟩ cs.length).run P w=.ok cs.toArray w :=
  run_loadCells_list (P:=P) w ⟨g,off,none⟩ cs (fun j v hv=>by rw [aZ];exact hc j v hv)
 rw [hn] at hl
 cases hq:P.info? ty with
 | none=>simp [hq] at hi
 | some q =>
  have hs:q.size=n:=by simpa [hq] using hi
  have ha:(isAgg ty).run P w=.ok true w:=by
   cases d<;>simp_all [isAgg,run_underlying hu]
  simp [loadVar,ha,sizeOf,typeInfo,hq,hs,hl]
section
variable {ops:Array Oper} {rest:List Oper} {a:Act} {w w0:World} {Q:Exit→Act→World→Prop} {dst:Option Tmp} {typ:TypeId} {pos:String} {aft:Array Edge} {gd:Option (Nat×Bool)} {S:List Nat} {rows:List (Nat×List Value×TypeId)}
theorem aV {x ix:Operand} {b o n cap:Nat} (i:Nat) {ii:Int} (hx:a.eval x=.slice (some ⟨b,o,none⟩) n cap) (hix:a.eval ix=.int .i64 ii) (hii:ii=(i:Int)) (hi:i<n) :
  (execOp a.eval {dst:=dst,op:=.indexAddr 28 x ix,type:=typ,pos:=pos,after:=aft,guard:=gd}).run Tryz.prog w=.ok (.value (.pointer (some ⟨b,o+i * 2,none⟩))) w:=by
 subst hii
 have h0:(0:Int)≤(i:Int)∧(i:Int)<(n:Int):=by omega
 unfold execOp
 simp [hx,hix,Instr.indexAt,asIntOf,run_underlying bw,h0,aZ]
 omega
theorem bo {x:Operand} {b o:Nat} (k v:ByteArray) (hx:a.eval x=.pointer (some ⟨b,o,none⟩)) (h0:w.cell? ⟨b,o,none⟩=some (.string k)) (h1:w.cell? ⟨b,o+1,none⟩=some (.string v)) :
  (execOp a.eval {dst:=dst,op:=.load 44 x,type:=typ,pos:=pos,after:=aft,guard:=gd}).run Tryz.prog w=.ok (.value (.agg [.string k,.string v].toArray)) w:=by
 obtain ⟨fs,hfs⟩:=un_pair
 have hc:∀j u,[Value.string k,Value.string v][j]?=some u→w.cell? ⟨b,o+j,none⟩=some u:=by
  intro j u hu
  match j with
  | 0=>simp at hu;subst hu;exact h0
  | 1=>simp at hu;subst hu;exact h1
  | j+2=>simp at hu
 unfold execOp
 simp only [hx,Instr.loadAt,Instr.sureAddr,Sem.run_bind,Sem.run_pure,Result.andThen_ok,mX w b o 2 44 [.string k,.string v] _ hc hfs rfl bA rfl]
theorem aj {ty:TypeId} {x:Operand} {b j:Nat} (v:Value) (hc:w.cell? ⟨b,j,none⟩=some v) (hx:a.eval x=.pointer (some ⟨b,j,none⟩)) (ha:∀w,(isAgg ty).run Tryz.prog w=.ok false w) :
  (execOp a.eval {dst:=dst,op:=.load ty x,type:=typ,pos:=pos,after:=aft,guard:=gd}).run Tryz.prog w=.ok (.value v) w:=by
 have hld:(loadVar ty ⟨b,j,none⟩).run Tryz.prog w=.ok v w:=by simp [loadVar,ha,go_sem,hc]
 unfold execOp
 simp only [hx,Instr.loadAt,Instr.sureAddr,Sem.run_bind,Sem.run_pure,Result.andThen_ok,hld]
theorem iE {t:TypeId} {x y:Operand} {rt:TypeId} (s s':ByteArray) (v:Bool) (hx:a.eval x=.string s) (hy:a.eval y=.string s') (hv:less s s'=v) :
  (execOp a.eval {dst:=dst,op:=.binOp .geq t x y rt,type:=typ,pos:=pos,after:=aft,guard:=gd}).run Tryz.prog w=.ok (.value (.bool (!v))) w:=by
 subst hv
 unfold execOp
 simp only [hx,hy]
 simp [eqGuard,binOp,Op.stringOp,less]
theorem fE {x:Operand} (k v:ByteArray) (hw:Region.wanted {dst:=dst,op:=.buildSlice 28 1 #[(0,x)],type:=typ,pos:=pos,after:=aft,guard:=gd} (yielded ops a.tmps)=true) (hx:a.eval x=.agg [.string k,.string v].toArray) (hm:Mem w0 S w rows)
  (h:∀w' g,Mem w0 S w' ((g,[.string k,.string v],44)::rows)→wpList Tryz.prog ops Q rest (a.put dst (.slice (some ⟨g,0,none⟩) 1 1)) w') :
  wpList Tryz.prog ops Q ({dst:=dst,op:=.buildSlice 28 1 #[(0,x)],type:=typ,pos:=pos,after:=aft,guard:=gd}::rest) a w:=by
 refine wpList_step fun K hK=>?_
 rw [if_pos hw]
 have hh:=hK _ _ (h _ _ (hm.alloc [.string k,.string v] 44))
 unfold Oper.wp execOp
 simp only [List.map_toArray,List.map_cons,List.map_nil,hx,run_bslK (P:=Tryz.prog) w _ [.string k,.string v] bw info_pair rfl rfl,Sem.run_bind,Sem.run_pure,Result.andThen_ok]
 exact hh
end
open Go Go.RowKit
section
variable {P:Program} {ops:Array Oper} {rest:List Oper} {a:Act} {w w0:World} {Q:Exit→Act→World→Prop} {dst:Option Tmp} {typ:TypeId} {pos:String} {aft:Array Edge} {S:List Nat} {rows:List (Nat×List Value×TypeId)}
end
open Go Go.RowKit
section
variable {P:Program} {a:Act} {w:World} {dst:Option Tmp} {typ:TypeId} {pos:String} {aft:Array Edge} {gd:Option (Nat×Bool)}
theorem exec_sLH {ty:TypeId} {x lo hi:Operand} {elem:TypeId} (hu:P.underlying ty=some (.slice elem)) (hs:(P.info? elem).map (·.size)=some 1) {p:Option Addr} {len cap:Nat} (l m:Nat) {il ih:Int} (hlm:l+m≤cap) (hx:a.eval x=.slice p len cap) (hlo:a.eval lo=.int .i64 il) (hil:il=(l:Int)) (hhi:a.eval hi=.int .i64 ih) (hih:ih=((l+m:Nat):Int)) :
  (execOp a.eval {dst:=dst,op:=.slice ty x (some lo) (some hi) none,type:=typ,pos:=pos,after:=aft,guard:=gd}).run P w=.ok (.value (.slice (cutLo p cap l) m (cap - l))) w:=by
 subst hil
 cases hq:P.info? elem with
 | none=>simp [hq] at hs
 | some q =>
  have hs1:q.size=1:=by simpa [hq] using hs
  have hsz:(sizeOf elem).run P w=.ok 1 w:=by simp [sizeOf,typeInfo,hq,hs1]
  have b1:∀code,(Instr.sliceBound (.int .i64 ih) cap code).run P w=.ok (l+m) w:=by
   intro code
   rw [run_sliceBound (P:=P) w .i64 ih cap code (by omega) (by omega),hih,Int.toNat_natCast]
  have b2:∀code,(Instr.sliceBound (.int .i64 (l:Int)) (l+m) code).run P w=.ok l w:=by
   intro code
   rw [run_sliceBound (P:=P) w .i64 (l:Int) (l+m) code (by omega) (by omega)]
   simp
  have hb:(Instr.sliceBounds true len cap (some (.int .i64 (l:Int))) (some (.int .i64 ih)) none).run P w=.ok (l,l+m,cap) w:=by
   simp [Instr.sliceBounds,b1,b2]
  have hr:(Instr.sliceAt ty (.slice p len cap) (some (.int .i64 (l:Int))) (some (.int .i64 ih)) none).run P w=.ok (.slice (cutLo p cap l) m (cap - l)) w:=by
   simp [Instr.sliceAt,Instr.slice,run_underlying hu,hb,hsz,cutLo]
  unfold execOp
  simp only [hx,hlo,hhi,Option.map_some,Option.map_none,hr,Sem.run_bind,Sem.run_pure,Result.andThen_ok]
end
theorem old_lh {w:World} {p:Option Addr} {n cap:Nat} {cs:List Int} (h:SlOld w (.slice p n cap) cs) (l m:Nat) (hl:l+m≤n):SlOld w (.slice (cutLo p cap l) m (cap - l)) ((cs.drop l).take m):=by
 have h1:=kB h l (by omega)
 obtain ⟨hn,hc,hs⟩:=h.src0
 have hd:((cs.drop l).take m).length=m:=by rw [List.length_take,List.length_drop];omega
 refine ⟨_,cap - l,by rw [hd],by rw [hd];omega,fun h0=>?_⟩
 rw [hd] at h0
 obtain ⟨_,_,hs1⟩:=h1.src0
 obtain ⟨b,off,hp,hseg⟩:=hs1 (by rw [List.length_drop];omega)
 exact ⟨b,off,hp,hseg.take m⟩
theorem text_nil (s:ByteArray) (hn:s.size=0) (w:World) :
  Calls Tryz.prog 54 #[.slice none 0 0,.string s] w fun e w'=>∃g,e=.returned (.slice (some ⟨g,0,none⟩) 2 2)∧w.heap.size≤g∧Row w' g (u8s (be2 0++strB s)) 5∧Below w.heap.size w w':=by
 have hm:=Mem.start w
 have HB:Hid (strB s=[]):=by show _=_;exact List.eq_nil_of_length_eq_zero (by rw [a6,hn])
 have HSP:Hid (splice (u8s ([]++(be2 0++[]))) 0 (u8s (strB s))=u8s (be2 0++strB s)):=by
  show _=_
  rw [HB.out];rfl
 go_enter Tryz.func54,Tryz.ntmps54
 go_wp2_with (first
  | ((with_reducible refine aa (some 11) (.slice 9 (.tmp 7) none (some (.tmp 10)) none) ?_);go_must (refine ae (.string s) rfl (fd s 0 hn rfl (by go_simp<;>rfl)) ?_))
  | (go_at_call 90;refine (bm [] _ 2 (by simp) (by omega) _ ⟨none,0,rfl,Nat.le_refl _,fun h=>absurd h (by simp)⟩).mono ?_;rintro e w2 ⟨g,he,hge,hr,hb⟩;rw [show ([]:List Int).length+2=2 from rfl] at he;subst he;rw [List.nil_append,show List.replicate 2 (0:Int)=[0,0]++[] from rfl] at hr;replace hm:=hm.callNew hb hr hge;clear hb hr hge)
  | (go_at_call 91;refine (dl g [] [] 0 _ _ (hm.get 0 rfl)).mono ?_;rintro e w3 ⟨rfl,hr2,hu⟩;replace hm:=hm.upd 0 rfl hu hr2;clear hr2 hu)
  | ((with_reducible refine aa (some 28) (.slice 54 (.tmp 27) (some (.const (.int .i64 2))) none none) ?_);go_must (refine ae (.slice (some ⟨g,0,none⟩) 0 0) rfl (cw (p:=some ⟨g,0,none⟩) (len:=2) (cap:=2) aq av 2 (by omega) rfl rfl rfl) ?_))
  | ((with_reducible refine aa (some 30) (.call {callee:=.builtin .copy,args:=#[.tmp 28,.tmp 29],argTypes:=#[54,9]}) ?_);go_must (refine iP 0 0 0 0 s (u8s (be2 0++strB s)) hm rfl rfl rfl _ aq av (by omega) (by simp [ab,aH];omega) HSP.out ?_);clear hm;intro w4 hm))
 go_ret
 have hf:=hm.fresh _ (List.mem_cons_self ..)
 exact ⟨g,rfl,by simpa using hf,hm.get 0 rfl,hm.below⟩
theorem text_any (s:ByteArray) (hl:s.size≤300) (w:World) :
  Calls Tryz.prog 54 #[.slice none 0 0,.string s] w fun e w'=>∃g,e=.returned (.slice (some ⟨g,0,none⟩) (2+s.size) (2+s.size))∧w.heap.size≤g∧Row w' g (u8s (textB s)) 5∧Below w.heap.size w w':=by
 by_cases h0:0<s.size
 ·exact text_pos s s.size rfl hl h0 w
 ·have h1:s.size=0:=by omega
  have h:=text_nil s h1 w
  unfold textB
  rw [h1]
  exact h
end Go.Proofs.YtmlbjfklaehjnaaGreatDoor
