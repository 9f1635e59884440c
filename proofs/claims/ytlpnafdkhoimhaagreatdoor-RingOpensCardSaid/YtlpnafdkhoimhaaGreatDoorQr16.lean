import Derived.Sort.Grow
import Derived.Sort.Walk0
import Derived.Shelf.SlSortCmp.NoneTotal
import Derived.Test.YtlpnafdkhoimhaaGreatDoorQr14
import Derived.Test.YtlpnafdkhoimhaaGreatDoorQr15
set_option maxRecDepth 100000
set_option maxHeartbeats 4000000
namespace Go.Proofs.YtlpnafdkhoimhaaGreatDoor
open Go Go.RowKit Go.Maps Go.Sort
def cmpS (x y:ByteArray):Int:=if Op.bytesLess x.toList y.toList=true then -1 else if (x.toList==y.toList)=true then 0 else 1
def cmpL:List ByteArray→List ByteArray→Int
 | a::A,b::B=>if cmpS a b=0 then cmpL A B else cmpS a b
 | _,_=>0
theorem iY (x:ByteArray) (w:World):Calls Tryz.prog 169 #[.string x] w fun e w'=>e=.returned (.bool false)∧w'=w:=by
 go_enter Tryz.func169,Tryz.ntmps169
 go_wp2_with (first
  | ((with_reducible refine ae (some 5) (.binOp .neq 9 (.tmp 3) (.tmp 4) 9) ?_);go_must (refine aj (.bool false) rfl (jf x x true rfl rfl (eqs_yes _)) ?_)))
 go_ret
 exact ⟨rfl,rfl⟩
theorem exec_gtrS {a:Act} {w:World} {dst:Option Tmp} {typ:TypeId} {pos:String} {aft:Array Edge} {gd:Option (Nat×Bool)} {x y:Operand} {rt:TypeId} (s s':ByteArray) (hx:a.eval x=.string s) (hy:a.eval y=.string s') (v:Bool) (hv:(!(Op.bytesLess s.toList s'.toList||s.toList==s'.toList))=v) :
  (execOp a.eval {dst:=dst,op:=.binOp .gtr 9 x y rt,type:=typ,pos:=pos,after:=aft,guard:=gd}).run Tryz.prog w=.ok (.value (.bool v)) w:=by
 subst hv
 unfold execOp
 simp only [hx,hy]
 simp [eqGuard,binOp,Op.stringOp]
theorem cmpS_any (x y:ByteArray) (w:World):Calls Tryz.prog 133 #[.string x,.string y] w fun e w'=>e=.returned (.int .i64 (cmpS x y))∧w'=w:=by
 unfold cmpS
 by_cases h1:Op.bytesLess x.toList y.toList=true
 ·rw [if_pos h1]
  go_enter Tryz.func133,Tryz.ntmps133
  go_wp2_with (first
   | (go_at_call 169;refine (iY _ _).mono ?_;rintro e w' ⟨he,hw⟩;subst he hw))
  go_ret
  exact ⟨rfl,rfl⟩
 ·have h1':Op.bytesLess x.toList y.toList=false:=by simpa using h1
  rw [if_neg h1]
  clear h1
  by_cases h2:(x.toList==y.toList)=true
  ·rw [if_pos h2]
   go_enter Tryz.func133,Tryz.ntmps133
   go_wp2_with (first
    | (go_at_call 169;refine (iY _ _).mono ?_;rintro e w' ⟨he,hw⟩;subst he hw)
    | ((with_reducible refine ae (some 19) (.binOp .gtr 9 (.tmp 17) (.tmp 18) 9) ?_);go_must (refine aj (.bool false) rfl (exec_gtrS x y rfl rfl false (by rw [h1',h2];rfl)) ?_)))
   go_ret
   exact ⟨rfl,rfl⟩
  ·have h2':(x.toList==y.toList)=false:=by simpa using h2
   rw [if_neg h2]
   clear h2
   go_enter Tryz.func133,Tryz.ntmps133
   go_wp2_with (first
    | (go_at_call 169;refine (iY _ _).mono ?_;rintro e w' ⟨he,hw⟩;subst he hw)
    | ((with_reducible refine ae (some 19) (.binOp .gtr 9 (.tmp 17) (.tmp 18) 9) ?_);go_must (refine aj (.bool true) rfl (exec_gtrS x y rfl rfl true (by rw [h1',h2'];rfl)) ?_)))
   go_ret
   exact ⟨rfl,rfl⟩
theorem dropS_at {A:List ByteArray} {k:Nat} (h:k<A.length):A.drop k=A.getD k noStr::A.drop (k+1):=by
 rw [List.drop_eq_getElem_cons h];simp [h]
theorem strs_cell {w:World} {g:Nat} {A:List ByteArray} {t:TypeId} (h:Row w g (strs A) t) {k:Nat} (hk:k<A.length):w.cell? ⟨g,k,none⟩=some (.string (A.getD k noStr)):=by
 simp only [World.cell?,show w.heap[g]?=some (.cells (strs A).toArray t (0,0)) from h]
 simp [strs,hk]
theorem compare_any (A B:List ByteArray) (hA:A.length=3) (hB:B.length=3) (g1 g2:Nat) (t1 t2:TypeId) (w:World) (h1:Row w g1 (strs A) t1) (h2:Row w g2 (strs B) t2) :
  Calls Tryz.prog 96 #[.slice (some ⟨g1,0,none⟩) 3 3,.slice (some ⟨g2,0,none⟩) 3 3] w fun e w'=>e=.returned (.int .i64 (cmpL A B))∧w'=w:=by
 have HA:Hid (∀k,k<3→w.cell? ⟨g1,k,none⟩=some (.string (A.getD k noStr))):=fun k hk=>strs_cell h1 (by omega)
 have HB:Hid (∀k,k<3→w.cell? ⟨g2,k,none⟩=some (.string (B.getD k noStr))):=fun k hk=>strs_cell h2 (by omega)
 have HS:Hid (∀k,k<3→cmpL (A.drop k) (B.drop k)=if cmpS (A.getD k noStr) (B.getD k noStr)=0 then cmpL (A.drop (k+1)) (B.drop (k+1)) else cmpS (A.getD k noStr) (B.getD k noStr)):=fun k hk=>by
  rw [dropS_at (A:=A) (by omega),dropS_at (A:=B) (by omega)];rfl
 have HE:Hid (∀_:Unit,cmpL (A.drop 3) (B.drop 3)=0):=fun _=>by rw [List.drop_of_length_le (by omega),List.drop_of_length_le (by omega)];rfl
 obtain ⟨r,hr⟩:∃r,r=cmpL A B:=⟨_,rfl⟩
 have HR:Hid (∀_:Unit,r=cmpL (A.drop 0) (B.drop 0)):=fun _=>by rw [hr];rfl
 rw [←hr]
 clear h1 h2 hA hB hr
 go_enter Tryz.func96,Tryz.ntmps96
 go_wp2_with fail
 go_loopw [11] (fun vi wr=>∃k:Nat,k≤3∧vi=.int .i64 (k:Int)∧Hid (∀_:Unit,r=cmpL (A.drop k) (B.drop k))∧wr=w) (fun vi _=>match vi with | .int _ k=>3 - k.toNat|_=>0)
 case atStart=>exact ⟨0,by omega,rfl,HR,rfl⟩
 case round =>
  obtain ⟨k,hk,rfl,HK,rfl⟩:=hrel
  by_cases hlt:k<3
  ·have hk3:(k:Int)<3:=by omega
   have hge:¬(3:Int)≤(k:Int):=by omega
   have hk0:(0:Int)≤(k:Int):=by omega
   have hw:IntKind.i64.wrap ((k:Int)+1)=(k:Int)+1:=dt _ (by omega) (by omega)
   have HS':=HS.out k hlt
   obtain ⟨x,hx⟩:∃x,x=A.getD k noStr:=⟨_,rfl⟩
   obtain ⟨y,hy⟩:∃y,y=B.getD k noStr:=⟨_,rfl⟩
   obtain ⟨c,hc⟩:∃c,c=cmpS x y:=⟨_,rfl⟩
   have HX:Hid (wr.cell? ⟨g1,k,none⟩=some (.string x)):=by rw [hx];exact HA.out k hlt
   have HY:Hid (wr.cell? ⟨g2,k,none⟩=some (.string y)):=by rw [hy];exact HB.out k hlt
   have HC:Hid (∀W,Calls Tryz.prog 133 #[.string x,.string y] W fun e w'=>e=.returned (.int .i64 c)∧w'=W):=fun W=>by rw [hc];exact cmpS_any x y W
   rw [←hx,←hy,←hc] at HS'
   have HN:Hid (∀_:Unit,r=if c=0 then cmpL (A.drop (k+1)) (B.drop (k+1)) else c):=fun _=>(HK.out ()).trans HS'
   clear hx hy hc HS'
   by_cases h0:c=0
   ·have HN2:Hid (∀_:Unit,r=cmpL (A.drop (k+1)) (B.drop (k+1))):=fun _=>by rw [HN.out (),if_pos h0]
    subst h0
    go_wp2_with (first
     | ((with_reducible refine ae (some 15) (.load 9 (.tmp 14)) ?_);go_must (refine aj (.string x) rfl (fd (.string x) (HX.out) rfl fJ) ?_))
     | ((with_reducible refine ae (some 23) (.load 9 (.tmp 22)) ?_);go_must (refine aj (.string y) rfl (fd (.string y) (HY.out) rfl fJ) ?_))
     | (go_at_call 133;refine (HC.out _).mono ?_;rintro e w' ⟨he,hw⟩;subst he hw))
    go_roundw
    case rel=>exact ⟨k+1,by omega,by go_num,HN2,by first|rfl|trivial⟩
    case measure=>show 3 - ((k:Int)+1).toNat<3 - (k:Int).toNat;omega
   ·have hne:(c==0)=false:=by simpa using h0
    have HN2:Hid (∀_:Unit,r=c):=fun _=>by rw [HN.out (),if_neg h0]
    go_wp2_with (first
     | ((with_reducible refine ae (some 15) (.load 9 (.tmp 14)) ?_);go_must (refine aj (.string x) rfl (fd (.string x) (HX.out) rfl fJ) ?_))
     | ((with_reducible refine ae (some 23) (.load 9 (.tmp 22)) ?_);go_must (refine aj (.string y) rfl (fd (.string y) (HY.out) rfl fJ) ?_))
     | (go_at_call 133;refine (HC.out _).mono ?_;rintro e w' ⟨he,hw⟩;subst he hw))
    go_ret
    have er:=HN2.out ()
    subst er
    exact ⟨rfl,rfl⟩
  ·have hk3:k=3:=by omega
   subst hk3
   have HN2:Hid (∀_:Unit,r=0):=fun _=>(HK.out ()).trans (HE.out ())
   go_wp2_with fail
   go_ret
   have er:=HN2.out ()
   subst er
   exact ⟨rfl,rfl⟩
def Grw (w w':World):Prop:=∃q os,w'=grow (w.drewN q) os
theorem Grw.refl (w:World):Grw w w:=⟨0,#[],by simp [grow,World.drewN]⟩
theorem Grw.alloc {w w':World} (h:Grw w w') (o:Obj):Grw w (w'.alloc o):=by
 obtain ⟨q,os,rfl⟩:=h
 exact ⟨q,os++#[o],by rw [alloc_eq_grow,grow_grow]⟩
theorem Grw.drew {w w':World} (h:Grw w w'):Grw w {w' with drawn:=w'.drawn+1}:=by
 obtain ⟨q,os,rfl⟩:=h
 exact ⟨q+1,os,rfl⟩
section
variable {P:Program} {ops:Array Oper} {rest:List Oper} {a:Act} {w w0:World} {Q:Exit→Act→World→Prop} {dst:Option Tmp} {typ:TypeId} {pos:String} {aft:Array Edge} {S:List Nat} {rows:List (Nat×List Value×TypeId)}
theorem wpl_boxG {ty:TypeId} {x:Operand} (l:List Value) (hx:a.eval x=.agg l.toArray) (hm:Mem w0 S w rows) (hg:Grw w0 w)
  (h:∀w' g,Mem w0 S w' ((g,l,ty)::rows)→Grw w0 w'→wpList P ops Q rest (a.put dst (.pointer (some ⟨g,0,none⟩))) w') :
  wpList P ops Q ({dst:=dst,op:=.box ty x,type:=typ,pos:=pos,after:=aft,guard:=none}::rest) a w:=by
 refine wpList_plain rfl fun K hK=>?_
 have hh:=hK _ _ (h _ _ (hm.alloc l ty) (hg.alloc _))
 unfold Oper.wp execOp
 simp [Instr.box,newVar,newRow,newObj,hx,Value.cells]
 exact hh
end
theorem anyH_startG {P:Program} {R:Act→World→Prop} {T:World→Prop} {a:Act} {w w0:World} {S:List Nat} {rows:List (Nat×List Value×TypeId)} {id:Nat} {l:List Oper} (hmix:P.follows .mixedOrders=true) (hm:Mem w0 S w rows) (hg:Grw w0 w)
  (h:∀w',Grw w0 w'→Mem w0 S w' rows→wpAnyH P .any l.toArray (endsIn R) T l.toArray.size (Array.replicate l.toArray.size false) a w'):(Code.region id l.toArray true).wp P (endsIn R) a w :=
 wp_region_held hmix (h _ hg.drew hm.drew)
abbrev Tri:=ByteArray×ByteArray×ByteArray
def lst (x:Tri):List ByteArray:=[x.1,x.2.1,x.2.2]
def encT (x:Tri):List Value:=strs (lst x)
def cfT (x y:Tri):Int:=cmpL (lst x) (lst y)
theorem byCode_any (x y:Tri) (w:World) :
  Calls Tryz.prog 63 #[.agg (encT x).toArray,.agg (encT y).toArray] w fun e w'=>e=.returned (.int .i64 (cfT x y))∧Grw w w':=by
 have hm:=Mem.start w
 have hg:=Grw.refl w
 obtain ⟨X,hX⟩:∃X,X=encT x:=⟨_,rfl⟩
 obtain ⟨Y,hY⟩:∃Y,Y=encT y:=⟨_,rfl⟩
 obtain ⟨r,hr⟩:∃r,r=cfT x y:=⟨_,rfl⟩
 have HC:Hid (∀(W:World) (g1 g2:Nat) (t1 t2:TypeId),Row W g1 X t1→Row W g2 Y t2→Calls Tryz.prog 96 #[.slice (some ⟨g1,0,none⟩) 3 3,.slice (some ⟨g2,0,none⟩) 3 3] W fun e w'=>e=.returned (.int .i64 r)∧w'=W):=fun W g1 g2 t1 t2 h1 h2=>by
  subst hX hY hr
  exact compare_any (lst x) (lst y) rfl rfl g1 g2 t1 t2 W h1 h2
 rw [←hX,←hY,←hr]
 clear hX hY hr
 go_enter Tryz.func63,Tryz.ntmps63
 go_wp2_with (first
  | ((with_reducible refine ae (some 2) (.box 76 (.tmp 0)) ?_);go_must (refine wpl_boxG X rfl hm hg ?_);clear hm hg;intro w1 g1 hm hg)
  | ((with_reducible refine ae (some 3) (.box 76 (.tmp 1)) ?_);go_must (refine wpl_boxG Y rfl hm hg ?_);clear hm hg;intro w2 g2 hm hg))
 refine aA ?_
 refine anyH_startG (T:=fun _=>True) (by kernel_rfl) hm hg ?_
 clear hm hg
 intro wc hg hm
 refine aT 0 (v:=.slice (some ⟨g1,0,none⟩) 3 3) rfl (by kernel_rfl) rfl (fun W _=>fb 3 aI dE 0 3 (by omega) (by omega) rfl (Or.inr ⟨rfl,rfl⟩) (Or.inr ⟨rfl,rfl⟩)) trivial ?_
 go_simp
 refine aT 1 (v:=.slice (some ⟨g2,0,none⟩) 3 3) rfl (by kernel_rfl) rfl (fun W _=>fb 3 aI dE 0 3 (by omega) (by omega) rfl (Or.inr ⟨rfl,rfl⟩) (Or.inr ⟨rfl,rfl⟩)) trivial ?_
 go_simp
 refine aO 2 (by kernel_rfl) rfl rfl ?_
 intro K hK
 go_wp2_with (go_at_call 96;refine (HC.out _ g1 g2 _ _ (hm.get 1 rfl) (hm.get 0 rfl)).mono ?_;rintro e w' ⟨he,hw⟩;subst he hw)
 refine hK _ _ trivial ?_
 clear hK K
 go_simp
 refine aT 3 (v:=.int .i64 r) rfl (by kernel_rfl) rfl (fun W _=>by go_simp) trivial ?_
 go_simp
 refine wpAnyH_done (by kernel_rfl) ?_ _
 simp only [endsIn]
 go_wp2_with fail
 go_ret
 exact ⟨rfl,hg⟩
end Go.Proofs.YtlpnafdkhoimhaaGreatDoor
