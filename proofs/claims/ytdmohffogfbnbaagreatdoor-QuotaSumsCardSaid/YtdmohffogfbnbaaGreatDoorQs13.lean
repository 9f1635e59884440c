import Derived.Test.YtdmohffogfbnbaaGreatDoorQs04
import Derived.Test.YtdmohffogfbnbaaGreatDoorQs09
set_option maxRecDepth 100000
set_option maxHeartbeats 4000000
namespace Go.Proofs.YtdmohffogfbnbaaGreatDoor
open Go Go.ChangeShapes Go.WideShapes Go.ChangeAt Go.RowKit
theorem cB:Tryz.prog.underlying 22=some (.slice 31):=Tryz.underlying22
theorem un_stp:∃fs,Tryz.prog.underlying 31=some (.struct fs)∧(fs[0]?).map (fun f=>(f.type,f.offset))=some (3,0)∧(fs[1]?).map (fun f=>(f.type,f.offset))=some (9,1)∧(fs[2]?).map (fun f=>(f.type,f.offset))=some (3,2)∧(fs[3]?).map (fun f=>(f.type,f.offset))=some (3,3)∧fs.size=4 :=
 ⟨match Tryz.prog.underlying 31 with|some (.struct fs)=>fs|_=>#[],by kernel_rfl,by kernel_rfl,by kernel_rfl,by kernel_rfl,by kernel_rfl,by kernel_rfl⟩
theorem un_intS:Tryz.prog.underlying 3=some (.int .i64):=Tryz.underlying3
theorem cells_stp:Tryz.prog.cellsOf 31=4:=by kernel_rfl
theorem dh:Tryz.prog.cellsOf 3=1:=by kernel_rfl
theorem cells_strE:Tryz.prog.cellsOf 9=1:=by kernel_rfl
theorem info_stp:(Tryz.prog.info? 31).map (fun i=>(i.zero,i.size))=some (some (.agg [Value.int .i64 0,.string noStr,.int .i64 0,.int .i64 0].toArray),4):=by kernel_rfl
theorem cT:∀w,(zeroValue 31).run Tryz.prog w=.ok (.agg [Value.int .i64 0,.string noStr,.int .i64 0,.int .i64 0].toArray) w:=(zero_of_info info_stp).1
theorem bC:(Tryz.prog.info? 31).map (·.size)=some 4:=(zero_of_info info_stp).2
theorem dM:Tryz.prog.underlying 31=some (.struct (Tryz.prog.fieldsOf 31)):=by kernel_rfl
structure Stp where
 wh:Int
 path:ByteArray
 b:Int
 e:Int
def stp0:Stp:=⟨0,noStr,0,0⟩
def Stp.row (x:Stp):List Value:=[.int .i64 x.wh,.string x.path,.int .i64 x.b,.int .i64 x.e]
theorem Stp.one (x:Stp):∀v∈x.row,v.oneCell'=true:=by intro v hv;simp [Stp.row] at hv;rcases hv with rfl|rfl|rfl|rfl<;>rfl
structure Stp.Good (x:Stp) (_W:World):Prop where
 any:x.wh=x.wh
theorem open_stp {H:Type} {enc:TypeId×Value→H} {W:World} {cs:List Value} {n:Nat} {x:DataW H×List MemPlace} (hf:DataW.trod enc Tryz.prog W 0 (fun _=>true) true n 31 cs=some x):∃s:Stp,cs=s.row∧s.Good W:=by
 obtain ⟨fs,hu,h0,h1,h2,h3,hsz⟩:=un_stp
 obtain ⟨xs,m,rfl,_,hl,hxl,hget⟩:=DataW.trod_struct hu hf
 rw [cells_stp] at hl
 have key:∀(i:Nat) (T:TypeId),(fs[i]?).map (fun f=>(f.type,f.offset))=some (T,i)→Tryz.prog.cellsOf T=1→i<4→∃y c,cs[i]?=some c∧DataW.trod enc Tryz.prog W 0 (fun _=>true) true m T [c]=some y:=by
  intro i T hi hc hi5
  obtain ⟨f,hf1,hf2⟩:=Option.map_eq_some_iff.1 hi
  simp only [Prod.mk.injEq] at hf2
  obtain ⟨rfl,hfo⟩:=hf2
  have hg:=hget i f hf1
  rw [hc,hfo] at hg
  have hx:xs[i]?=some (xs[i]'(by omega)):=by simp [show i<xs.length by omega]
  rw [hx] at hg
  have hc1:cs[i]?=some (cs[i]'(by omega)):=by simp [show i<cs.length by omega]
  have hd:(cs.drop i).take 1=[cs[i]'(by omega)]:=by
   rw [List.drop_eq_getElem_cons (show i<cs.length by omega)]
   rfl
  rw [hd] at hg
  exact ⟨_,_,hc1,hg⟩
 obtain ⟨y0,c0,e0,t0⟩:=key 0 _ h0 dh (by omega)
 obtain ⟨y1,c1,e1,t1⟩:=key 1 _ h1 cells_strE (by omega)
 obtain ⟨y2,c2,e2,t2⟩:=key 2 _ h2 dh (by omega)
 obtain ⟨y3,c3,e3,t3⟩:=key 3 _ h3 dh (by omega)
 obtain ⟨z0,g0,_,_⟩:=DataW.trod_int un_intS t0
 obtain ⟨z1,g1,_,_⟩:=DataW.trod_string ca t1
 obtain ⟨z2,g2,_,_⟩:=DataW.trod_int un_intS t2
 obtain ⟨z3,g3,_,_⟩:=DataW.trod_int un_intS t3
 simp only [List.cons.injEq,and_true] at g0 g1 g2 g3
 subst g0 g1 g2 g3
 refine ⟨⟨z0,z1,z2,z3⟩,?_,⟨rfl⟩⟩
 match cs,hl,e0,e1,e2,e3 with
 | [a,b,c,d],_,e0,e1,e2,e3 =>
  simp only [List.getElem?_cons_zero,List.getElem?_cons_succ,Option.some.injEq] at e0 e1 e2 e3
  subst e0 e1 e2 e3
  rfl
theorem open_stps {H:Type} {enc:TypeId×Value→H} {W:World} {base:Nat} {v:Value} {d:DataW H} {ps:List MemPlace} (hok:Value.okWide Tryz.prog W .any base 22 v) (h:DataW.Trod enc Tryz.prog W 0 (fun _=>true) true 22 v d ps) :
  ∃(p:Option Addr) (len cap b o:Nat) (X:Nat→Stp),v=.slice p len cap∧(0<len→p=some ⟨b,o,none⟩) ∧
   ∀i,i<len→(∀j u,(X i).row[j]?=some u→W.cell? ⟨b,o+i * 4+j,none⟩=some u)∧(X i).Good W:=by
 obtain ⟨a,len,cap,rfl⟩:=okWide_slice cB hok
 obtain ⟨fuel,hf⟩:=h
 rcases Go.Deep.open_slice cB hf with ⟨hcs,_⟩|⟨x,l,c,m,n,D,Pl,hcs,_,hl,_,hm,_,hel⟩
 ·simp [Value.cells] at hcs
  obtain ⟨rfl,rfl,rfl⟩:=hcs
  exact ⟨none,0,0,0,0,fun _=>stp0,rfl,fun h=>absurd h (by omega),fun i hi=>absurd hi (by omega)⟩
 ·simp [Value.cells] at hcs
  obtain ⟨rfl,rfl,rfl⟩:=hcs
  have hm':m=cap:=by simpa using hm
  rw [cells_stp] at hel
  by_cases h0:0<len
  ·obtain ⟨b,o,spot⟩:=x
   have hspot:spot=none:=by
    obtain ⟨cs',h1,_⟩:=hel 0 (by omega)
    obtain ⟨_,h2,h3⟩:=World.cells?_some h1
    have h4:=h3 0 (by omega)
    rw [List.getElem?_eq_getElem (by omega)] at h4
    simpa [Addr.add] using World.cell?_spot h4
   subst hspot
   haveI:Inhabited Stp:=⟨stp0⟩
   obtain ⟨f,hf⟩:=Go.Deep.choose_lt (α:=Stp) (n:=len) (p:=fun i t=>(∀j u,t.row[j]?=some u→W.cell? ⟨b,o+i * 4+j,none⟩=some u)∧t.Good W)
    (fun i hi=>by
     obtain ⟨cs',h1,h2⟩:=hel i (by omega)
     obtain ⟨s,hs,hg⟩:=open_stp h2
     obtain ⟨_,h3,h4⟩:=World.cells?_some h1
     refine ⟨s,fun j u hu=>?_,hg⟩
     rw [←hs] at hu
     have hj:j<4:=by have:=(List.getElem?_eq_some_iff.1 hu).1;omega
     have h5:=h4 j hj
     rw [bi,bi] at h5
     rw [h5]
     exact hu)
   exact ⟨_,len,cap,b,o,f,rfl,fun _=>rfl,hf⟩
  ·exact ⟨some x,len,cap,0,0,fun _=>stp0,rfl,fun h=>absurd h h0,fun i hi=>absurd hi (by omega)⟩
end Go.Proofs.YtdmohffogfbnbaaGreatDoor
