import Derived.Test.YtblnljajipbajaaGreatDoorQs07
import Derived.Test.YtblnljajipbajaaGreatDoorQs21
import Derived.Test.YtblnljajipbajaaGreatDoorQs22
set_option maxRecDepth 100000
set_option maxHeartbeats 4000000
namespace Go.Proofs.YtblnljajipbajaaGreatDoor
open Go Go.ChangeShapes Go.WideShapes Go.ChangeAt Go.RowKit
theorem un_stps:Tryz.prog.underlying 22=some (.slice 35):=Tryz.underlying22
theorem un_stp:∃fs,Tryz.prog.underlying 35=some (.struct fs)∧(fs[0]?).map (fun f=>(f.type,f.offset))=some (3,0)∧(fs[1]?).map (fun f=>(f.type,f.offset))=some (3,1)∧(fs[2]?).map (fun f=>(f.type,f.offset))=some (5,2)∧(fs[3]?).map (fun f=>(f.type,f.offset))=some (5,3)∧(fs[4]?).map (fun f=>(f.type,f.offset))=some (3,4)∧(fs[5]?).map (fun f=>(f.type,f.offset))=some (33,5)∧fs.size=6 :=
 ⟨match Tryz.prog.underlying 35 with|some (.struct fs)=>fs|_=>#[],by kernel_rfl,by kernel_rfl,by kernel_rfl,by kernel_rfl,by kernel_rfl,by kernel_rfl,by kernel_rfl,by kernel_rfl⟩
theorem cells_stp:Tryz.prog.cellsOf 35=6:=by kernel_rfl
theorem cells_bs:Tryz.prog.cellsOf 33=1:=by kernel_rfl
structure Stp where
 wh:Int
 i:Int
 kek:Int
 key:Int
 pw:Int
 pc:Option Addr
 cc:Nat
 cs:List Int
def stp0:Stp:=⟨0,0,0,0,0,none,0,[]⟩
def Stp.row (x:Stp):List Value:=[.int .i64 x.wh,.int .i64 x.i,.int .u8 x.kek,.int .u8 x.key,.int .i64 x.pw,.slice x.pc x.cs.length x.cc]
structure Stp.Good (x:Stp) (W:World):Prop where
 kek:0≤x.kek∧x.kek<256
 key:0≤x.key∧x.key<256
 hi:x.pw≤9223372036854775807
 sc:SlOld W (.slice x.pc x.cs.length x.cc) x.cs
 bc:Bytes x.cs
theorem open_bsCell {H:Type} {enc:TypeId×Value→H} {W:World} {v:Value} {n:Nat} {x:DataW H×List MemPlace} (hf:DataW.trod enc Tryz.prog W 0 (fun _=>true) true n 33 [v]=some x) :
  ∃(p:Option Addr) (c:Nat) (cs:List Int),v=.slice p cs.length c∧SlOld W (.slice p cs.length c) cs∧Bytes cs:=by
 rcases open_ints au ce iH hf with ⟨hcs,_⟩|⟨x,l,c,zs,hcs,_,hl,_,hz,_,hcell,hwz⟩
 ·simp only [List.cons.injEq,and_true] at hcs
  exact ⟨none,0,[],hcs,⟨none,0,rfl,Nat.le_refl _,fun h=>absurd h (by simp)⟩,by intro y hy;cases hy⟩
 ·simp only [List.cons.injEq,and_true] at hcs
  have hzl:zs.length=c:=by simpa using hz
  have htl:(zs.take l).length=l:=by simp;omega
  refine ⟨some x,c,zs.take l,by rw [htl];exact hcs,⟨some x,c,rfl,by rw [htl];exact hl,fun h0=>?_⟩,?_⟩
  ·obtain ⟨b,off,rfl,hc⟩:=ints_at hcell (by omega)
   exact ⟨b,off,rfl,Seg.take (fun j hj=>hc j hj) l⟩
  ·intro y hy
   have:=bounds_u8 (hwz y (List.mem_of_mem_take hy))
   omega
theorem open_stp {H:Type} {enc:TypeId×Value→H} {W:World} {cs:List Value} {n:Nat} {x:DataW H×List MemPlace} (hf:DataW.trod enc Tryz.prog W 0 (fun _=>true) true n 35 cs=some x):∃s:Stp,cs=s.row∧s.Good W:=by
 obtain ⟨fs,hu,h0,h1,h2,h3,h4,h5,hsz⟩:=un_stp
 obtain ⟨xs,m,rfl,_,hl,hxl,hget⟩:=DataW.trod_struct hu hf
 rw [cells_stp] at hl
 have key:∀(i:Nat) (T:TypeId),(fs[i]?).map (fun f=>(f.type,f.offset))=some (T,i)→Tryz.prog.cellsOf T=1→i<6→∃y c,cs[i]?=some c∧DataW.trod enc Tryz.prog W 0 (fun _=>true) true m T [c]=some y:=by
  intro i T hi hc hi5
  obtain ⟨f,hf1,hf2⟩:=Option.map_eq_some_iff.1 hi
  simp only [Prod.mk.injEq] at hf2
  obtain ⟨rfl,hfo⟩:=hf2
  have hg:=hget i f hf1
  rw [hc,hfo] at hg
  have hx:xs[i]?=some (xs[i]'(by omega)):=by simp [show i<xs.length by omega]
  rw [hx] at hg
  have hc1:cs[i]?=some (cs[i]'(by omega)):=by simp [show i<cs.length by omega]
  have hd:(cs.drop i).take 1=[cs[i]'(by omega)]:=by
   rw [List.drop_eq_getElem_cons (show i<cs.length by omega)]
   rfl
  rw [hd] at hg
  exact ⟨_,_,hc1,hg⟩
 obtain ⟨y0,c0,e0,t0⟩:=key 0 _ h0 iF (by omega)
 obtain ⟨y1,c1,e1,t1⟩:=key 1 _ h1 iF (by omega)
 obtain ⟨y2,c2,e2,t2⟩:=key 2 _ h2 iH (by omega)
 obtain ⟨y3,c3,e3,t3⟩:=key 3 _ h3 iH (by omega)
 obtain ⟨y4,c4,e4,t4⟩:=key 4 _ h4 iF (by omega)
 obtain ⟨y5,c5,e5,t5⟩:=key 5 _ h5 cells_bs (by omega)
 obtain ⟨z0,g0,_,_⟩:=DataW.trod_int un_int t0
 obtain ⟨z1,g1,_,_⟩:=DataW.trod_int un_int t1
 obtain ⟨z2,g2,_,w2⟩:=DataW.trod_int ce t2
 obtain ⟨z3,g3,_,w3⟩:=DataW.trod_int ce t3
 obtain ⟨z4,g4,_,w4⟩:=DataW.trod_int un_int t4
 obtain ⟨p5,k5,l5,g5,s5,b5⟩:=open_bsCell t5
 simp only [List.cons.injEq,and_true] at g0 g1 g2 g3 g4
 subst g0 g1 g2 g3 g4 g5
 have u2:=bounds_u8 w2
 have u3:=bounds_u8 w3
 refine ⟨⟨z0,z1,z2,z3,z4,p5,k5,l5⟩,?_,⟨⟨u2.1,by show z2<256;omega⟩,⟨u3.1,by show z3<256;omega⟩,(bounds_i64 w4).2,s5,b5⟩⟩
 match cs,hl,e0,e1,e2,e3,e4,e5 with
 | [a,b,c,d,e,f],_,e0,e1,e2,e3,e4,e5 =>
  simp only [List.getElem?_cons_zero,List.getElem?_cons_succ,Option.some.injEq] at e0 e1 e2 e3 e4 e5
  subst e0 e1 e2 e3 e4 e5
  rfl
theorem open_stps {H:Type} {enc:TypeId×Value→H} {W:World} {base:Nat} {v:Value} {d:DataW H} {ps:List MemPlace} (hok:Value.okWide Tryz.prog W .any base 22 v) (h:DataW.Trod enc Tryz.prog W 0 (fun _=>true) true 22 v d ps) :
  ∃(p:Option Addr) (len cap b o:Nat) (X:Nat→Stp),v=.slice p len cap∧(0<len→p=some ⟨b,o,none⟩) ∧
   ∀i,i<len→(∀j u,(X i).row[j]?=some u→W.cell? ⟨b,o+i * 6+j,none⟩=some u)∧(X i).Good W:=by
 obtain ⟨a,len,cap,rfl⟩:=okWide_slice un_stps hok
 obtain ⟨fuel,hf⟩:=h
 rcases Go.Deep.open_slice un_stps hf with ⟨hcs,_⟩|⟨x,l,c,m,n,D,Pl,hcs,_,hl,_,hm,_,hel⟩
 ·simp [Value.cells] at hcs
  obtain ⟨rfl,rfl,rfl⟩:=hcs
  exact ⟨none,0,0,0,0,fun _=>stp0,rfl,fun h=>absurd h (by omega),fun i hi=>absurd hi (by omega)⟩
 ·simp [Value.cells] at hcs
  obtain ⟨rfl,rfl,rfl⟩:=hcs
  have hm':m=cap:=by simpa using hm
  rw [cells_stp] at hel
  by_cases h0:0<len
  ·obtain ⟨b,o,spot⟩:=x
   have hspot:spot=none:=by
    obtain ⟨cs',h1,_⟩:=hel 0 (by omega)
    obtain ⟨_,h2,h3⟩:=World.cells?_some h1
    have h4:=h3 0 (by omega)
    rw [List.getElem?_eq_getElem (by omega)] at h4
    simpa [Addr.add] using World.cell?_spot h4
   subst hspot
   haveI:Inhabited Stp:=⟨stp0⟩
   obtain ⟨f,hf⟩:=Go.Deep.choose_lt (α:=Stp) (n:=len) (p:=fun i t=>(∀j u,t.row[j]?=some u→W.cell? ⟨b,o+i * 6+j,none⟩=some u)∧t.Good W)
    (fun i hi=>by
     obtain ⟨cs',h1,h2⟩:=hel i (by omega)
     obtain ⟨s,hs,hg⟩:=open_stp h2
     obtain ⟨_,h3,h4⟩:=World.cells?_some h1
     refine ⟨s,fun j u hu=>?_,hg⟩
     rw [←hs] at hu
     have hj:j<6:=by have:=(List.getElem?_eq_some_iff.1 hu).1;omega
     have h5:=h4 j hj
     rw [bC,bC] at h5
     rw [h5]
     exact hu)
   exact ⟨_,len,cap,b,o,f,rfl,fun _=>rfl,hf⟩
  ·exact ⟨some x,len,cap,0,0,fun _=>stp0,rfl,fun h=>absurd h h0,fun i hi=>absurd hi (by omega)⟩
section
variable {a:Act} {w:World} {dst:Option Tmp} {typ:TypeId} {pos:String} {aft:Array Edge} {gd:Option (Nat×Bool)}
theorem iM {x ix:Operand} {b o n cap:Nat} (i:Nat) {ii:Int} (hx:a.eval x=.slice (some ⟨b,o,none⟩) n cap) (hix:a.eval ix=.int .i64 ii) (hii:ii=(i:Int)) (hi:i<n) :
  (execOp a.eval {dst:=dst,op:=.indexAddr 22 x ix,type:=typ,pos:=pos,after:=aft,guard:=gd}).run Tryz.prog w=.ok (.value (.pointer (some ⟨b,o+i * 6,none⟩))) w:=by
 subst hii
 have h0:(0:Int)≤(i:Int)∧(i:Int)<(n:Int):=by omega
 unfold execOp
 simp [hx,hix,Instr.indexAt,asIntOf,run_underlying un_stps,h0,bC]
 intro h
 omega
end
open Go Go.RowKit Go.Maps
theorem used_new:usedL newS.held 24=[]:=by decide
theorem put_x {w0 w:World} {g mb:Nat} {kv:Value} {sb hb:Nat} {d:Dk} {t:Slt} {k:Nat} {rows:List (Nat×List Value×TypeId)} (h:Sv w0 w g mb kv sb hb d t k rows) (ht:Tab w0) (hq:QTab w0) (hk:k≤1000000) (hp:t.puts<200) (i:Int) (kek key:List Int) (hkl:kek.length=32) (hkb:Bytes kek) (hyl:key.length=32) (hyb:Bytes key) :
  Calls Tryz.prog 13 #[.pointer (some ⟨sb,0,none⟩),.int .i64 i,.agg (u8s kek).toArray,.agg (u8s key).toArray] w fun e w'=>∃(x:Int) (d':Dk) (t':Slt),e=.returned (.int .i64 x)∧Sv w0 w' g mb kv sb hb d' t' (k+1000) rows∧t'.puts≤t.puts+1:=by
 cases ho:okI i with
 | true =>
  obtain ⟨j,rfl,hj⟩:=okI_nat ho
  refine (put_w h ht hq hk hp j hj kek key hkl hkb hyl hyb _ rfl).mono ?_
  rintro e w' ⟨rfl,⟨d',h1⟩,_⟩
  exact ⟨0,d',_,rfl,h1,Nat.le_refl _⟩
 | false =>
  refine (put_nv h i ho kek key).mono ?_
  rintro e w' ⟨rfl,h1⟩
  exact ⟨70,d,t,rfl,h1.mono (by omega),by omega⟩
theorem made_walk (ch:List Int) (p p2:Option Addr) (n cap n2 cap2 b o:Nat) (X:Nat→Stp) (hchb:Bytes ch) (w:World) (ht:Tab w) (hq:QTab w) (_h2:2≤w.heap.size) (hp:0<n→p=some ⟨b,o,none⟩) (hX:∀i,i<n→(∀j u,(X i).row[j]?=some u→w.cell? ⟨b,o+i * 6+j,none⟩=some u)∧(X i).Good w) (hl2:SlOld w (.slice p2 n2 cap2) ch) :
  Calls Tryz.prog 7 #[.slice p n cap,.slice p2 n2 cap2] w fun e w'=>e=.returned (.bool true)∧Below w.heap.size w w':=by
 have HT:Hid (Tab w):=ht
 have HQT:Hid (QTab w):=hq
 have HP:Hid (0<n→p=some ⟨b,o,none⟩):=hp
 have HX:Hid (∀i,i<n→(∀j u,(X i).row[j]?=some u→w.cell? ⟨b,o+i * 6+j,none⟩=some u)∧(X i).Good w):=hX
 have HL2:Hid (SlOld w (.slice p2 n2 cap2) ch):=hl2
 have HCHB:Hid (Bytes ch):=hchb
 have hm:=Mem.start w
 clear ht hq hp hX hl2 hchb
 by_cases hbad:20<n∨20<n2
 ·by_cases h1:20<n
  ·have hn1:(20:Int)<(n:Int):=by omega
   go_enter Tryz.func7,Tryz.ntmps7
   go_wp2_with (first
    | (go_at_call 9;refine (cx _ HT.out HQT.out).mono ?_;rintro e w1 ⟨rfl,hb1⟩;replace hm:=hm.call hb1;clear hb1))
   go_ret
   exact ⟨rfl,hm.below⟩
  ·have hn1:¬(20:Int)<(n:Int):=by omega
   have hn2:(20:Int)<(n2:Int):=by omega
   go_enter Tryz.func7,Tryz.ntmps7
   go_wp2_with (first
    | (go_at_call 9;refine (cx _ HT.out HQT.out).mono ?_;rintro e w1 ⟨rfl,hb1⟩;replace hm:=hm.call hb1;clear hb1))
   go_ret
   exact ⟨rfl,hm.below⟩
 ·have HB1:decide ((20:Int)<(n:Int))=false:=decide_eq_false (by omega)
  have HB2:decide ((20:Int)<(n2:Int))=false:=decide_eq_false (by omega)
  have hn20:n≤20:=by omega
  clear hbad
  go_enter Tryz.func7,Tryz.ntmps7
  go_wp2_with (first
   | (go_at_call 9;refine (cx _ HT.out HQT.out).mono ?_;rintro e w1 ⟨rfl,hb1⟩;replace hm:=hm.call hb1;clear hb1)
   | (go_at_call 10;go_must (refine (fh 64 _).mono ?_);rintro e w1 ⟨g,rfl,mb,kv,hd,hf,hb1⟩;rw [iK] at hd;have HD:Hid (DkAt w1 g mb kv (Dk.new 64)):=hd;have HF:Hid (∀q∈foot g mb kv,w.heap.size≤q):=fun q hq=>Nat.le_trans hm.size (hf q hq);replace hm:=hm.call hb1;clear hd hf hb1)
   | (go_at_call 11;go_must (refine (gV (by omega) (by omega) hm HD.out HF.out (by simp) HT.out).mono ?_);rintro e w2 ⟨sb,hb,rfl,st,_,_,_⟩;obtain ⟨d0,hd0⟩:∃x,x=makeD (Dk.new 64):=⟨_,rfl⟩;rw [←hd0] at st;clear hd0 hm HD HF))
  go_loopw [8] (fun vi wr=>∃(i:Nat) (d:Dk) (t:Slt),i≤n∧vi=.int .i64 (i:Int)∧Hid (Sv w wr g mb kv sb hb d t (1000+1000 * i) [])∧Hid (t.puts≤i)) (fun vi _=>n - (intOf vi).toNat)
  case atStart=>exact ⟨0,d0,newS,by omega,rfl,st,Nat.le_refl 0⟩
  case round =>
   clear st
   obtain ⟨i,d,t,hi,rfl,HST,HPU⟩:=hrel
   have st:=HST.out
   clear HST
   by_cases hlt:i<n
   ·have hli:(i:Int)<(n:Int):=by omega
    have hp:=HP.out (by omega)
    subst hp
    obtain ⟨hc,hg⟩:=HX.out i hlt
    obtain ⟨I,hI⟩:∃I,I=(X i).i:=⟨_,rfl⟩
    obtain ⟨x,hx⟩:∃x,x=(X i).kek:=⟨_,rfl⟩
    obtain ⟨y,hy⟩:∃y,y=(X i).key:=⟨_,rfl⟩
    have HC1:Hid (w.cell? ⟨b,o+i * 6+1,none⟩=some (.int .i64 I)):=hc 1 _ (by rw [hI];rfl)
    have HC2:Hid (w.cell? ⟨b,o+i * 6+2,none⟩=some (.int .u8 x)):=hc 2 _ (by rw [hx];rfl)
    have HC3:Hid (w.cell? ⟨b,o+i * 6+3,none⟩=some (.int .u8 y)):=hc 3 _ (by rw [hy];rfl)
    have HXB:Hid (0≤x∧x<256):=by rw [hx];exact hg.kek
    have HYB:Hid (0≤y∧y<256):=by rw [hy];exact hg.key
    clear hc hg hI hx hy
    go_wp2_with fail
    refine av ?_
    refine aV (T:=fun W=>(W.cell? ⟨b,o+i * 6+1,none⟩=some (.int .i64 I)∧W.cell? ⟨b,o+i * 6+2,none⟩=some (.int .u8 x)∧W.cell? ⟨b,o+i * 6+3,none⟩=some (.int .u8 y))) (by kernel_rfl) st.mem ?_
    intro wz hbz hmz
    replace st:=st.below hbz
    have HTW:Hid (wz.cell? ⟨b,o+i * 6+1,none⟩=some (.int .i64 I)∧wz.cell? ⟨b,o+i * 6+2,none⟩=some (.int .u8 x)∧wz.cell? ⟨b,o+i * 6+3,none⟩=some (.int .u8 y)):=⟨st.cell HC1.out,st.cell HC2.out,st.cell HC3.out⟩
    clear hbz hmz
    refine aT 0 (v:=.pointer (some ⟨sb,0,none⟩)) rfl (by kernel_rfl) rfl (fun W _=>by go_simp) HTW.out ?_
    go_simp
    refine aT 1 (v:=.slice (some ⟨b,o,none⟩) n cap) rfl (by kernel_rfl) rfl (fun W _=>by go_simp) HTW.out ?_
    go_simp
    refine aT 2 (v:=.int .i64 (i:Int)) rfl (by kernel_rfl) rfl (fun W _=>by go_simp) HTW.out ?_
    go_simp
    refine aT 3 (v:=.pointer (some ⟨b,o+i * 6,none⟩)) rfl (by kernel_rfl) rfl (fun W hW=>iM i rfl rfl rfl hlt) HTW.out ?_
    go_simp
    refine aT 4 (v:=.pointer (some ⟨b,o+i * 6+1,none⟩)) rfl (by kernel_rfl) rfl (fun W _=>by go_simp) HTW.out ?_
    go_simp
    refine aT 5 (v:=.int .i64 I) rfl (by kernel_rfl) rfl (fun W hW=>bG hW.1 rfl iL) HTW.out ?_
    go_simp
    refine aT 6 (v:=.slice (some ⟨b,o,none⟩) n cap) rfl (by kernel_rfl) rfl (fun W _=>by go_simp) HTW.out ?_
    go_simp
    refine aT 7 (v:=.int .i64 (i:Int)) rfl (by kernel_rfl) rfl (fun W _=>by go_simp) HTW.out ?_
    go_simp
    refine aT 8 (v:=.pointer (some ⟨b,o+i * 6,none⟩)) rfl (by kernel_rfl) rfl (fun W hW=>iM i rfl rfl rfl hlt) HTW.out ?_
    go_simp
    refine aT 9 (v:=.pointer (some ⟨b,o+i * 6+2,none⟩)) rfl (by kernel_rfl) rfl (fun W _=>by go_simp) HTW.out ?_
    go_simp
    refine aT 10 (v:=.int .u8 x) rfl (by kernel_rfl) rfl (fun W hW=>bG hW.2.1 rfl d3) HTW.out ?_
    go_simp
    refine aT 12 (v:=.slice (some ⟨b,o,none⟩) n cap) rfl (by kernel_rfl) rfl (fun W _=>by go_simp) HTW.out ?_
    go_simp
    refine aT 13 (v:=.int .i64 (i:Int)) rfl (by kernel_rfl) rfl (fun W _=>by go_simp) HTW.out ?_
    go_simp
    refine aT 14 (v:=.pointer (some ⟨b,o+i * 6,none⟩)) rfl (by kernel_rfl) rfl (fun W hW=>iM i rfl rfl rfl hlt) HTW.out ?_
    go_simp
    refine aT 15 (v:=.pointer (some ⟨b,o+i * 6+3,none⟩)) rfl (by kernel_rfl) rfl (fun W _=>by go_simp) HTW.out ?_
    go_simp
    refine aT 16 (v:=.int .u8 y) rfl (by kernel_rfl) rfl (fun W hW=>bG hW.2.2 rfl d3) HTW.out ?_
    go_simp
    refine aO 11 (by kernel_rfl) rfl rfl ?_
    intro K hK
    go_wp2_with ((go_at_call 14;refine (co _ _).mono ?_;rintro e wk ⟨rfl,hbk⟩;replace st:=st.below hbk;clear hbk HTW;have HTW:Hid (wk.cell? ⟨b,o+i * 6+1,none⟩=some (.int .i64 I)∧wk.cell? ⟨b,o+i * 6+2,none⟩=some (.int .u8 x)∧wk.cell? ⟨b,o+i * 6+3,none⟩=some (.int .u8 y)):=⟨st.cell HC1.out,st.cell HC2.out,st.cell HC3.out⟩))
    refine hK _ _ HTW.out ?_
    clear hK K
    go_simp
    refine aO 17 (by kernel_rfl) rfl rfl ?_
    intro K hK
    go_wp2_with ((go_at_call 14;refine (co _ _).mono ?_;rintro e wk ⟨rfl,hbk⟩;replace st:=st.below hbk;clear hbk HTW;have HTW:Hid (wk.cell? ⟨b,o+i * 6+1,none⟩=some (.int .i64 I)∧wk.cell? ⟨b,o+i * 6+2,none⟩=some (.int .u8 x)∧wk.cell? ⟨b,o+i * 6+3,none⟩=some (.int .u8 y)):=⟨st.cell HC1.out,st.cell HC2.out,st.cell HC3.out⟩))
    refine hK _ _ HTW.out ?_
    clear hK K
    go_simp
    refine aO 18 (by kernel_rfl) rfl rfl ?_
    intro K hK
    go_wp2_with ((go_at_call 13;go_must (refine (put_x st HT.out HQT.out (by omega) (by have:=HPU.out;omega) I (keyB x) (keyB y) (ak x) (aZ HXB.out) (ak y) (aZ HYB.out)).mono ?_);rintro e wp ⟨ep,d1,t1,rfl,st9,hp9⟩;have HP1:Hid (t1.puts≤i+1):=(show t1.puts≤i+1 by have:=HPU.out;omega);replace st:=st9;clear st9 hp9 HTW;have HTW:Hid (wp.cell? ⟨b,o+i * 6+1,none⟩=some (.int .i64 I)∧wp.cell? ⟨b,o+i * 6+2,none⟩=some (.int .u8 x)∧wp.cell? ⟨b,o+i * 6+3,none⟩=some (.int .u8 y)):=⟨st.cell HC1.out,st.cell HC2.out,st.cell HC3.out⟩))
    refine hK _ _ HTW.out ?_
    clear hK K
    go_simp
    refine wpAnyH_done (by kernel_rfl) ?_ _
    simp only [endsIn]
    clear HTW
    go_wp2_with fail
    go_roundw
    case rel=>exact ⟨i+1,d1,t1,by omega,by go_num,st.mono (by omega),HP1.out⟩
    case measure=>simp [intOf];omega
   ·have hli:¬(i:Int)<(n:Int):=by omega
    obtain ⟨KK,hKK⟩:∃KK,KK=1000+1000 * i:=⟨_,rfl⟩
    rw [←hKK] at st
    have hKK2:KK≤100000:=by omega
    clear hKK
    go_wp2_with (first
     | (go_at_call 11;go_must (refine (make_w st HT.out (by omega)).mono ?_);rintro e w3 ⟨s3,h3,rfl,d3,st9⟩;clear st;have st:=st9;clear st9)
     | (go_at_call 26;go_must (refine (used_v st).mono ?_);rintro e wu ⟨vu,rfl,hin,st9,_⟩;rw [used_new] at hin;obtain ⟨pu,cu,rfl,_⟩:=hin;replace st:=st9;clear st9)
     | (go_at_call 25;go_must (refine (free_v st).mono ?_);rintro e wf ⟨he,st9⟩;rw [k12_free] at he;subst he;replace st:=st9;clear st9)
     | (go_at_call 18;go_must (refine (crash_w st ch _ HCHB.out (st.old HL2.out)).mono ?_);rintro e wc ⟨rfl,d4,st9⟩;clear st;have st:=st9;clear st9)
     | (go_at_call 19;go_must (refine (open_v st HT.out (by omega)).mono ?_);rintro e wo ⟨s5,h5,rfl,st9⟩;clear st;have st:=st9;clear st9))
    obtain ⟨KL,hKL⟩:∃KL,KL=KK+1000+1000:=⟨_,rfl⟩
    rw [←hKL] at st
    go_loopw [13] (fun vi wr=>∃(j:Nat),j≤24∧vi=.int .i64 (j:Int)∧Hid (Sv w wr g mb kv s5 h5 d4 newS KL [])) (fun vi _=>24 - (intOf vi).toNat)
    case atStart=>exact ⟨0,by omega,rfl,st⟩
    case round =>
     clear st
     obtain ⟨j,hj,rfl,HST⟩:=hrel
     have st:=HST.out
     clear HST
     by_cases hlt:j<24
     ·have hlj:(j:Int)<24:=by omega
      have HGV:Hid (∀_:Unit,getV newS.held (j:Int) (keyB 1)=(zero32,120)):=fun _=>iI hlt rfl _
      go_wp2_with (first
       | (go_at_call 14;refine (co _ _).mono ?_;rintro e wk ⟨rfl,hbk⟩;replace st:=st.below hbk;clear hbk)
       | (go_at_call 16;go_must (refine (iG st HT.out HQT.out (j:Int) (keyB 1) (ak 1) (aZ (by omega))).mono ?_);rintro e wg ⟨he,st9⟩;rw [HGV.out ()] at he;subst he;replace st:=st9;clear st9)
       | ((with_reducible refine ae (some 14) (.alloc 39) ?_);go_must (refine bW _ br ?_);intro wa q14 hba hqa hra;replace st:=st.add hba hra hqa;clear hba hqa hra)
       | ((with_reducible refine ae none (.store 39 (.tmp 14) (.tmp 106)) ?_);go_must (refine eb (u8s zero32) (st.mem.get 0 rfl) rfl rfl 32 aw (by simp [aa]) (by simp [aa,zero32]) (aj _) ?_);intro wb hub hrb;replace st:=st.upd 0 rfl hub hrb;clear hub hrb))
      go_roundw
      case rel=>exact ⟨j+1,by omega,by go_num,st.tail⟩
      case measure=>simp [intOf];omega
     ·have hlj:¬(j:Int)<24:=by omega
      have tk1:Nat:=0
      go_wp2_with (first
       | (go_at_call 14;refine (co _ _).mono ?_;rintro e wk ⟨rfl,hbk⟩;replace st:=st.below hbk;clear hbk)
       | (go_at_call 16;(first|(clear tk1;go_must (refine (iG st HT.out HQT.out 24 (keyB 1) (ak 1) (aZ (by omega))).mono ?_);rintro e wg ⟨he,st9⟩;rw [getV_no (by decide)] at he;subst he;replace st:=st9;clear st9)|(go_must (refine (iG st HT.out HQT.out (-1) (keyB 1) (ak 1) (aZ (by omega))).mono ?_);rintro e wg ⟨he,st9⟩;rw [getV_no (by decide)] at he;subst he;replace st:=st9;clear st9)))
       | (go_at_call 15;go_must (refine (erase_nv st (-1) (by decide)).mono ?_);rintro e we ⟨rfl,hw⟩;replace hw:=hw.symm;subst hw)
       | ((with_reducible refine ae (some 16) (.alloc 39) ?_);go_must (refine bW _ br ?_);intro wa q16 hba hqa hra;replace st:=st.add hba hra hqa;clear hba hqa hra)
       | ((with_reducible refine ae none (.store 39 (.tmp 16) (.tmp 114)) ?_);go_must (refine eb (u8s zero32) (st.mem.get 0 rfl) rfl rfl 32 aw (by simp [aa]) (by simp [aa,zero32]) (aj _) ?_);intro wb hub hrb;replace st:=st.upd 0 rfl hub hrb;clear hub hrb)
       | ((with_reducible refine ae (some 18) (.alloc 39) ?_);go_must (refine bW _ br ?_);intro wa q18 hba hqa hra;replace st:=st.add hba hra hqa;clear hba hqa hra)
       | ((with_reducible refine ae none (.store 39 (.tmp 18) (.tmp 120)) ?_);go_must (refine eb (u8s zero32) (st.mem.get 0 rfl) rfl rfl 32 aw (by simp [aa]) (by simp [aa,zero32]) (aj _) ?_);intro wb hub hrb;replace st:=st.upd 0 rfl hub hrb;clear hub hrb))
      go_ret
      exact ⟨rfl,st.mem.below⟩
end Go.Proofs.YtblnljajipbajaaGreatDoor
