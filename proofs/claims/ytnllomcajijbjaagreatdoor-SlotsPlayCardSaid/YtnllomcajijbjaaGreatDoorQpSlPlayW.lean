/- The walk of the law SlotsPlay. -/
import Derived.Test.YtnllomcajijbjaaGreatDoorQp24
set_option maxRecDepth 100000
set_option maxHeartbeats 200000000
namespace Go.Proofs.YtnllomcajijbjaaGreatDoor
open Go Go.RowKit Go.Maps
theorem info_mdl:(Tryz.prog.info? 32).map (fun i=>(i.zero,i.size))=some (some (.agg (modL (fun _=>(false,0,0)) 24).toArray),72):=by kernel_rfl
theorem zero_mdl:∀w,(zeroValue 32).run Tryz.prog w=.ok (.agg (modL (fun _=>(false,0,0)) 24).toArray) w:=(zero_of_info info_mdl).1
theorem sz_mdl:(Tryz.prog.info? 32).map (·.size)=some 72:=(zero_of_info info_mdl).2
theorem info_stpS:(Tryz.prog.info? 35).map (fun i=>(i.zero,i.size))=some (some (.agg [.int .i64 0,.int .i64 0,.int .u8 0,.int .u8 0,.int .i64 0,.slice none 0 0].toArray),6):=by kernel_rfl
theorem zero_stpS:∀w,(zeroValue 35).run Tryz.prog w=.ok (.agg [.int .i64 0,.int .i64 0,.int .u8 0,.int .u8 0,.int .i64 0,.slice none 0 0].toArray) w:=(zero_of_info info_stpS).1
theorem sz_stpS:(Tryz.prog.info? 35).map (·.size)=some 6:=(zero_of_info info_stpS).2
theorem sz_slt:(Tryz.prog.info? 31).map (·.size)=some 3:=by kernel_rfl
theorem built_sl0:Tryz.prog.built 31 []=some (slV (false,0,0)).toArray:=by kernel_rfl
theorem built_sl1 (x y:Int):Tryz.prog.built 31 [(0,.bool true),(1,.int .u8 x),(2,.int .u8 y)]=some (slV (true,x,y)).toArray:=by kernel_rfl
theorem ag_bsS:∀w,(isAgg 33).run Tryz.prog w=.ok false w:=by intro w;simp [go_sem]
theorem clamp70P:clampK 70=70:=by decide
section
variable {a:Act} {w:World} {dst:Option Tmp} {typ:TypeId} {pos:String} {aft:Array Edge} {gd:Option (Nat×Bool)}
theorem exec_ld6 {x:Operand} {b:Nat} (off:Nat) (cs:List Value) (hx:a.eval x=.pointer (some ⟨b,off,none⟩)) (hc:∀j v,cs[j]?=some v→w.cell? ⟨b,off+j,none⟩=some v) (hn:cs.length=6) :
  (execOp a.eval {dst:=dst,op:=.load 35 x,type:=typ,pos:=pos,after:=aft,guard:=gd}).run Tryz.prog w=.ok (.value (.agg cs.toArray)) w:=by
 obtain ⟨fs,hu,_⟩:=un_stp
 unfold execOp
 simp only [hx,Instr.loadAt,Instr.sureAddr,Sem.run_bind,Sem.run_pure,Result.andThen_ok,d5 w b off 6 35 cs (.struct fs) hc hu rfl sz_stpS hn]
end
section
variable {ops:Array Oper} {rest:List Oper} {a:Act} {w:World} {Q:Exit→Act→World→Prop} {typ:TypeId} {pos:String} {aft:Array Edge} {P:Program}
theorem wpl_stsV {ty:TypeId} {x y:Operand} {q:Nat} {l:List Value} {t:TypeId} (off:Nat) (cs new:List Value) (hr:Row w q l t) (hx:a.eval x=.pointer (some ⟨q,off,none⟩)) (hy:a.eval y=.agg cs.toArray) (n:Nat) (hs:(P.info? ty).map (·.size)=some n) (hn:cs.length=n) (hl:off+n≤l.length) (h1:∀v∈cs,v.oneCell'=true) (hnew:splice l off cs=new)
  (h:∀w',Upd q w w'→Row w' q new t→wpList P ops Q rest a w') :
  wpList P ops Q ({dst:=none,op:=.store ty x y,type:=typ,pos:=pos,after:=aft,guard:=none}::rest) a w:=by
 refine wpl_sts 0 off cs new (Mem.enter hr) rfl hx hy n hs hn hl h1 hnew ?_
 intro w' hm
 exact h w' hm.toUpd (hm.get 0 rfl)
end
def Rest (_:Nat):Prop:=True
theorem rest_here {p:Prop} (h:∀N:Nat,Rest N→p):p:=h 0 trivial
theorem modL24 (M:Nat→Mdl):(modL M 24).length=72:=bz M 24
def Po (w0 w:World) (g mb:Nat) (kv:Value) (sb hb:Nat) (b:Bool) (t:Slt) (i:Nat) (N:Option Ent) (k:Nat) (M:Nat→Mdl) (rows:List (Nat×List Value×TypeId)) (f:Int):Prop :=
 (f=0∧∃t',Pn w0 w g mb kv sb hb b t' k M rows∧t'.puts≤t.puts+1)∨(b=false∧f=61∧Pd w0 w g mb kv sb hb t i N k rows)
theorem Po.mem {w0 w:World} {g mb:Nat} {kv:Value} {sb hb:Nat} {b:Bool} {t:Slt} {i:Nat} {N:Option Ent} {k:Nat} {M:Nat→Mdl} {rows:List (Nat×List Value×TypeId)} {f:Int} (h:Po w0 w g mb kv sb hb b t i N k M rows f):Mem w0 [] w rows:=by
 rcases h with ⟨_,_,h,_⟩|⟨_,_,h⟩
 ·exact h.mem
 ·exact h.mem
theorem play_walk (p:Option Addr) (n cap b o:Nat) (X:Nat→Stp) (w:World) (ht:Tab w) (hq:QTab w) (_h2:2≤w.heap.size) (hp:0<n→p=some ⟨b,o,none⟩) (hX:∀i,i<n→(∀j u,(X i).row[j]?=some u→w.cell? ⟨b,o+i * 6+j,none⟩=some u)∧(X i).Good w) :
  Calls Tryz.prog 3 #[.slice p n cap] w fun e w'=>e=.returned (.bool true)∧Below w.heap.size w w':=by
 have HT:Hid (Tab w):=ht
 have HQT:Hid (QTab w):=hq
 have HP:Hid (0<n→p=some ⟨b,o,none⟩):=hp
 have HX:Hid (∀i,i<n→(∀j u,(X i).row[j]?=some u→w.cell? ⟨b,o+i * 6+j,none⟩=some u)∧(X i).Good w):=hX
 have hm:=Mem.start w
 clear ht hq hp hX
 by_cases hbad:30<n
 ·have hn1:(30:Int)<(n:Int):=by omega
  have hn2:decide ((30:Int)<(n:Int))=true:=decide_eq_true hn1
  go_enter Tryz.func3,Tryz.ntmps3
  go_wp2_with (first
   | (go_at_call 4;refine (ig _ HT.out HQT.out).mono ?_;rintro e w1 ⟨rfl,hb1⟩;replace hm:=hm.call hb1;clear hb1))
  go_ret
  exact ⟨rfl,hm.below⟩
 ·have hn1:¬(30:Int)<(n:Int):=by omega
  have hn2:decide ((30:Int)<(n:Int))=false:=decide_eq_false hn1
  have hn30:n≤30:=by omega
  clear hbad
  go_enter Tryz.func3,Tryz.ntmps3
  go_wp2_with (first
   | (go_at_call 4;refine (ig _ HT.out HQT.out).mono ?_;rintro e w1 ⟨rfl,hb1⟩;replace hm:=hm.call hb1;clear hb1)
   | (go_at_call 5;go_must (refine (i3 70 _).mono ?_);rintro e w1 ⟨g,rfl,mb,kv,hd,hf,hb1⟩;rw [clamp70P] at hd;have HD:Hid (DkAt w1 g mb kv (Dk.new 70)):=hd;have HF:Hid (∀q∈foot g mb kv,w.heap.size≤q):=fun q hq=>Nat.le_trans hm.size (hf q hq);replace hm:=hm.call hb1;clear hd hf hb1)
   | (go_at_call 6;go_must (refine (make_new (by omega) (by omega) hm HD.out HF.out (by simp) HT.out).mono ?_);rintro e w2 ⟨sb,hb,rfl,st0,_,_,_⟩;have st:Pn w w2 g mb kv sb hb true newS 1000 (fun _=>(false,0,0)) []:=⟨_,st0.sp,st0.inv,st0.cm.off,fun _=>st0.cm.left,by decide⟩;clear st0 hm HD HF)
   | ((with_reducible refine aa (some 6) (.alloc 32) ?_);go_must (refine aC _ zero_mdl ?_);intro wa q6 hba hqa hra;replace st:=st.add hba hra hqa;clear hba hqa hra))
  go_loopw [4,7] (fun vs vi wr=>∃(i sb hb:Nat) (t:Slt) (M:Nat→Mdl),i≤n∧vi=.int .i64 (i:Int)∧vs=.pointer (some ⟨sb,0,none⟩)∧Hid (Pn w wr g mb kv sb hb true t (1000+6000 * i) M [(q6,modL M 24,32)])∧Hid (t.puts≤i)∧Hid (MB M)) (fun _ vi _=>n - (intOf vi).toNat)
  case atStart=>exact ⟨0,sb,hb,newS,_,by omega,rfl,rfl,st,Nat.le_refl 0,fun _ _=>by simp⟩
  case round =>
   clear st
   obtain ⟨i,sb,hb,t,M,hi,rfl,rfl,HST,HPU,HMB⟩:=hrel
   have st:=HST.out
   have HAGM:Hid (agB t.held M 24=true):=HST.out.ag
   clear HST
   by_cases hlt:i<n
   ·have hli:(i:Int)<(n:Int):=by omega
    have hwi:IntKind.i64.wrap ((i:Int)+1)=(i:Int)+1:=wrapi _ (by omega) (by omega)
    have hp:=HP.out (by omega)
    subst hp
    obtain ⟨hc,hg⟩:=HX.out i hlt
    obtain ⟨X0,hX0⟩:∃X0,X0=X i:=⟨_,rfl⟩
    rw [←hX0] at hc hg
    obtain ⟨wh,ix,x,y,pw,p5,c5,ch⟩:=X0
    obtain ⟨n5,hn5⟩:∃n5,n5=ch.length:=⟨_,rfl⟩
    have HC:Hid (∀j u,([.int .i64 wh,.int .i64 ix,.int .u8 x,.int .u8 y,.int .i64 pw,.slice p5 n5 c5]:List Value)[j]?=some u→w.cell? ⟨b,o+i * 6+j,none⟩=some u):=fun j u hu=>hc j u (by rw [hn5] at hu;exact hu)
    have HCS:Hid (SlOld w (.slice p5 n5 c5) ch):=by rw [hn5];exact hg.sc
    have HCB:Hid (Bytes ch):=hg.bc
    have HXB:Hid (0≤x∧x<256):=hg.kek
    have HYB:Hid (0≤y∧y<256):=hg.key
    have hpi:pw≤9223372036854775807:=hg.hi
    clear hc hg hX0 hn5
    by_cases hch:20<n5
    ·have hc1:(20:Int)<(n5:Int):=by omega
     have hc2:decide ((20:Int)<(n5:Int))=true:=decide_eq_true hc1
     go_wp2_with (first
      | ((with_reducible refine aa (some 39) (.indexAddr 22 (.tmp 37) (.tmp 38)) ?_);go_must (refine ae (.pointer (some ⟨b,o+i * 6,none⟩)) rfl (d4 i rfl rfl rfl hlt) ?_))
      | ((with_reducible refine aa (some 40) (.load 35 (.tmp 39)) ?_);go_must (refine ae (.agg ([.int .i64 wh,.int .i64 ix,.int .u8 x,.int .u8 y,.int .i64 pw,.slice p5 n5 c5]:List Value).toArray) rfl (exec_ld6 (o+i * 6) [.int .i64 wh,.int .i64 ix,.int .u8 x,.int .u8 y,.int .i64 pw,.slice p5 n5 c5] rfl (fun j v hv=>st.cell (HC.out j v hv)) rfl) ?_))
      | ((with_reducible refine aa (some 8) (.alloc 35) ?_);go_must (refine aC _ zero_stpS ?_);intro wa q8 hba hqa hra;replace st:=st.add hba hra hqa;clear hba hqa hra)
      | ((with_reducible refine aa none (.store 35 (.tmp 8) (.tmp 40)) ?_);go_must (refine aw [.int .i64 wh,.int .i64 ix,.int .u8 x,.int .u8 y,.int .i64 pw,.slice p5 n5 c5] (st.mem.get 0 rfl) rfl rfl 6 sz_stpS rfl rfl (by intro u hu;simp only [List.mem_cons,List.not_mem_nil,or_false] at hu;rcases hu with rfl|rfl|rfl|rfl|rfl|rfl<;>rfl) ?_);intro wb hub hrb;replace st:=st.updR 0 rfl hub hrb;clear hub hrb)
      | ((with_reducible refine aa (some 42) (.load 33 (.tmp 41)) ?_);go_must (refine ae (.slice p5 n5 c5) rfl (ah 5 (.slice p5 n5 c5) (st.mem.get 0 rfl) rfl ag_bsS rfl) ?_)))
     go_ret
     exact ⟨rfl,st.mem.below⟩
    ·have hc1:¬(20:Int)<(n5:Int):=by omega
     have hc2:decide ((20:Int)<(n5:Int))=false:=decide_eq_false hc1
     by_cases hpw:0<pw
     ·have hp1:decide (0<pw)=true:=decide_eq_true hpw
      have hp2:decide (pw≤0)=false:=decide_eq_false (by omega)
      have hp3:¬pw≤0:=by omega
      obtain ⟨r,hr⟩:∃r,r=pw.tmod 10:=⟨_,rfl⟩
      have hr1:0≤r∧r<10:=by rw [hr,Int.tmod_eq_emod_of_nonneg (by omega)];omega
      have HR0:pw.tmod 10=r:=hr.symm
      have HRW:IntKind.i64.wrap (r+1)=r+1:=wrapi _ (by omega) (by omega)
      have HRV:IntKind.i64.wrap r=r:=wrapi _ (by omega) (by omega)
      clear hr
      cases ho:okI ix with
      | true =>
       obtain ⟨a,hIa,ha⟩:=okI_nat ho
       subst hIa
       have haI:(a:Int)<24:=by omega
       have ha0:(0:Int)≤(a:Int):=by omega
       obtain ⟨M1,hM1⟩:∃M1,M1=upf M a (true,x,y):=⟨_,rfl⟩
       obtain ⟨M0,hM0⟩:∃M0,M0=upf M a (false,0,0):=⟨_,rfl⟩
       have HM1E:Hid (∀_:Unit,M1=upf M a (true,x,y)):=fun _=>hM1
       have HM0E:Hid (∀_:Unit,M0=upf M a (false,0,0)):=fun _=>hM0
       have HM1:Hid (MB M1):=by rw [hM1];exact HMB.out.upf a _ ⟨HXB.out,HYB.out⟩
       have HM0:Hid (MB M0):=by rw [hM0];exact HMB.out.upf a _ (by simp)
       have HSET1:Hid (∀_:Unit,splice (modL M 24) (a * 3) (slV (true,x,y))=modL M1 24):=fun _=>by rw [hM1];exact fh M a _ 24 ha
       have HSET0:Hid (∀_:Unit,splice (modL M 24) (a * 3) (slV (false,0,0))=modL M0 24):=fun _=>by rw [hM0];exact fh M a _ 24 ha
       clear hM1 hM0 ho
       go_wp2_with (first
        | ((with_reducible refine aa (some 39) (.indexAddr 22 (.tmp 37) (.tmp 38)) ?_);go_must (refine ae (.pointer (some ⟨b,o+i * 6,none⟩)) rfl (d4 i rfl rfl rfl hlt) ?_))
        | ((with_reducible refine aa (some 40) (.load 35 (.tmp 39)) ?_);go_must (refine ae (.agg ([.int .i64 wh,.int .i64 (a:Int),.int .u8 x,.int .u8 y,.int .i64 pw,.slice p5 n5 c5]:List Value).toArray) rfl (exec_ld6 (o+i * 6) [.int .i64 wh,.int .i64 (a:Int),.int .u8 x,.int .u8 y,.int .i64 pw,.slice p5 n5 c5] rfl (fun j v hv=>st.cell (HC.out j v hv)) rfl) ?_))
        | ((with_reducible refine aa (some 8) (.alloc 35) ?_);go_must (refine aC _ zero_stpS ?_);intro wa q8 hba hqa hra;replace st:=st.add hba hra hqa;clear hba hqa hra)
        | ((with_reducible refine aa none (.store 35 (.tmp 8) (.tmp 40)) ?_);go_must (refine aw [.int .i64 wh,.int .i64 (a:Int),.int .u8 x,.int .u8 y,.int .i64 pw,.slice p5 n5 c5] (st.mem.get 0 rfl) rfl rfl 6 sz_stpS rfl rfl (by intro u hu;simp only [List.mem_cons,List.not_mem_nil,or_false] at hu;rcases hu with rfl|rfl|rfl|rfl|rfl|rfl<;>rfl) ?_);intro wb hub hrb;replace st:=st.updR 0 rfl hub hrb;clear hub hrb)
        | ((with_reducible refine aa (some 42) (.load 33 (.tmp 41)) ?_);go_must (refine ae (.slice p5 n5 c5) rfl (ah 5 (.slice p5 n5 c5) (st.mem.get 0 rfl) rfl ag_bsS rfl) ?_))
        | ((with_reducible refine aa (some 46) (.load 3 (.tmp 45)) ?_);go_must (refine ae (.int .i64 pw) rfl (ah 4 (.int .i64 pw) (st.mem.get 0 rfl) rfl ak rfl) ?_))
        | ((with_reducible refine aa (some 50) (.load 3 (.tmp 49)) ?_);go_must (refine ae (.int .i64 pw) rfl (ah 4 (.int .i64 pw) (st.mem.get 0 rfl) rfl ak rfl) ?_))
        | (go_at_call 7;go_must (refine (aN st (r+1) (by omega) (by omega) false (by rw [eq_comm];exact decide_eq_false (by omega))).mono ?_);rintro e wq ⟨rfl,st9⟩;replace st:=st9;clear st9)
        | ((with_reducible refine aa (some 55) (.load 3 (.tmp 54)) ?_);go_must (refine ae (.int .i64 (a:Int)) rfl (ah 1 (.int .i64 (a:Int)) (st.mem.get 0 rfl) rfl ak rfl) ?_))
        | ((with_reducible refine aa (some 62) (.load 32 (.tmp 6)) ?_);go_must (refine ae (.agg (modL M 24).toArray) rfl (ao 0 (modL M 24) (st.mem.get 1 rfl) rfl _ ax rfl 72 sz_mdl (Nat.le_of_eq (modL24 _).symm) (by rw [List.drop_zero,List.take_of_length_le (Nat.le_of_eq (modL24 _))])) ?_))
        | ((with_reducible refine aa (some 11) (.alloc 32) ?_);go_must (refine aC _ zero_mdl ?_);intro wa q11 hba hqa hra;replace st:=st.add hba hra hqa;clear hba hqa hra)
        | ((with_reducible refine aa none (.store 32 (.tmp 11) (.tmp 62)) ?_);go_must (refine aw (modL M 24) (st.mem.get 0 rfl) rfl rfl 72 sz_mdl (modL24 _) (modL24 _) (aH _ _) ?_);intro wb hub hrb;replace st:=st.updR 0 rfl hub hrb;clear hub hrb)
        | ((with_reducible refine aa (some 65) (.load 3 (.tmp 64)) ?_);refine rest_here ?_))
       intro _ _
       by_cases hw2:wh≤2
       ·have W1:decide (wh≤2)=true:=decide_eq_true hw2
        have W2:decide (wh≤3)=true:=decide_eq_true (by omega)
        have W3:decide (5≤wh)=false:=decide_eq_false (by omega)
        have W4:wh≤3:=by omega
        have W5:¬5≤wh:=by omega
        as_aux_lemma =>
         go_wp2_with (first
          | ((with_reducible refine aa (some 65) (.load 3 (.tmp 64)) ?_);go_must (refine ae (.int .i64 wh) rfl (ah 0 (.int .i64 wh) (st.mem.get 1 rfl) rfl ak rfl) ?_)))
         refine au ?_
         refine av (T:=fun W=>(Row W q8 [.int .i64 wh,.int .i64 (a:Int),.int .u8 x,.int .u8 y,.int .i64 pw,.slice p5 n5 c5] 35)) (by kernel_rfl) st.mem ?_
         intro wz hbz hmz
         replace st:=st.below hbz
         have HTW:Hid (Row wz q8 [.int .i64 wh,.int .i64 (a:Int),.int .u8 x,.int .u8 y,.int .i64 pw,.slice p5 n5 c5] 35):=st.mem.get 1 rfl
         clear hbz hmz
         refine aT 0 (v:=.pointer (some ⟨sb,0,none⟩)) rfl (by kernel_rfl) rfl (fun W _=>by go_simp) HTW.out ?_
         go_simp
         refine aT 1 (v:=.int .i64 (a:Int)) rfl (by kernel_rfl) rfl (fun W _=>by go_simp) HTW.out ?_
         go_simp
         refine aT 2 (v:=.pointer (some ⟨q8,2,none⟩)) rfl (by kernel_rfl) rfl (fun W _=>by go_simp) HTW.out ?_
         go_simp
         refine aT 3 (v:=.int .u8 x) rfl (by kernel_rfl) rfl (fun W hW=>ah 2 (.int .u8 x) hW rfl aY rfl) HTW.out ?_
         go_simp
         refine aT 5 (v:=.pointer (some ⟨q8,3,none⟩)) rfl (by kernel_rfl) rfl (fun W _=>by go_simp) HTW.out ?_
         go_simp
         refine aT 6 (v:=.int .u8 y) rfl (by kernel_rfl) rfl (fun W hW=>ah 3 (.int .u8 y) hW rfl aY rfl) HTW.out ?_
         go_simp
         refine aO 4 (by kernel_rfl) rfl rfl ?_
         intro K hK
         go_wp2_with ((go_at_call 9;refine (aZ _ _).mono ?_;rintro e wk ⟨rfl,hbk⟩;replace st:=st.below hbk;clear hbk HTW;have HTW:Hid (Row wk q8 [.int .i64 wh,.int .i64 (a:Int),.int .u8 x,.int .u8 y,.int .i64 pw,.slice p5 n5 c5] 35):=st.mem.get 1 rfl))
         refine hK _ _ HTW.out ?_
         clear hK K
         go_simp
         refine aO 7 (by kernel_rfl) rfl rfl ?_
         intro K hK
         go_wp2_with ((go_at_call 9;refine (aZ _ _).mono ?_;rintro e wk ⟨rfl,hbk⟩;replace st:=st.below hbk;clear hbk HTW;have HTW:Hid (Row wk q8 [.int .i64 wh,.int .i64 (a:Int),.int .u8 x,.int .u8 y,.int .i64 pw,.slice p5 n5 c5] 35):=st.mem.get 1 rfl))
         refine hK _ _ HTW.out ?_
         clear hK K
         go_simp
         refine aO 8 (by kernel_rfl) rfl rfl ?_
         intro K hK
         go_wp2_with ((go_at_call 8;go_must (refine (pn_put st HT.out HQT.out (by omega) (by have:=HPU.out;omega) a ha x y HXB.out HYB.out).mono ?_);intro e wp hh;obtain ⟨f,he,hpo⟩:∃f,e=.returned (.int .i64 f)∧Po w wp g mb kv sb hb false t a (some (entN t a (keyB x) (keyB y))) (1000+6000 * i+1000) (upf M a (true,x,y)) [(q11,modL M 24,32),(q8,[.int .i64 wh,.int .i64 (a:Int),.int .u8 x,.int .u8 y,.int .i64 pw,.slice p5 n5 c5],35),(q6,modL M 24,32)] f:=hh.elim (fun h=>⟨0,h.1,Or.inl ⟨rfl,h.2⟩⟩) (fun h=>⟨61,h.2.1,Or.inr ⟨h.1,rfl,h.2.2⟩⟩);subst he;have HPO:Hid (Po w wp g mb kv sb hb false t a (some (entN t a (keyB x) (keyB y))) (1000+6000 * i+1000) (upf M a (true,x,y)) [(q11,modL M 24,32),(q8,[.int .i64 wh,.int .i64 (a:Int),.int .u8 x,.int .u8 y,.int .i64 pw,.slice p5 n5 c5],35),(q6,modL M 24,32)] f):=hpo;clear hh hpo st HTW;have HTW:Hid (Row wp q8 [.int .i64 wh,.int .i64 (a:Int),.int .u8 x,.int .u8 y,.int .i64 pw,.slice p5 n5 c5] 35):=HPO.out.mem.get 1 rfl))
         refine hK _ _ HTW.out ?_
         clear hK K
         go_simp
         refine aT 9 (v:=.int .i64 f) rfl (by kernel_rfl) rfl (fun W _=>by go_simp) HTW.out ?_
         go_simp
         refine wpAnyH_done (by kernel_rfl) ?_ _
         simp only [endsIn]
         clear HTW
         rcases HPO.out with ⟨hf,t1,st,hp1⟩|⟨hbf,hf,st⟩
         ·subst hf
          rw [←HM1E.out ()] at st
          have HMX:Hid (MB M1):=HM1.out
          have HPX:Hid (t1.puts≤i+1):=(show t1.puts≤i+1 by have:=HPU.out;omega)
          clear HPO hp1
          go_wp2_with (first
           | ((with_reducible refine aa (some 79) (.load 5 (.tmp 78)) ?_);go_must (refine ae (.int .u8 x) rfl (ah 2 (.int .u8 x) (st.mem.get 1 rfl) rfl aY rfl) ?_))
           | ((with_reducible refine aa (some 81) (.load 5 (.tmp 80)) ?_);go_must (refine ae (.int .u8 y) rfl (ah 3 (.int .u8 y) (st.mem.get 1 rfl) rfl aY rfl) ?_))
           | ((with_reducible refine aa (some 82) (.build 31 #[(0,.const (.bool true)),(1,.tmp 79),(2,.tmp 81)]) ?_);go_must (refine aM (slV (true,x,y)) [(0,.bool true),(1,.int .u8 x),(2,.int .u8 y)] rfl (built_sl1 x y) ?_))
           | ((with_reducible refine aa (some 83) (.indexAddr 32 (.tmp 11) (.tmp 77)) ?_);go_must (refine ae (.pointer (some ⟨q11,a * 3,none⟩)) rfl (aE a rfl rfl rfl ha) ?_))
           | ((with_reducible refine aa none (.store 31 (.tmp 83) (.tmp 82)) ?_);go_must (refine wpl_stsV (a * 3) (slV (true,x,y)) (modL M1 24) (st.mem.get 0 rfl) rfl rfl 3 sz_slt rfl (by rw [bz];omega) (ed _) (HSET1.out ()) ?_);intro wb hub hrb;replace st:=st.updR 0 rfl hub hrb;clear hub hrb)
           | ((with_reducible refine aa (some 161) (.load 3 (.tmp 160)) ?_);go_must (refine ae (.int .i64 wh) rfl (ah 0 (.int .i64 wh) (st.mem.get 1 rfl) rfl ak rfl) ?_))
           | ((with_reducible refine aa (some 187) (.load 32 (.tmp 11)) ?_);go_must (refine ae (.agg (modL M1 24).toArray) rfl (ao 0 (modL M1 24) (st.mem.get 0 rfl) rfl _ ax rfl 72 sz_mdl (Nat.le_of_eq (modL24 _).symm) (by rw [List.drop_zero,List.take_of_length_le (Nat.le_of_eq (modL24 _))])) ?_))
           | ((with_reducible refine aa none (.store 32 (.tmp 6) (.tmp 187)) ?_);go_must (refine aw (modL M1 24) (st.mem.get 2 rfl) rfl rfl 72 sz_mdl (modL24 _) (modL24 _) (aH _ _) ?_);intro wb hub hrb;replace st:=st.updR 2 rfl hub hrb;clear hub hrb)
           | ((with_reducible refine aa (some 203) (.load 3 (.tmp 202)) ?_);go_must (refine ae (.int .i64 wh) rfl (ah 0 (.int .i64 wh) (st.mem.get 1 rfl) rfl ak rfl) ?_))
           | (go_at_call 7;go_must (refine (aN st 0 (by omega) (by omega) true (by decide)).mono ?_);rintro e wq ⟨rfl,st9⟩;replace st:=st9;clear st9)
           | ((with_reducible refine aa (some 249) (.load 32 (.tmp 6)) ?_);go_must (refine ae (.agg (modL M1 24).toArray) rfl (ao 0 (modL M1 24) (st.mem.get 2 rfl) rfl _ ax rfl 72 sz_mdl (Nat.le_of_eq (modL24 _).symm) (by rw [List.drop_zero,List.take_of_length_le (Nat.le_of_eq (modL24 _))])) ?_))
           | (go_at_call 15;go_must (refine (aV st HT.out HQT.out HMX.out).mono ?_);rintro e wq ⟨rfl,st9⟩;replace st:=st9;clear st9))
          go_roundw
          case rel=>exact ⟨i+1,sb,hb,t1,M1,by omega,by go_num,rfl,(st.tail.tail).more (by omega),HPX.out,HMX.out⟩
          case measure=>simp [intOf];omega
         ·subst hf
          clear HPO hbf
          as_aux_lemma =>
           go_wp2_with (first
            | ((with_reducible refine aa (some 79) (.load 5 (.tmp 78)) ?_);go_must (refine ae (.int .u8 x) rfl (ah 2 (.int .u8 x) (st.mem.get 1 rfl) rfl aY rfl) ?_))
            | ((with_reducible refine aa (some 81) (.load 5 (.tmp 80)) ?_);go_must (refine ae (.int .u8 y) rfl (ah 3 (.int .u8 y) (st.mem.get 1 rfl) rfl aY rfl) ?_))
            | ((with_reducible refine aa (some 82) (.build 31 #[(0,.const (.bool true)),(1,.tmp 79),(2,.tmp 81)]) ?_);go_must (refine aM (slV (true,x,y)) [(0,.bool true),(1,.int .u8 x),(2,.int .u8 y)] rfl (built_sl1 x y) ?_))
            | ((with_reducible refine aa (some 83) (.indexAddr 32 (.tmp 11) (.tmp 77)) ?_);go_must (refine ae (.pointer (some ⟨q11,a * 3,none⟩)) rfl (aE a rfl rfl rfl ha) ?_))
            | ((with_reducible refine aa none (.store 31 (.tmp 83) (.tmp 82)) ?_);go_must (refine wpl_stsV (a * 3) (slV (true,x,y)) (modL M1 24) (st.mem.get 0 rfl) rfl rfl 3 sz_slt rfl (by rw [bz];omega) (ed _) (HSET1.out ()) ?_);intro wb hub hrb;replace st:=st.updR 0 rfl hub hrb;clear hub hrb)
            | ((with_reducible refine aa (some 161) (.load 3 (.tmp 160)) ?_);go_must (refine ae (.int .i64 wh) rfl (ah 0 (.int .i64 wh) (st.mem.get 1 rfl) rfl ak rfl) ?_))
            | ((with_reducible refine bL (some 181) (.load 3 (.tmp 180)) (some (5,false)) ?_);go_must (refine ae (.int .i64 pw) rfl (ah 4 (.int .i64 pw) (st.mem.get 1 rfl) rfl ak rfl) ?_))
            | (go_at_call 12;go_must (refine (pd_dead st).mono ?_);rintro e wq ⟨rfl,st9⟩;replace st:=st9;clear st9)
            | (go_at_call 9;refine (aZ _ _).mono ?_;rintro e wk ⟨rfl,hbk⟩;replace st:=st.below hbk;clear hbk)
            | (go_at_call 8;go_must (refine (pd_put st 0 (keyB 0) (keyB 0)).mono ?_);rintro e wq ⟨rfl,st9⟩;replace st:=st9;clear st9)
            | ((with_reducible refine aa (some 203) (.load 3 (.tmp 202)) ?_);go_must (refine ae (.int .i64 wh) rfl (ah 0 (.int .i64 wh) (st.mem.get 1 rfl) rfl ak rfl) ?_))
            | ((with_reducible refine aa (some 211) (.load 33 (.tmp 210)) ?_);go_must (refine ae (.slice p5 n5 c5) rfl (ah 5 (.slice p5 n5 c5) (st.mem.get 1 rfl) rfl ag_bsS rfl) ?_))
            | (go_at_call 13;go_must (refine (pd_crash st ch _ HCB.out HCS.out).mono ?_);rintro e wq ⟨rfl,st9⟩;clear st;have st:=st9;clear st9)
            | (go_at_call 14;go_must (refine (pt_open st HT.out (by omega)).mono ?_);rintro e wo ⟨s2,h2,u,p,rfl,st9,hu,hp9⟩;have HU:Hid (∀_:Unit,u=t.held a∨u=none∨u=some (entN t a (keyB x) (keyB y))):=fun _=>hu;have HPX:Hid (p≤i+1):=(show p≤i+1 by have:=HPU.out;omega);clear st hu hp9;have st:=st9;clear st9)
            | ((with_reducible refine bL (some 225) (.load 32 (.tmp 6)) (some (2,true)) ?_);refine rest_here ?_))
           intro _ _
           cases hr1:agB (upf t.held a u) M 24 with
           | true =>
            have HMX:Hid (MB M):=HMB.out
            replace st:=Pe.pn st hr1
            clear hr1
            go_wp2_with (first
             | ((with_reducible refine bL (some 225) (.load 32 (.tmp 6)) (some (2,true)) ?_);go_must (refine ae (.agg (modL M 24).toArray) rfl (ao 0 (modL M 24) (st.mem.get 2 rfl) rfl _ ax rfl 72 sz_mdl (Nat.le_of_eq (modL24 _).symm) (by rw [List.drop_zero,List.take_of_length_le (Nat.le_of_eq (modL24 _))])) ?_))
             | (go_at_call 7;go_must (refine (aN st 0 (by omega) (by omega) true (by decide)).mono ?_);rintro e wq ⟨rfl,st9⟩;replace st:=st9;clear st9)
             | ((with_reducible refine aa (some 249) (.load 32 (.tmp 6)) ?_);go_must (refine ae (.agg (modL M 24).toArray) rfl (ao 0 (modL M 24) (st.mem.get 2 rfl) rfl _ ax rfl 72 sz_mdl (Nat.le_of_eq (modL24 _).symm) (by rw [List.drop_zero,List.take_of_length_le (Nat.le_of_eq (modL24 _))])) ?_))
             | (go_at_call 15;go_must (refine (aV st HT.out HQT.out HMX.out).mono ?_);rintro e wq ⟨rfl,st9⟩;replace st:=st9;clear st9))
            go_roundw
            case rel=>exact ⟨i+1,s2,h2,_,M,by omega,by go_num,rfl,(st.tail.tail).more (by omega),HPX.out,HMX.out⟩
            case measure=>simp [intOf];omega
           | false =>
            have HR1:Hid (∀_:Unit,agB (upf t.held a u) M 24=false):=fun _=>hr1
            have tk1:Nat:=0
            cases hr2:agB (upf t.held a u) M1 24 with
            | true =>
             have HR2:Hid (∀_:Unit,agB (upf t.held a u) M1 24=true):=fun _=>hr2
             have HAG:Hid (∀_:Unit,agB (upf t.held a u) M1 24=true):=fun _=>hr2
             have HMX:Hid (MB M1):=HM1.out
             have tk2:Nat:=0
             clear hr1 hr2
             go_wp2_with (first
              | ((with_reducible refine bL (some 225) (.load 32 (.tmp 6)) (some (2,true)) ?_);go_must (refine ae (.agg (modL M 24).toArray) rfl (ao 0 (modL M 24) (st.mem.get 2 rfl) rfl _ ax rfl 72 sz_mdl (Nat.le_of_eq (modL24 _).symm) (by rw [List.drop_zero,List.take_of_length_le (Nat.le_of_eq (modL24 _))])) ?_))
              | (go_at_call 15;(first|(clear tk1;go_must (refine (fg st HT.out HQT.out HMB.out false (HR1.out ())).mono ?_);rintro e wq ⟨rfl,st9⟩;replace st:=st9;clear st9)|(clear tk2;go_must (refine (fg st HT.out HQT.out HM1.out true (HR2.out ())).mono ?_);rintro e wq ⟨rfl,st9⟩;replace st:=st9;clear st9)|(go_must (refine (aV st HT.out HQT.out HMX.out).mono ?_);rintro e wq ⟨rfl,st9⟩;replace st:=st9;clear st9)))
              | ((with_reducible refine bL (some 232) (.load 3 (.tmp 231)) (some (1,true)) ?_);go_must (refine ae (.int .i64 wh) rfl (ah 0 (.int .i64 wh) (st.mem.get 1 rfl) rfl ak rfl) ?_))
              | ((with_reducible refine bL (some 237) (.load 32 (.tmp 11)) (some (6,true)) ?_);go_must (refine ae (.agg (modL M1 24).toArray) rfl (ao 0 (modL M1 24) (st.mem.get 0 rfl) rfl _ ax rfl 72 sz_mdl (Nat.le_of_eq (modL24 _).symm) (by rw [List.drop_zero,List.take_of_length_le (Nat.le_of_eq (modL24 _))])) ?_))
              | ((with_reducible refine aa (some 245) (.load 32 (.tmp 11)) ?_);go_must (refine ae (.agg (modL M1 24).toArray) rfl (ao 0 (modL M1 24) (st.mem.get 0 rfl) rfl _ ax rfl 72 sz_mdl (Nat.le_of_eq (modL24 _).symm) (by rw [List.drop_zero,List.take_of_length_le (Nat.le_of_eq (modL24 _))])) ?_))
              | ((with_reducible refine aa none (.store 32 (.tmp 6) (.tmp 245)) ?_);go_must (refine aw (modL M1 24) (st.mem.get 2 rfl) rfl rfl 72 sz_mdl (modL24 _) (modL24 _) (aH _ _) ?_);intro wb hub hrb;replace st:=st.updR 2 rfl hub hrb;clear hub hrb)
              | (go_at_call 7;have st0:=Pe.pn st (HAG.out ());clear st;have st:=st0;clear st0;go_must (refine (aN st 0 (by omega) (by omega) true (by decide)).mono ?_);rintro e wq ⟨rfl,st9⟩;replace st:=st9;clear st9)
              | ((with_reducible refine aa (some 249) (.load 32 (.tmp 6)) ?_);go_must (refine ae (.agg (modL M1 24).toArray) rfl (ao 0 (modL M1 24) (st.mem.get 2 rfl) rfl _ ax rfl 72 sz_mdl (Nat.le_of_eq (modL24 _).symm) (by rw [List.drop_zero,List.take_of_length_le (Nat.le_of_eq (modL24 _))])) ?_)))
             go_roundw
             case rel=>exact ⟨i+1,s2,h2,_,M1,by omega,by go_num,rfl,(st.tail.tail).more (by omega),HPX.out,HMX.out⟩
             case measure=>simp [intOf];omega
            | false =>
             have HR2:Hid (∀_:Unit,agB (upf t.held a u) M1 24=false):=fun _=>hr2
             have HAG:Hid (∀_:Unit,agB (upf t.held a u) M0 24=true):=fun _=>by rw [HM0E.out ()];rw [HM1E.out ()] at hr2;exact cut_left ha HYB.out HAGM.out (HU.out ()) hr1 hr2
             have HMX:Hid (MB M0):=HM0.out
             have tk2:Nat:=0
             clear hr1 hr2
             go_wp2_with (first
              | ((with_reducible refine bL (some 225) (.load 32 (.tmp 6)) (some (2,true)) ?_);go_must (refine ae (.agg (modL M 24).toArray) rfl (ao 0 (modL M 24) (st.mem.get 2 rfl) rfl _ ax rfl 72 sz_mdl (Nat.le_of_eq (modL24 _).symm) (by rw [List.drop_zero,List.take_of_length_le (Nat.le_of_eq (modL24 _))])) ?_))
              | (go_at_call 15;(first|(clear tk1;go_must (refine (fg st HT.out HQT.out HMB.out false (HR1.out ())).mono ?_);rintro e wq ⟨rfl,st9⟩;replace st:=st9;clear st9)|(clear tk2;go_must (refine (fg st HT.out HQT.out HM1.out false (HR2.out ())).mono ?_);rintro e wq ⟨rfl,st9⟩;replace st:=st9;clear st9)|(go_must (refine (aV st HT.out HQT.out HMX.out).mono ?_);rintro e wq ⟨rfl,st9⟩;replace st:=st9;clear st9)))
              | ((with_reducible refine bL (some 232) (.load 3 (.tmp 231)) (some (1,true)) ?_);go_must (refine ae (.int .i64 wh) rfl (ah 0 (.int .i64 wh) (st.mem.get 1 rfl) rfl ak rfl) ?_))
              | ((with_reducible refine bL (some 237) (.load 32 (.tmp 11)) (some (6,true)) ?_);go_must (refine ae (.agg (modL M1 24).toArray) rfl (ao 0 (modL M1 24) (st.mem.get 0 rfl) rfl _ ax rfl 72 sz_mdl (Nat.le_of_eq (modL24 _).symm) (by rw [List.drop_zero,List.take_of_length_le (Nat.le_of_eq (modL24 _))])) ?_))
              | ((with_reducible refine aa (some 241) (.load 32 (.tmp 6)) ?_);go_must (refine ae (.agg (modL M 24).toArray) rfl (ao 0 (modL M 24) (st.mem.get 2 rfl) rfl _ ax rfl 72 sz_mdl (Nat.le_of_eq (modL24 _).symm) (by rw [List.drop_zero,List.take_of_length_le (Nat.le_of_eq (modL24 _))])) ?_))
              | ((with_reducible refine aa none (.store 32 (.tmp 11) (.tmp 241)) ?_);go_must (refine aw (modL M 24) (st.mem.get 0 rfl) rfl rfl 72 sz_mdl (modL24 _) (modL24 _) (aH _ _) ?_);intro wb hub hrb;replace st:=st.updR 0 rfl hub hrb;clear hub hrb)
              | ((with_reducible refine aa (some 243) (.build 31 #[]) ?_);go_must (refine aM (slV (false,0,0)) [] rfl built_sl0 ?_))
              | ((with_reducible refine aa (some 244) (.indexAddr 32 (.tmp 11) (.tmp 242)) ?_);go_must (refine ae (.pointer (some ⟨q11,a * 3,none⟩)) rfl (aE a rfl rfl rfl ha) ?_))
              | ((with_reducible refine aa none (.store 31 (.tmp 244) (.tmp 243)) ?_);go_must (refine wpl_stsV (a * 3) (slV (false,0,0)) (modL M0 24) (st.mem.get 0 rfl) rfl rfl 3 sz_slt rfl (by rw [bz];omega) (ed _) (HSET0.out ()) ?_);intro wb hub hrb;replace st:=st.updR 0 rfl hub hrb;clear hub hrb)
              | ((with_reducible refine aa (some 245) (.load 32 (.tmp 11)) ?_);go_must (refine ae (.agg (modL M0 24).toArray) rfl (ao 0 (modL M0 24) (st.mem.get 0 rfl) rfl _ ax rfl 72 sz_mdl (Nat.le_of_eq (modL24 _).symm) (by rw [List.drop_zero,List.take_of_length_le (Nat.le_of_eq (modL24 _))])) ?_))
              | ((with_reducible refine aa none (.store 32 (.tmp 6) (.tmp 245)) ?_);go_must (refine aw (modL M0 24) (st.mem.get 2 rfl) rfl rfl 72 sz_mdl (modL24 _) (modL24 _) (aH _ _) ?_);intro wb hub hrb;replace st:=st.updR 2 rfl hub hrb;clear hub hrb)
              | (go_at_call 7;have st0:=Pe.pn st (HAG.out ());clear st;have st:=st0;clear st0;go_must (refine (aN st 0 (by omega) (by omega) true (by decide)).mono ?_);rintro e wq ⟨rfl,st9⟩;replace st:=st9;clear st9)
              | ((with_reducible refine aa (some 249) (.load 32 (.tmp 6)) ?_);go_must (refine ae (.agg (modL M0 24).toArray) rfl (ao 0 (modL M0 24) (st.mem.get 2 rfl) rfl _ ax rfl 72 sz_mdl (Nat.le_of_eq (modL24 _).symm) (by rw [List.drop_zero,List.take_of_length_le (Nat.le_of_eq (modL24 _))])) ?_)))
             go_roundw
             case rel=>exact ⟨i+1,s2,h2,_,M0,by omega,by go_num,rfl,(st.tail.tail).more (by omega),HPX.out,HMX.out⟩
             case measure=>simp [intOf];omega
       ·have W1:decide (wh≤2)=false:=decide_eq_false hw2
        by_cases hw3:wh=3
        ·subst hw3
         clear hw2 W1
         as_aux_lemma =>
          go_wp2_with (first
           | ((with_reducible refine aa (some 65) (.load 3 (.tmp 64)) ?_);go_must (refine ae (.int .i64 3) rfl (ah 0 (.int .i64 3) (st.mem.get 1 rfl) rfl ak rfl) ?_))
           | ((with_reducible refine aa (some 86) (.load 3 (.tmp 85)) ?_);go_must (refine ae (.int .i64 3) rfl (ah 0 (.int .i64 3) (st.mem.get 1 rfl) rfl ak rfl) ?_))
           | (go_at_call 10;go_must (refine (pn_erase st (by omega) a ha).mono ?_);intro e wp hh;obtain ⟨f,he,hpo⟩:∃f,e=.returned (.int .i64 f)∧Po w wp g mb kv sb hb false t a none (1000+6000 * i+1000) (upf M a (false,0,0)) [(q11,modL M 24,32),(q8,[.int .i64 3,.int .i64 (a:Int),.int .u8 x,.int .u8 y,.int .i64 pw,.slice p5 n5 c5],35),(q6,modL M 24,32)] f:=hh.elim (fun h=>⟨0,h.1,Or.inl ⟨rfl,h.2.choose,h.2.choose_spec.1,Nat.le_succ_of_le h.2.choose_spec.2⟩⟩) (fun h=>⟨61,h.2.1,Or.inr ⟨h.1,rfl,h.2.2⟩⟩);subst he;have HPO:Hid (Po w wp g mb kv sb hb false t a none (1000+6000 * i+1000) (upf M a (false,0,0)) [(q11,modL M 24,32),(q8,[.int .i64 3,.int .i64 (a:Int),.int .u8 x,.int .u8 y,.int .i64 pw,.slice p5 n5 c5],35),(q6,modL M 24,32)] f):=hpo;clear hh hpo st)
           | ((with_reducible refine aa (some 93) (.build 31 #[]) ?_);refine rest_here ?_))
          intro _ _
          rcases HPO.out with ⟨hf,t1,st,hp1⟩|⟨hbf,hf,st⟩
          ·subst hf
           rw [←HM0E.out ()] at st
           have HMX:Hid (MB M0):=HM0.out
           have HPX:Hid (t1.puts≤i+1):=(show t1.puts≤i+1 by have:=HPU.out;omega)
           clear HPO hp1
           go_wp2_with (first
            | ((with_reducible refine aa (some 93) (.build 31 #[]) ?_);go_must (refine aM (slV (false,0,0)) [] rfl built_sl0 ?_))
            | ((with_reducible refine aa (some 94) (.indexAddr 32 (.tmp 11) (.tmp 92)) ?_);go_must (refine ae (.pointer (some ⟨q11,a * 3,none⟩)) rfl (aE a rfl rfl rfl ha) ?_))
            | ((with_reducible refine aa none (.store 31 (.tmp 94) (.tmp 93)) ?_);go_must (refine wpl_stsV (a * 3) (slV (false,0,0)) (modL M0 24) (st.mem.get 0 rfl) rfl rfl 3 sz_slt rfl (by rw [bz];omega) (ed _) (HSET0.out ()) ?_);intro wb hub hrb;replace st:=st.updR 0 rfl hub hrb;clear hub hrb)
            | ((with_reducible refine aa (some 161) (.load 3 (.tmp 160)) ?_);go_must (refine ae (.int .i64 3) rfl (ah 0 (.int .i64 3) (st.mem.get 1 rfl) rfl ak rfl) ?_))
            | ((with_reducible refine aa (some 187) (.load 32 (.tmp 11)) ?_);go_must (refine ae (.agg (modL M0 24).toArray) rfl (ao 0 (modL M0 24) (st.mem.get 0 rfl) rfl _ ax rfl 72 sz_mdl (Nat.le_of_eq (modL24 _).symm) (by rw [List.drop_zero,List.take_of_length_le (Nat.le_of_eq (modL24 _))])) ?_))
            | ((with_reducible refine aa none (.store 32 (.tmp 6) (.tmp 187)) ?_);go_must (refine aw (modL M0 24) (st.mem.get 2 rfl) rfl rfl 72 sz_mdl (modL24 _) (modL24 _) (aH _ _) ?_);intro wb hub hrb;replace st:=st.updR 2 rfl hub hrb;clear hub hrb)
            | ((with_reducible refine aa (some 203) (.load 3 (.tmp 202)) ?_);go_must (refine ae (.int .i64 3) rfl (ah 0 (.int .i64 3) (st.mem.get 1 rfl) rfl ak rfl) ?_))
            | (go_at_call 7;go_must (refine (aN st 0 (by omega) (by omega) true (by decide)).mono ?_);rintro e wq ⟨rfl,st9⟩;replace st:=st9;clear st9)
            | ((with_reducible refine aa (some 249) (.load 32 (.tmp 6)) ?_);go_must (refine ae (.agg (modL M0 24).toArray) rfl (ao 0 (modL M0 24) (st.mem.get 2 rfl) rfl _ ax rfl 72 sz_mdl (Nat.le_of_eq (modL24 _).symm) (by rw [List.drop_zero,List.take_of_length_le (Nat.le_of_eq (modL24 _))])) ?_))
            | (go_at_call 15;go_must (refine (aV st HT.out HQT.out HMX.out).mono ?_);rintro e wq ⟨rfl,st9⟩;replace st:=st9;clear st9))
           go_roundw
           case rel=>exact ⟨i+1,sb,hb,t1,M0,by omega,by go_num,rfl,(st.tail.tail).more (by omega),HPX.out,HMX.out⟩
           case measure=>simp [intOf];omega
          ·subst hf
           clear HPO hbf
           as_aux_lemma =>
            go_wp2_with (first
             | ((with_reducible refine aa (some 93) (.build 31 #[]) ?_);go_must (refine aM (slV (false,0,0)) [] rfl built_sl0 ?_))
             | ((with_reducible refine aa (some 94) (.indexAddr 32 (.tmp 11) (.tmp 92)) ?_);go_must (refine ae (.pointer (some ⟨q11,a * 3,none⟩)) rfl (aE a rfl rfl rfl ha) ?_))
             | ((with_reducible refine aa none (.store 31 (.tmp 94) (.tmp 93)) ?_);go_must (refine wpl_stsV (a * 3) (slV (false,0,0)) (modL M0 24) (st.mem.get 0 rfl) rfl rfl 3 sz_slt rfl (by rw [bz];omega) (ed _) (HSET0.out ()) ?_);intro wb hub hrb;replace st:=st.updR 0 rfl hub hrb;clear hub hrb)
             | ((with_reducible refine aa (some 161) (.load 3 (.tmp 160)) ?_);go_must (refine ae (.int .i64 3) rfl (ah 0 (.int .i64 3) (st.mem.get 1 rfl) rfl ak rfl) ?_))
             | ((with_reducible refine bL (some 181) (.load 3 (.tmp 180)) (some (5,false)) ?_);go_must (refine ae (.int .i64 pw) rfl (ah 4 (.int .i64 pw) (st.mem.get 1 rfl) rfl ak rfl) ?_))
             | (go_at_call 12;go_must (refine (pd_dead st).mono ?_);rintro e wq ⟨rfl,st9⟩;replace st:=st9;clear st9)
             | (go_at_call 9;refine (aZ _ _).mono ?_;rintro e wk ⟨rfl,hbk⟩;replace st:=st.below hbk;clear hbk)
             | (go_at_call 8;go_must (refine (pd_put st 0 (keyB 0) (keyB 0)).mono ?_);rintro e wq ⟨rfl,st9⟩;replace st:=st9;clear st9)
             | ((with_reducible refine aa (some 203) (.load 3 (.tmp 202)) ?_);go_must (refine ae (.int .i64 3) rfl (ah 0 (.int .i64 3) (st.mem.get 1 rfl) rfl ak rfl) ?_))
             | ((with_reducible refine aa (some 211) (.load 33 (.tmp 210)) ?_);go_must (refine ae (.slice p5 n5 c5) rfl (ah 5 (.slice p5 n5 c5) (st.mem.get 1 rfl) rfl ag_bsS rfl) ?_))
             | (go_at_call 13;go_must (refine (pd_crash st ch _ HCB.out HCS.out).mono ?_);rintro e wq ⟨rfl,st9⟩;clear st;have st:=st9;clear st9)
             | (go_at_call 14;go_must (refine (pt_open st HT.out (by omega)).mono ?_);rintro e wo ⟨s2,h2,u,p,rfl,st9,hu,hp9⟩;have HU:Hid (∀_:Unit,u=t.held a∨u=none∨u=none):=fun _=>hu;have HPX:Hid (p≤i+1):=(show p≤i+1 by have:=HPU.out;omega);clear st hu hp9;have st:=st9;clear st9)
             | ((with_reducible refine bL (some 225) (.load 32 (.tmp 6)) (some (2,true)) ?_);refine rest_here ?_))
            intro _ _
            cases hr1:agB (upf t.held a u) M 24 with
            | true =>
             have HMX:Hid (MB M):=HMB.out
             replace st:=Pe.pn st hr1
             clear hr1
             go_wp2_with (first
              | ((with_reducible refine bL (some 225) (.load 32 (.tmp 6)) (some (2,true)) ?_);go_must (refine ae (.agg (modL M 24).toArray) rfl (ao 0 (modL M 24) (st.mem.get 2 rfl) rfl _ ax rfl 72 sz_mdl (Nat.le_of_eq (modL24 _).symm) (by rw [List.drop_zero,List.take_of_length_le (Nat.le_of_eq (modL24 _))])) ?_))
              | (go_at_call 7;go_must (refine (aN st 0 (by omega) (by omega) true (by decide)).mono ?_);rintro e wq ⟨rfl,st9⟩;replace st:=st9;clear st9)
              | ((with_reducible refine aa (some 249) (.load 32 (.tmp 6)) ?_);go_must (refine ae (.agg (modL M 24).toArray) rfl (ao 0 (modL M 24) (st.mem.get 2 rfl) rfl _ ax rfl 72 sz_mdl (Nat.le_of_eq (modL24 _).symm) (by rw [List.drop_zero,List.take_of_length_le (Nat.le_of_eq (modL24 _))])) ?_))
              | (go_at_call 15;go_must (refine (aV st HT.out HQT.out HMX.out).mono ?_);rintro e wq ⟨rfl,st9⟩;replace st:=st9;clear st9))
             go_roundw
             case rel=>exact ⟨i+1,s2,h2,_,M,by omega,by go_num,rfl,(st.tail.tail).more (by omega),HPX.out,HMX.out⟩
             case measure=>simp [intOf];omega
            | false =>
             have HR1:Hid (∀_:Unit,agB (upf t.held a u) M 24=false):=fun _=>hr1
             have tk1:Nat:=0
             have HAG:Hid (∀_:Unit,agB (upf t.held a u) M0 24=true):=fun _=>by rw [HM0E.out ()];exact cut_era ha HAGM.out (HU.out ()) hr1
             have HMX:Hid (MB M0):=HM0.out
             clear hr1
             go_wp2_with (first
              | ((with_reducible refine bL (some 225) (.load 32 (.tmp 6)) (some (2,true)) ?_);go_must (refine ae (.agg (modL M 24).toArray) rfl (ao 0 (modL M 24) (st.mem.get 2 rfl) rfl _ ax rfl 72 sz_mdl (Nat.le_of_eq (modL24 _).symm) (by rw [List.drop_zero,List.take_of_length_le (Nat.le_of_eq (modL24 _))])) ?_))
              | (go_at_call 15;(first|(clear tk1;go_must (refine (fg st HT.out HQT.out HMB.out false (HR1.out ())).mono ?_);rintro e wq ⟨rfl,st9⟩;replace st:=st9;clear st9)|(go_must (refine (aV st HT.out HQT.out HMX.out).mono ?_);rintro e wq ⟨rfl,st9⟩;replace st:=st9;clear st9)))
              | ((with_reducible refine bL (some 232) (.load 3 (.tmp 231)) (some (1,true)) ?_);go_must (refine ae (.int .i64 3) rfl (ah 0 (.int .i64 3) (st.mem.get 1 rfl) rfl ak rfl) ?_))
              | ((with_reducible refine aa (some 245) (.load 32 (.tmp 11)) ?_);go_must (refine ae (.agg (modL M0 24).toArray) rfl (ao 0 (modL M0 24) (st.mem.get 0 rfl) rfl _ ax rfl 72 sz_mdl (Nat.le_of_eq (modL24 _).symm) (by rw [List.drop_zero,List.take_of_length_le (Nat.le_of_eq (modL24 _))])) ?_))
              | ((with_reducible refine aa none (.store 32 (.tmp 6) (.tmp 245)) ?_);go_must (refine aw (modL M0 24) (st.mem.get 2 rfl) rfl rfl 72 sz_mdl (modL24 _) (modL24 _) (aH _ _) ?_);intro wb hub hrb;replace st:=st.updR 2 rfl hub hrb;clear hub hrb)
              | (go_at_call 7;have st0:=Pe.pn st (HAG.out ());clear st;have st:=st0;clear st0;go_must (refine (aN st 0 (by omega) (by omega) true (by decide)).mono ?_);rintro e wq ⟨rfl,st9⟩;replace st:=st9;clear st9)
              | ((with_reducible refine aa (some 249) (.load 32 (.tmp 6)) ?_);go_must (refine ae (.agg (modL M0 24).toArray) rfl (ao 0 (modL M0 24) (st.mem.get 2 rfl) rfl _ ax rfl 72 sz_mdl (Nat.le_of_eq (modL24 _).symm) (by rw [List.drop_zero,List.take_of_length_le (Nat.le_of_eq (modL24 _))])) ?_)))
             go_roundw
             case rel=>exact ⟨i+1,s2,h2,_,M0,by omega,by go_num,rfl,(st.tail.tail).more (by omega),HPX.out,HMX.out⟩
             case measure=>simp [intOf];omega
        ·have W6:(wh==3)=false:=by simpa using hw3
         by_cases hw4:wh=4
         ·subst hw4
          clear hw2 hw3 W1 W6
          obtain ⟨mk,hmk⟩:∃mk,mk=(M a).2.1:=⟨_,rfl⟩
          obtain ⟨my,hmy⟩:∃my,my=(M a).2.2:=⟨_,rfl⟩
          have hsl:=dh.1 HAGM.out a ha
          cases hma:(M a).1 with
          | true =>
           obtain ⟨Z,z,hz⟩:∃Z z,getV t.held (a:Int) (keyB x)=(Z,z):=⟨_,_,rfl⟩
           have HZ:Hid (∀_:Unit,getV t.held (a:Int) (keyB x)=(Z,z)):=fun _=>hz
           have HZL:Hid (∀_:Unit,Z.length=32):=fun _=>pn_len st _ _ hz
           by_cases hke:mk=x
           ·have hz2:(Z,z)=(keyB my,0):=by
             cases hh:t.held a with
             | none=>rw [hh,fu hma] at hsl;cases hsl
             | some e0 =>
              rw [hh,cB hma,←hmk,←hmy,hke] at hsl
              rw [←hz,dZ ha hh]
              exact of_decide_eq_true hsl
            simp only [Prod.mk.injEq] at hz2
            obtain ⟨hz3,hz4⟩:=hz2
            subst hz4
            have HZE:Hid (∀_:Unit,keyB my=Z):=fun _=>hz3.symm
            have hkb:(mk==x)=true:=by simpa using hke
            have HMA0:Hid (∀_:Unit,(modL M 24)[a * 3+0]?=some (.bool true)):=fun _=>by rw [bO M 0 (by omega) 24 a ha,slV];rw [hma];rfl
            have HMA1:Hid (∀_:Unit,(modL M 24)[a * 3+1]?=some (.int .u8 mk)):=fun _=>by rw [bO M 1 (by omega) 24 a ha,slV,hmk];rfl
            have HMA2:Hid (∀_:Unit,(modL M 24)[a * 3+2]?=some (.int .u8 my)):=fun _=>by rw [bO M 2 (by omega) 24 a ha,slV,hmy];rfl
            clear hz hz3 hke hma hmk hmy hsl
            as_aux_lemma =>
             have HMX:Hid (MB M):=HMB.out
             have HPX:Hid (t.puts≤i+1):=(show t.puts≤i+1 by have:=HPU.out;omega)
             go_wp2_with (first
              | ((with_reducible refine aa (some 65) (.load 3 (.tmp 64)) ?_);go_must (refine ae (.int .i64 4) rfl (ah 0 (.int .i64 4) (st.mem.get 1 rfl) rfl ak rfl) ?_))
              | ((with_reducible refine aa (some 86) (.load 3 (.tmp 85)) ?_);go_must (refine ae (.int .i64 4) rfl (ah 0 (.int .i64 4) (st.mem.get 1 rfl) rfl ak rfl) ?_))
              | ((with_reducible refine aa (some 97) (.load 3 (.tmp 96)) ?_);go_must (refine ae (.int .i64 4) rfl (ah 0 (.int .i64 4) (st.mem.get 1 rfl) rfl ak rfl) ?_))
              | ((with_reducible refine aa (some 103) (.load 5 (.tmp 102)) ?_);go_must (refine ae (.int .u8 x) rfl (ah 2 (.int .u8 x) (st.mem.get 1 rfl) rfl aY rfl) ?_))
              | (go_at_call 9;refine (aZ _ _).mono ?_;rintro e wk ⟨rfl,hbk⟩;replace st:=st.below hbk;clear hbk)
              | (go_at_call 11;go_must (refine (eu st HT.out HQT.out (a:Int) x HXB.out Z 0 (HZ.out ())).mono ?_);rintro e wp ⟨rfl,st9⟩;replace st:=st9;clear st9)
              | ((with_reducible refine aa (some 13) (.alloc 39) ?_);go_must (refine aC _ bd ?_);intro wa q13 hba hqa hra;replace st:=st.add hba hra hqa;clear hba hqa hra)
              | ((with_reducible refine aa none (.store 39 (.tmp 13) (.tmp 106)) ?_);go_must (refine aw (u8s Z) (st.mem.get 0 rfl) rfl rfl 32 az (by simp [ab]) (by rw [ab,HZL.out ()]) (aq _) ?_);intro wb hub hrb;replace st:=st.updR 0 rfl hub hrb;clear hub hrb))
             refine au ?_
             refine av (T:=fun W=>(Row W q13 (u8s Z) 39∧Row W q8 [.int .i64 4,.int .i64 (a:Int),.int .u8 x,.int .u8 y,.int .i64 pw,.slice p5 n5 c5] 35∧Row W q6 (modL M 24) 32)) (by kernel_rfl) st.mem ?_
             intro wz hbz hmz
             replace st:=st.below hbz
             have HTW:Hid (Row wz q13 (u8s Z) 39∧Row wz q8 [.int .i64 4,.int .i64 (a:Int),.int .u8 x,.int .u8 y,.int .i64 pw,.slice p5 n5 c5] 35∧Row wz q6 (modL M 24) 32):=⟨st.mem.get 0 rfl,st.mem.get 2 rfl,st.mem.get 3 rfl⟩
             clear hbz hmz
             refine aT 0 (v:=.bool true) rfl (by kernel_rfl) rfl (fun W _=>by go_simp) HTW.out ?_
             go_simp
             refine aT 1 (v:=.bool true) rfl (by kernel_rfl) rfl (fun W _=>by go_simp) HTW.out ?_
             go_simp
             refine aG 2 (v:=.int .i64 (a:Int)) rfl (by kernel_rfl) rfl (fun W _=>by go_simp) HTW.out ?_
             go_simp
             refine aG 3 (v:=.pointer (some ⟨q6,a * 3,none⟩)) rfl (by kernel_rfl) rfl (fun W _=>aE a rfl rfl rfl ha) HTW.out ?_
             go_simp
             refine aG 4 (v:=.pointer (some ⟨q6,a * 3,none⟩)) rfl (by kernel_rfl) rfl (fun W _=>by go_simp) HTW.out ?_
             go_simp
             refine aG 5 (v:=.bool true) rfl (by kernel_rfl) rfl (fun W hW=>ah (a * 3+0) (.bool true) hW.2.2 rfl bj (HMA0.out ())) HTW.out ?_
             go_simp
             refine aT 6 (v:=.bool true) rfl (by kernel_rfl) rfl (fun W _=>by go_simp) HTW.out ?_
             go_simp
             refine aT 7 (v:=.bool true) rfl (by kernel_rfl) rfl (fun W _=>by go_simp) HTW.out ?_
             go_simp
             refine aG 8 (v:=.int .i64 (a:Int)) rfl (by kernel_rfl) rfl (fun W _=>by go_simp) HTW.out ?_
             go_simp
             refine aG 9 (v:=.pointer (some ⟨q6,a * 3,none⟩)) rfl (by kernel_rfl) rfl (fun W _=>aE a rfl rfl rfl ha) HTW.out ?_
             go_simp
             refine aG 10 (v:=.pointer (some ⟨q6,a * 3+1,none⟩)) rfl (by kernel_rfl) rfl (fun W _=>by go_simp) HTW.out ?_
             go_simp
             refine aG 11 (v:=.int .u8 mk) rfl (by kernel_rfl) rfl (fun W hW=>ah (a * 3+1) (.int .u8 mk) hW.2.2 rfl aY (HMA1.out ())) HTW.out ?_
             go_simp
             refine aG 12 (v:=.pointer (some ⟨q8,2,none⟩)) rfl (by kernel_rfl) rfl (fun W _=>by go_simp) HTW.out ?_
             go_simp
             refine aG 13 (v:=.int .u8 x) rfl (by kernel_rfl) rfl (fun W hW=>ah 2 (.int .u8 x) hW.2.1 rfl aY rfl) HTW.out ?_
             go_simp
             refine aG 14 (v:=.bool true) rfl (by kernel_rfl) rfl (fun W _=>by go_simp) HTW.out ?_
             go_simp
             refine aT 15 (v:=.bool true) rfl (by kernel_rfl) rfl (fun W _=>by go_simp) HTW.out ?_
             go_simp
             refine aT 16 (v:=.bool true) rfl (by kernel_rfl) rfl (fun W _=>by go_simp) HTW.out ?_
             go_simp
             refine wpAnyH_done (by kernel_rfl) ?_ _
             simp only [endsIn]
             clear HTW
             go_wp2_with fail
             refine au ?_
             refine av (T:=fun W=>(Row W q13 (u8s Z) 39∧Row W q8 [.int .i64 4,.int .i64 (a:Int),.int .u8 x,.int .u8 y,.int .i64 pw,.slice p5 n5 c5] 35∧Row W q6 (modL M 24) 32)) (by kernel_rfl) st.mem ?_
             intro wz hbz hmz
             replace st:=st.below hbz
             have HTW:Hid (Row wz q13 (u8s Z) 39∧Row wz q8 [.int .i64 4,.int .i64 (a:Int),.int .u8 x,.int .u8 y,.int .i64 pw,.slice p5 n5 c5] 35∧Row wz q6 (modL M 24) 32):=⟨st.mem.get 0 rfl,st.mem.get 2 rfl,st.mem.get 3 rfl⟩
             clear hbz hmz
             refine aT 0 (v:=.bool true) rfl (by kernel_rfl) rfl (fun W _=>by go_simp) HTW.out ?_
             go_simp
             refine aT 1 (v:=.bool true) rfl (by kernel_rfl) rfl (fun W _=>by go_simp) HTW.out ?_
             go_simp
             refine aG 2 (v:=.int .i64 0) rfl (by kernel_rfl) rfl (fun W _=>by go_simp) HTW.out ?_
             go_simp
             refine aG 3 (v:=.bool false) rfl (by kernel_rfl) rfl (fun W _=>by go_simp) HTW.out ?_
             go_simp
             refine aG 4 (v:=.bool false) rfl (by kernel_rfl) rfl (fun W _=>by go_simp) HTW.out ?_
             go_simp
             refine aG 5 (v:=.agg (u8s Z).toArray) rfl (by kernel_rfl) rfl (fun W hW=>ao 0 (u8s Z) hW.1 rfl _ aS rfl 32 az (by rw [ab,HZL.out ()];omega) (by rw [List.drop_zero,List.take_of_length_le (by rw [ab,HZL.out ()];omega)])) HTW.out ?_
             go_simp
             refine aG 6 (v:=.int .i64 (a:Int)) rfl (by kernel_rfl) rfl (fun W _=>by go_simp) HTW.out ?_
             go_simp
             refine aG 7 (v:=.pointer (some ⟨q6,a * 3,none⟩)) rfl (by kernel_rfl) rfl (fun W _=>aE a rfl rfl rfl ha) HTW.out ?_
             go_simp
             refine aG 8 (v:=.pointer (some ⟨q6,a * 3+2,none⟩)) rfl (by kernel_rfl) rfl (fun W _=>by go_simp) HTW.out ?_
             go_simp
             refine aG 9 (v:=.int .u8 my) rfl (by kernel_rfl) rfl (fun W hW=>ah (a * 3+2) (.int .u8 my) hW.2.2 rfl aY (HMA2.out ())) HTW.out ?_
             go_simp
             refine aO 10 (by kernel_rfl) rfl rfl ?_
             intro K hK
             go_wp2_with ((go_at_call 9;refine (aZ _ _).mono ?_;rintro e wk ⟨rfl,hbk⟩;replace st:=st.below hbk;clear hbk HTW;have HTW:Hid (Row wk q13 (u8s Z) 39∧Row wk q8 [.int .i64 4,.int .i64 (a:Int),.int .u8 x,.int .u8 y,.int .i64 pw,.slice p5 n5 c5] 35∧Row wk q6 (modL M 24) 32):=⟨st.mem.get 0 rfl,st.mem.get 2 rfl,st.mem.get 3 rfl⟩))
             refine hK _ _ HTW.out ?_
             clear hK K
             go_simp
             refine aG 11 (v:=.bool false) rfl (by kernel_rfl) rfl (fun W hW=>jl 5 32 .u8 Z rfl (by rw [HZE.out ()];rfl) aS cy be eg_key (HZL.out ())) HTW.out ?_
             go_simp
             refine aG 12 (v:=.bool false) rfl (by kernel_rfl) rfl (fun W _=>by go_simp) HTW.out ?_
             go_simp
             refine aT 13 (v:=.bool false) rfl (by kernel_rfl) rfl (fun W _=>by go_simp) HTW.out ?_
             go_simp
             refine aT 14 (v:=.bool false) rfl (by kernel_rfl) rfl (fun W _=>by go_simp) HTW.out ?_
             go_simp
             refine aG 15 (v:=.bool true) rfl (by kernel_rfl) rfl (fun W _=>by go_simp) HTW.out ?_
             go_simp
             refine aG 16 (v:=.bool true) rfl (by kernel_rfl) rfl (fun W _=>by go_simp) HTW.out ?_
             go_simp
             refine aG 17 (v:=.int .i64 (a:Int)) rfl (by kernel_rfl) rfl (fun W _=>by go_simp) HTW.out ?_
             go_simp
             refine aG 18 (v:=.pointer (some ⟨q6,a * 3,none⟩)) rfl (by kernel_rfl) rfl (fun W _=>aE a rfl rfl rfl ha) HTW.out ?_
             go_simp
             refine aG 19 (v:=.pointer (some ⟨q6,a * 3,none⟩)) rfl (by kernel_rfl) rfl (fun W _=>by go_simp) HTW.out ?_
             go_simp
             refine aG 20 (v:=.bool true) rfl (by kernel_rfl) rfl (fun W hW=>ah (a * 3+0) (.bool true) hW.2.2 rfl bj (HMA0.out ())) HTW.out ?_
             go_simp
             refine aG 21 (v:=.bool false) rfl (by kernel_rfl) rfl (fun W _=>by go_simp) HTW.out ?_
             go_simp
             refine aG 22 (v:=.bool false) rfl (by kernel_rfl) rfl (fun W _=>by go_simp) HTW.out ?_
             go_simp
             refine aG 23 (v:=.bool false) rfl (by kernel_rfl) rfl (fun W _=>by go_simp) HTW.out ?_
             go_simp
             refine ai 24 rfl (by kernel_rfl) (by kernel_rfl) (by kernel_rfl) rfl HTW.out ?_
             go_simp
             refine ai 25 rfl (by kernel_rfl) (by kernel_rfl) (by kernel_rfl) rfl HTW.out ?_
             go_simp
             refine aG 26 (v:=.bool false) rfl (by kernel_rfl) rfl (fun W _=>by go_simp) HTW.out ?_
             go_simp
             refine aT 27 (v:=.bool false) rfl (by kernel_rfl) rfl (fun W _=>by go_simp) HTW.out ?_
             go_simp
             refine aT 28 (v:=.bool false) rfl (by kernel_rfl) rfl (fun W _=>by go_simp) HTW.out ?_
             go_simp
             refine aG 29 (v:=.bool true) rfl (by kernel_rfl) rfl (fun W _=>by go_simp) HTW.out ?_
             go_simp
             refine aG 30 (v:=.bool false) rfl (by kernel_rfl) rfl (fun W _=>by go_simp) HTW.out ?_
             go_simp
             refine aG 31 (v:=.bool false) rfl (by kernel_rfl) rfl (fun W _=>by go_simp) HTW.out ?_
             go_simp
             refine ai 32 rfl (by kernel_rfl) (by kernel_rfl) (by kernel_rfl) rfl HTW.out ?_
             go_simp
             refine ai 33 rfl (by kernel_rfl) (by kernel_rfl) (by kernel_rfl) rfl HTW.out ?_
             go_simp
             refine aG 34 (v:=.bool false) rfl (by kernel_rfl) rfl (fun W _=>by go_simp) HTW.out ?_
             go_simp
             refine aT 35 (v:=.bool false) rfl (by kernel_rfl) rfl (fun W _=>by go_simp) HTW.out ?_
             go_simp
             refine wpAnyH_done (by kernel_rfl) ?_ _
             simp only [endsIn]
             clear HTW
             go_wp2_with (first
              | ((with_reducible refine aa (some 161) (.load 3 (.tmp 160)) ?_);go_must (refine ae (.int .i64 4) rfl (ah 0 (.int .i64 4) (st.mem.get 2 rfl) rfl ak rfl) ?_))
              | ((with_reducible refine aa (some 187) (.load 32 (.tmp 11)) ?_);go_must (refine ae (.agg (modL M 24).toArray) rfl (ao 0 (modL M 24) (st.mem.get 1 rfl) rfl _ ax rfl 72 sz_mdl (Nat.le_of_eq (modL24 _).symm) (by rw [List.drop_zero,List.take_of_length_le (Nat.le_of_eq (modL24 _))])) ?_))
              | ((with_reducible refine aa none (.store 32 (.tmp 6) (.tmp 187)) ?_);go_must (refine aw (modL M 24) (st.mem.get 3 rfl) rfl rfl 72 sz_mdl (modL24 _) (modL24 _) (aH _ _) ?_);intro wb hub hrb;replace st:=st.updR 3 rfl hub hrb;clear hub hrb)
              | ((with_reducible refine aa (some 203) (.load 3 (.tmp 202)) ?_);go_must (refine ae (.int .i64 4) rfl (ah 0 (.int .i64 4) (st.mem.get 2 rfl) rfl ak rfl) ?_))
              | (go_at_call 7;go_must (refine (aN st 0 (by omega) (by omega) true (by decide)).mono ?_);rintro e wq ⟨rfl,st9⟩;replace st:=st9;clear st9)
              | ((with_reducible refine aa (some 249) (.load 32 (.tmp 6)) ?_);go_must (refine ae (.agg (modL M 24).toArray) rfl (ao 0 (modL M 24) (st.mem.get 3 rfl) rfl _ ax rfl 72 sz_mdl (Nat.le_of_eq (modL24 _).symm) (by rw [List.drop_zero,List.take_of_length_le (Nat.le_of_eq (modL24 _))])) ?_))
              | (go_at_call 15;go_must (refine (aV st HT.out HQT.out HMX.out).mono ?_);rintro e wq ⟨rfl,st9⟩;replace st:=st9;clear st9))
             go_roundw
             case rel=>exact ⟨i+1,sb,hb,t,M,by omega,by go_num,rfl,(st.tail.tail.tail).more (by omega),HPX.out,HMX.out⟩
             case measure=>simp [intOf];omega
           ·have hkb:(mk==x)=false:=by simpa using hke
            have HMA0:Hid (∀_:Unit,(modL M 24)[a * 3+0]?=some (.bool true)):=fun _=>by rw [bO M 0 (by omega) 24 a ha,slV];rw [hma];rfl
            have HMA1:Hid (∀_:Unit,(modL M 24)[a * 3+1]?=some (.int .u8 mk)):=fun _=>by rw [bO M 1 (by omega) 24 a ha,slV,hmk];rfl
            have HMA2:Hid (∀_:Unit,(modL M 24)[a * 3+2]?=some (.int .u8 my)):=fun _=>by rw [bO M 2 (by omega) 24 a ha,slV,hmy];rfl
            clear hz hke hma hmk hmy hsl
            as_aux_lemma =>
             have HMX:Hid (MB M):=HMB.out
             have HPX:Hid (t.puts≤i+1):=(show t.puts≤i+1 by have:=HPU.out;omega)
             go_wp2_with (first
              | ((with_reducible refine aa (some 65) (.load 3 (.tmp 64)) ?_);go_must (refine ae (.int .i64 4) rfl (ah 0 (.int .i64 4) (st.mem.get 1 rfl) rfl ak rfl) ?_))
              | ((with_reducible refine aa (some 86) (.load 3 (.tmp 85)) ?_);go_must (refine ae (.int .i64 4) rfl (ah 0 (.int .i64 4) (st.mem.get 1 rfl) rfl ak rfl) ?_))
              | ((with_reducible refine aa (some 97) (.load 3 (.tmp 96)) ?_);go_must (refine ae (.int .i64 4) rfl (ah 0 (.int .i64 4) (st.mem.get 1 rfl) rfl ak rfl) ?_))
              | ((with_reducible refine aa (some 103) (.load 5 (.tmp 102)) ?_);go_must (refine ae (.int .u8 x) rfl (ah 2 (.int .u8 x) (st.mem.get 1 rfl) rfl aY rfl) ?_))
              | (go_at_call 9;refine (aZ _ _).mono ?_;rintro e wk ⟨rfl,hbk⟩;replace st:=st.below hbk;clear hbk)
              | (go_at_call 11;go_must (refine (eu st HT.out HQT.out (a:Int) x HXB.out Z z (HZ.out ())).mono ?_);rintro e wp ⟨rfl,st9⟩;replace st:=st9;clear st9)
              | ((with_reducible refine aa (some 13) (.alloc 39) ?_);go_must (refine aC _ bd ?_);intro wa q13 hba hqa hra;replace st:=st.add hba hra hqa;clear hba hqa hra)
              | ((with_reducible refine aa none (.store 39 (.tmp 13) (.tmp 106)) ?_);go_must (refine aw (u8s Z) (st.mem.get 0 rfl) rfl rfl 32 az (by simp [ab]) (by rw [ab,HZL.out ()]) (aq _) ?_);intro wb hub hrb;replace st:=st.updR 0 rfl hub hrb;clear hub hrb))
             refine au ?_
             refine av (T:=fun W=>(Row W q13 (u8s Z) 39∧Row W q8 [.int .i64 4,.int .i64 (a:Int),.int .u8 x,.int .u8 y,.int .i64 pw,.slice p5 n5 c5] 35∧Row W q6 (modL M 24) 32)) (by kernel_rfl) st.mem ?_
             intro wz hbz hmz
             replace st:=st.below hbz
             have HTW:Hid (Row wz q13 (u8s Z) 39∧Row wz q8 [.int .i64 4,.int .i64 (a:Int),.int .u8 x,.int .u8 y,.int .i64 pw,.slice p5 n5 c5] 35∧Row wz q6 (modL M 24) 32):=⟨st.mem.get 0 rfl,st.mem.get 2 rfl,st.mem.get 3 rfl⟩
             clear hbz hmz
             refine aT 0 (v:=.bool true) rfl (by kernel_rfl) rfl (fun W _=>by go_simp) HTW.out ?_
             go_simp
             refine aT 1 (v:=.bool true) rfl (by kernel_rfl) rfl (fun W _=>by go_simp) HTW.out ?_
             go_simp
             refine aG 2 (v:=.int .i64 (a:Int)) rfl (by kernel_rfl) rfl (fun W _=>by go_simp) HTW.out ?_
             go_simp
             refine aG 3 (v:=.pointer (some ⟨q6,a * 3,none⟩)) rfl (by kernel_rfl) rfl (fun W _=>aE a rfl rfl rfl ha) HTW.out ?_
             go_simp
             refine aG 4 (v:=.pointer (some ⟨q6,a * 3,none⟩)) rfl (by kernel_rfl) rfl (fun W _=>by go_simp) HTW.out ?_
             go_simp
             refine aG 5 (v:=.bool true) rfl (by kernel_rfl) rfl (fun W hW=>ah (a * 3+0) (.bool true) hW.2.2 rfl bj (HMA0.out ())) HTW.out ?_
             go_simp
             refine aT 6 (v:=.bool true) rfl (by kernel_rfl) rfl (fun W _=>by go_simp) HTW.out ?_
             go_simp
             refine aT 7 (v:=.bool true) rfl (by kernel_rfl) rfl (fun W _=>by go_simp) HTW.out ?_
             go_simp
             refine aG 8 (v:=.int .i64 (a:Int)) rfl (by kernel_rfl) rfl (fun W _=>by go_simp) HTW.out ?_
             go_simp
             refine aG 9 (v:=.pointer (some ⟨q6,a * 3,none⟩)) rfl (by kernel_rfl) rfl (fun W _=>aE a rfl rfl rfl ha) HTW.out ?_
             go_simp
             refine aG 10 (v:=.pointer (some ⟨q6,a * 3+1,none⟩)) rfl (by kernel_rfl) rfl (fun W _=>by go_simp) HTW.out ?_
             go_simp
             refine aG 11 (v:=.int .u8 mk) rfl (by kernel_rfl) rfl (fun W hW=>ah (a * 3+1) (.int .u8 mk) hW.2.2 rfl aY (HMA1.out ())) HTW.out ?_
             go_simp
             refine aG 12 (v:=.pointer (some ⟨q8,2,none⟩)) rfl (by kernel_rfl) rfl (fun W _=>by go_simp) HTW.out ?_
             go_simp
             refine aG 13 (v:=.int .u8 x) rfl (by kernel_rfl) rfl (fun W hW=>ah 2 (.int .u8 x) hW.2.1 rfl aY rfl) HTW.out ?_
             go_simp
             refine aG 14 (v:=.bool false) rfl (by kernel_rfl) rfl (fun W _=>by go_simp) HTW.out ?_
             go_simp
             refine aT 15 (v:=.bool false) rfl (by kernel_rfl) rfl (fun W _=>by go_simp) HTW.out ?_
             go_simp
             refine aT 16 (v:=.bool false) rfl (by kernel_rfl) rfl (fun W _=>by go_simp) HTW.out ?_
             go_simp
             refine wpAnyH_done (by kernel_rfl) ?_ _
             simp only [endsIn]
             clear HTW
             go_wp2_with fail
             refine au ?_
             refine av (T:=fun W=>(Row W q13 (u8s Z) 39∧Row W q8 [.int .i64 4,.int .i64 (a:Int),.int .u8 x,.int .u8 y,.int .i64 pw,.slice p5 n5 c5] 35∧Row W q6 (modL M 24) 32)) (by kernel_rfl) st.mem ?_
             intro wz hbz hmz
             replace st:=st.below hbz
             have HTW:Hid (Row wz q13 (u8s Z) 39∧Row wz q8 [.int .i64 4,.int .i64 (a:Int),.int .u8 x,.int .u8 y,.int .i64 pw,.slice p5 n5 c5] 35∧Row wz q6 (modL M 24) 32):=⟨st.mem.get 0 rfl,st.mem.get 2 rfl,st.mem.get 3 rfl⟩
             clear hbz hmz
             refine aT 0 (v:=.bool false) rfl (by kernel_rfl) rfl (fun W _=>by go_simp) HTW.out ?_
             go_simp
             refine aT 1 (v:=.bool false) rfl (by kernel_rfl) rfl (fun W _=>by go_simp) HTW.out ?_
             go_simp
             refine ai 2 rfl (by kernel_rfl) (by kernel_rfl) (by kernel_rfl) rfl HTW.out ?_
             go_simp
             refine ai 3 rfl (by kernel_rfl) (by kernel_rfl) (by kernel_rfl) rfl HTW.out ?_
             go_simp
             refine ai 4 rfl (by kernel_rfl) (by kernel_rfl) (by kernel_rfl) rfl HTW.out ?_
             go_simp
             refine ai 5 rfl (by kernel_rfl) (by kernel_rfl) (by kernel_rfl) rfl HTW.out ?_
             go_simp
             refine ai 6 rfl (by kernel_rfl) (by kernel_rfl) (by kernel_rfl) rfl HTW.out ?_
             go_simp
             refine ai 7 rfl (by kernel_rfl) (by kernel_rfl) (by kernel_rfl) rfl HTW.out ?_
             go_simp
             refine ai 8 rfl (by kernel_rfl) (by kernel_rfl) (by kernel_rfl) rfl HTW.out ?_
             go_simp
             refine ai 9 rfl (by kernel_rfl) (by kernel_rfl) (by kernel_rfl) rfl HTW.out ?_
             go_simp
             refine ai 10 rfl (by kernel_rfl) (by kernel_rfl) (by kernel_rfl) rfl HTW.out ?_
             go_simp
             refine ai 11 rfl (by kernel_rfl) (by kernel_rfl) (by kernel_rfl) rfl HTW.out ?_
             go_simp
             refine ai 12 rfl (by kernel_rfl) (by kernel_rfl) (by kernel_rfl) rfl HTW.out ?_
             go_simp
             refine aT 13 (v:=.bool false) rfl (by kernel_rfl) rfl (fun W _=>by go_simp) HTW.out ?_
             go_simp
             refine aT 14 (v:=.bool false) rfl (by kernel_rfl) rfl (fun W _=>by go_simp) HTW.out ?_
             go_simp
             refine aG 15 (v:=.bool true) rfl (by kernel_rfl) rfl (fun W _=>by go_simp) HTW.out ?_
             go_simp
             refine aG 16 (v:=.bool true) rfl (by kernel_rfl) rfl (fun W _=>by go_simp) HTW.out ?_
             go_simp
             refine aG 17 (v:=.int .i64 (a:Int)) rfl (by kernel_rfl) rfl (fun W _=>by go_simp) HTW.out ?_
             go_simp
             refine aG 18 (v:=.pointer (some ⟨q6,a * 3,none⟩)) rfl (by kernel_rfl) rfl (fun W _=>aE a rfl rfl rfl ha) HTW.out ?_
             go_simp
             refine aG 19 (v:=.pointer (some ⟨q6,a * 3,none⟩)) rfl (by kernel_rfl) rfl (fun W _=>by go_simp) HTW.out ?_
             go_simp
             refine aG 20 (v:=.bool true) rfl (by kernel_rfl) rfl (fun W hW=>ah (a * 3+0) (.bool true) hW.2.2 rfl bj (HMA0.out ())) HTW.out ?_
             go_simp
             refine aG 21 (v:=.bool false) rfl (by kernel_rfl) rfl (fun W _=>by go_simp) HTW.out ?_
             go_simp
             refine aG 22 (v:=.bool false) rfl (by kernel_rfl) rfl (fun W _=>by go_simp) HTW.out ?_
             go_simp
             refine aG 23 (v:=.bool false) rfl (by kernel_rfl) rfl (fun W _=>by go_simp) HTW.out ?_
             go_simp
             refine ai 24 rfl (by kernel_rfl) (by kernel_rfl) (by kernel_rfl) rfl HTW.out ?_
             go_simp
             refine ai 25 rfl (by kernel_rfl) (by kernel_rfl) (by kernel_rfl) rfl HTW.out ?_
             go_simp
             refine aG 26 (v:=.bool false) rfl (by kernel_rfl) rfl (fun W _=>by go_simp) HTW.out ?_
             go_simp
             refine aT 27 (v:=.bool false) rfl (by kernel_rfl) rfl (fun W _=>by go_simp) HTW.out ?_
             go_simp
             refine aT 28 (v:=.bool false) rfl (by kernel_rfl) rfl (fun W _=>by go_simp) HTW.out ?_
             go_simp
             refine aG 29 (v:=.bool true) rfl (by kernel_rfl) rfl (fun W _=>by go_simp) HTW.out ?_
             go_simp
             refine aG 30 (v:=.bool false) rfl (by kernel_rfl) rfl (fun W _=>by go_simp) HTW.out ?_
             go_simp
             refine aG 31 (v:=.bool false) rfl (by kernel_rfl) rfl (fun W _=>by go_simp) HTW.out ?_
             go_simp
             refine ai 32 rfl (by kernel_rfl) (by kernel_rfl) (by kernel_rfl) rfl HTW.out ?_
             go_simp
             refine ai 33 rfl (by kernel_rfl) (by kernel_rfl) (by kernel_rfl) rfl HTW.out ?_
             go_simp
             refine aG 34 (v:=.bool false) rfl (by kernel_rfl) rfl (fun W _=>by go_simp) HTW.out ?_
             go_simp
             refine aT 35 (v:=.bool false) rfl (by kernel_rfl) rfl (fun W _=>by go_simp) HTW.out ?_
             go_simp
             refine wpAnyH_done (by kernel_rfl) ?_ _
             simp only [endsIn]
             clear HTW
             go_wp2_with (first
              | ((with_reducible refine aa (some 161) (.load 3 (.tmp 160)) ?_);go_must (refine ae (.int .i64 4) rfl (ah 0 (.int .i64 4) (st.mem.get 2 rfl) rfl ak rfl) ?_))
              | ((with_reducible refine aa (some 187) (.load 32 (.tmp 11)) ?_);go_must (refine ae (.agg (modL M 24).toArray) rfl (ao 0 (modL M 24) (st.mem.get 1 rfl) rfl _ ax rfl 72 sz_mdl (Nat.le_of_eq (modL24 _).symm) (by rw [List.drop_zero,List.take_of_length_le (Nat.le_of_eq (modL24 _))])) ?_))
              | ((with_reducible refine aa none (.store 32 (.tmp 6) (.tmp 187)) ?_);go_must (refine aw (modL M 24) (st.mem.get 3 rfl) rfl rfl 72 sz_mdl (modL24 _) (modL24 _) (aH _ _) ?_);intro wb hub hrb;replace st:=st.updR 3 rfl hub hrb;clear hub hrb)
              | ((with_reducible refine aa (some 203) (.load 3 (.tmp 202)) ?_);go_must (refine ae (.int .i64 4) rfl (ah 0 (.int .i64 4) (st.mem.get 2 rfl) rfl ak rfl) ?_))
              | (go_at_call 7;go_must (refine (aN st 0 (by omega) (by omega) true (by decide)).mono ?_);rintro e wq ⟨rfl,st9⟩;replace st:=st9;clear st9)
              | ((with_reducible refine aa (some 249) (.load 32 (.tmp 6)) ?_);go_must (refine ae (.agg (modL M 24).toArray) rfl (ao 0 (modL M 24) (st.mem.get 3 rfl) rfl _ ax rfl 72 sz_mdl (Nat.le_of_eq (modL24 _).symm) (by rw [List.drop_zero,List.take_of_length_le (Nat.le_of_eq (modL24 _))])) ?_))
              | (go_at_call 15;go_must (refine (aV st HT.out HQT.out HMX.out).mono ?_);rintro e wq ⟨rfl,st9⟩;replace st:=st9;clear st9))
             go_roundw
             case rel=>exact ⟨i+1,sb,hb,t,M,by omega,by go_num,rfl,(st.tail.tail.tail).more (by omega),HPX.out,HMX.out⟩
             case measure=>simp [intOf];omega
          | false =>
           obtain ⟨Z,hZ0⟩:∃Z,Z=zero32:=⟨_,rfl⟩
           have HZ:Hid (∀_:Unit,getV t.held (a:Int) (keyB x)=(Z,120)):=fun _=>by
            rw [cQ hma] at hsl
            rw [hZ0]
            exact fO ha (by simpa using hsl) _
           have HZL:Hid (∀_:Unit,Z.length=32):=fun _=>by rw [hZ0];rfl
           have HMA0:Hid (∀_:Unit,(modL M 24)[a * 3+0]?=some (.bool false)):=fun _=>by rw [bO M 0 (by omega) 24 a ha,slV];rw [hma];rfl
           have HMA1:Hid (∀_:Unit,(modL M 24)[a * 3+1]?=some (.int .u8 mk)):=fun _=>by rw [bO M 1 (by omega) 24 a ha,slV,hmk];rfl
           have HMA2:Hid (∀_:Unit,(modL M 24)[a * 3+2]?=some (.int .u8 my)):=fun _=>by rw [bO M 2 (by omega) 24 a ha,slV,hmy];rfl
           clear hZ0 hma hmk hmy hsl
           as_aux_lemma =>
            have HMX:Hid (MB M):=HMB.out
            have HPX:Hid (t.puts≤i+1):=(show t.puts≤i+1 by have:=HPU.out;omega)
            go_wp2_with (first
             | ((with_reducible refine aa (some 65) (.load 3 (.tmp 64)) ?_);go_must (refine ae (.int .i64 4) rfl (ah 0 (.int .i64 4) (st.mem.get 1 rfl) rfl ak rfl) ?_))
             | ((with_reducible refine aa (some 86) (.load 3 (.tmp 85)) ?_);go_must (refine ae (.int .i64 4) rfl (ah 0 (.int .i64 4) (st.mem.get 1 rfl) rfl ak rfl) ?_))
             | ((with_reducible refine aa (some 97) (.load 3 (.tmp 96)) ?_);go_must (refine ae (.int .i64 4) rfl (ah 0 (.int .i64 4) (st.mem.get 1 rfl) rfl ak rfl) ?_))
             | ((with_reducible refine aa (some 103) (.load 5 (.tmp 102)) ?_);go_must (refine ae (.int .u8 x) rfl (ah 2 (.int .u8 x) (st.mem.get 1 rfl) rfl aY rfl) ?_))
             | (go_at_call 9;refine (aZ _ _).mono ?_;rintro e wk ⟨rfl,hbk⟩;replace st:=st.below hbk;clear hbk)
             | (go_at_call 11;go_must (refine (eu st HT.out HQT.out (a:Int) x HXB.out Z 120 (HZ.out ())).mono ?_);rintro e wp ⟨rfl,st9⟩;replace st:=st9;clear st9)
             | ((with_reducible refine aa (some 13) (.alloc 39) ?_);go_must (refine aC _ bd ?_);intro wa q13 hba hqa hra;replace st:=st.add hba hra hqa;clear hba hqa hra)
             | ((with_reducible refine aa none (.store 39 (.tmp 13) (.tmp 106)) ?_);go_must (refine aw (u8s Z) (st.mem.get 0 rfl) rfl rfl 32 az (by simp [ab]) (by rw [ab,HZL.out ()]) (aq _) ?_);intro wb hub hrb;replace st:=st.updR 0 rfl hub hrb;clear hub hrb))
            refine au ?_
            refine av (T:=fun W=>(Row W q13 (u8s Z) 39∧Row W q8 [.int .i64 4,.int .i64 (a:Int),.int .u8 x,.int .u8 y,.int .i64 pw,.slice p5 n5 c5] 35∧Row W q6 (modL M 24) 32)) (by kernel_rfl) st.mem ?_
            intro wz hbz hmz
            replace st:=st.below hbz
            have HTW:Hid (Row wz q13 (u8s Z) 39∧Row wz q8 [.int .i64 4,.int .i64 (a:Int),.int .u8 x,.int .u8 y,.int .i64 pw,.slice p5 n5 c5] 35∧Row wz q6 (modL M 24) 32):=⟨st.mem.get 0 rfl,st.mem.get 2 rfl,st.mem.get 3 rfl⟩
            clear hbz hmz
            refine aT 0 (v:=.bool true) rfl (by kernel_rfl) rfl (fun W _=>by go_simp) HTW.out ?_
            go_simp
            refine aT 1 (v:=.bool true) rfl (by kernel_rfl) rfl (fun W _=>by go_simp) HTW.out ?_
            go_simp
            refine aG 2 (v:=.int .i64 (a:Int)) rfl (by kernel_rfl) rfl (fun W _=>by go_simp) HTW.out ?_
            go_simp
            refine aG 3 (v:=.pointer (some ⟨q6,a * 3,none⟩)) rfl (by kernel_rfl) rfl (fun W _=>aE a rfl rfl rfl ha) HTW.out ?_
            go_simp
            refine aG 4 (v:=.pointer (some ⟨q6,a * 3,none⟩)) rfl (by kernel_rfl) rfl (fun W _=>by go_simp) HTW.out ?_
            go_simp
            refine aG 5 (v:=.bool false) rfl (by kernel_rfl) rfl (fun W hW=>ah (a * 3+0) (.bool false) hW.2.2 rfl bj (HMA0.out ())) HTW.out ?_
            go_simp
            refine aT 6 (v:=.bool false) rfl (by kernel_rfl) rfl (fun W _=>by go_simp) HTW.out ?_
            go_simp
            refine aT 7 (v:=.bool false) rfl (by kernel_rfl) rfl (fun W _=>by go_simp) HTW.out ?_
            go_simp
            refine ai 8 rfl (by kernel_rfl) (by kernel_rfl) (by kernel_rfl) rfl HTW.out ?_
            go_simp
            refine ai 9 rfl (by kernel_rfl) (by kernel_rfl) (by kernel_rfl) rfl HTW.out ?_
            go_simp
            refine ai 10 rfl (by kernel_rfl) (by kernel_rfl) (by kernel_rfl) rfl HTW.out ?_
            go_simp
            refine ai 11 rfl (by kernel_rfl) (by kernel_rfl) (by kernel_rfl) rfl HTW.out ?_
            go_simp
            refine ai 12 rfl (by kernel_rfl) (by kernel_rfl) (by kernel_rfl) rfl HTW.out ?_
            go_simp
            refine ai 13 rfl (by kernel_rfl) (by kernel_rfl) (by kernel_rfl) rfl HTW.out ?_
            go_simp
            refine ai 14 rfl (by kernel_rfl) (by kernel_rfl) (by kernel_rfl) rfl HTW.out ?_
            go_simp
            refine aT 15 (v:=.bool false) rfl (by kernel_rfl) rfl (fun W _=>by go_simp) HTW.out ?_
            go_simp
            refine aT 16 (v:=.bool false) rfl (by kernel_rfl) rfl (fun W _=>by go_simp) HTW.out ?_
            go_simp
            refine wpAnyH_done (by kernel_rfl) ?_ _
            simp only [endsIn]
            clear HTW
            go_wp2_with fail
            refine au ?_
            refine av (T:=fun W=>(Row W q13 (u8s Z) 39∧Row W q8 [.int .i64 4,.int .i64 (a:Int),.int .u8 x,.int .u8 y,.int .i64 pw,.slice p5 n5 c5] 35∧Row W q6 (modL M 24) 32)) (by kernel_rfl) st.mem ?_
            intro wz hbz hmz
            replace st:=st.below hbz
            have HTW:Hid (Row wz q13 (u8s Z) 39∧Row wz q8 [.int .i64 4,.int .i64 (a:Int),.int .u8 x,.int .u8 y,.int .i64 pw,.slice p5 n5 c5] 35∧Row wz q6 (modL M 24) 32):=⟨st.mem.get 0 rfl,st.mem.get 2 rfl,st.mem.get 3 rfl⟩
            clear hbz hmz
            refine aT 0 (v:=.bool false) rfl (by kernel_rfl) rfl (fun W _=>by go_simp) HTW.out ?_
            go_simp
            refine aT 1 (v:=.bool false) rfl (by kernel_rfl) rfl (fun W _=>by go_simp) HTW.out ?_
            go_simp
            refine ai 2 rfl (by kernel_rfl) (by kernel_rfl) (by kernel_rfl) rfl HTW.out ?_
            go_simp
            refine ai 3 rfl (by kernel_rfl) (by kernel_rfl) (by kernel_rfl) rfl HTW.out ?_
            go_simp
            refine ai 4 rfl (by kernel_rfl) (by kernel_rfl) (by kernel_rfl) rfl HTW.out ?_
            go_simp
            refine ai 5 rfl (by kernel_rfl) (by kernel_rfl) (by kernel_rfl) rfl HTW.out ?_
            go_simp
            refine ai 6 rfl (by kernel_rfl) (by kernel_rfl) (by kernel_rfl) rfl HTW.out ?_
            go_simp
            refine ai 7 rfl (by kernel_rfl) (by kernel_rfl) (by kernel_rfl) rfl HTW.out ?_
            go_simp
            refine ai 8 rfl (by kernel_rfl) (by kernel_rfl) (by kernel_rfl) rfl HTW.out ?_
            go_simp
            refine ai 9 rfl (by kernel_rfl) (by kernel_rfl) (by kernel_rfl) rfl HTW.out ?_
            go_simp
            refine ai 10 rfl (by kernel_rfl) (by kernel_rfl) (by kernel_rfl) rfl HTW.out ?_
            go_simp
            refine ai 11 rfl (by kernel_rfl) (by kernel_rfl) (by kernel_rfl) rfl HTW.out ?_
            go_simp
            refine ai 12 rfl (by kernel_rfl) (by kernel_rfl) (by kernel_rfl) rfl HTW.out ?_
            go_simp
            refine aT 13 (v:=.bool false) rfl (by kernel_rfl) rfl (fun W _=>by go_simp) HTW.out ?_
            go_simp
            refine aT 14 (v:=.bool false) rfl (by kernel_rfl) rfl (fun W _=>by go_simp) HTW.out ?_
            go_simp
            refine aG 15 (v:=.bool true) rfl (by kernel_rfl) rfl (fun W _=>by go_simp) HTW.out ?_
            go_simp
            refine aG 16 (v:=.bool true) rfl (by kernel_rfl) rfl (fun W _=>by go_simp) HTW.out ?_
            go_simp
            refine aG 17 (v:=.int .i64 (a:Int)) rfl (by kernel_rfl) rfl (fun W _=>by go_simp) HTW.out ?_
            go_simp
            refine aG 18 (v:=.pointer (some ⟨q6,a * 3,none⟩)) rfl (by kernel_rfl) rfl (fun W _=>aE a rfl rfl rfl ha) HTW.out ?_
            go_simp
            refine aG 19 (v:=.pointer (some ⟨q6,a * 3,none⟩)) rfl (by kernel_rfl) rfl (fun W _=>by go_simp) HTW.out ?_
            go_simp
            refine aG 20 (v:=.bool false) rfl (by kernel_rfl) rfl (fun W hW=>ah (a * 3+0) (.bool false) hW.2.2 rfl bj (HMA0.out ())) HTW.out ?_
            go_simp
            refine aG 21 (v:=.bool true) rfl (by kernel_rfl) rfl (fun W _=>by go_simp) HTW.out ?_
            go_simp
            refine aG 22 (v:=.bool true) rfl (by kernel_rfl) rfl (fun W _=>by go_simp) HTW.out ?_
            go_simp
            refine aG 23 (v:=.bool true) rfl (by kernel_rfl) rfl (fun W _=>by go_simp) HTW.out ?_
            go_simp
            refine aG 24 (v:=.int .i64 120) rfl (by kernel_rfl) rfl (fun W _=>by go_simp) HTW.out ?_
            go_simp
            refine aG 25 (v:=.bool false) rfl (by kernel_rfl) rfl (fun W _=>by go_simp) HTW.out ?_
            go_simp
            refine aG 26 (v:=.bool false) rfl (by kernel_rfl) rfl (fun W _=>by go_simp) HTW.out ?_
            go_simp
            refine aT 27 (v:=.bool false) rfl (by kernel_rfl) rfl (fun W _=>by go_simp) HTW.out ?_
            go_simp
            refine aT 28 (v:=.bool false) rfl (by kernel_rfl) rfl (fun W _=>by go_simp) HTW.out ?_
            go_simp
            refine aG 29 (v:=.bool true) rfl (by kernel_rfl) rfl (fun W _=>by go_simp) HTW.out ?_
            go_simp
            refine aG 30 (v:=.bool false) rfl (by kernel_rfl) rfl (fun W _=>by go_simp) HTW.out ?_
            go_simp
            refine aG 31 (v:=.bool false) rfl (by kernel_rfl) rfl (fun W _=>by go_simp) HTW.out ?_
            go_simp
            refine ai 32 rfl (by kernel_rfl) (by kernel_rfl) (by kernel_rfl) rfl HTW.out ?_
            go_simp
            refine ai 33 rfl (by kernel_rfl) (by kernel_rfl) (by kernel_rfl) rfl HTW.out ?_
            go_simp
            refine aG 34 (v:=.bool false) rfl (by kernel_rfl) rfl (fun W _=>by go_simp) HTW.out ?_
            go_simp
            refine aT 35 (v:=.bool false) rfl (by kernel_rfl) rfl (fun W _=>by go_simp) HTW.out ?_
            go_simp
            refine wpAnyH_done (by kernel_rfl) ?_ _
            simp only [endsIn]
            clear HTW
            go_wp2_with (first
             | ((with_reducible refine aa (some 161) (.load 3 (.tmp 160)) ?_);go_must (refine ae (.int .i64 4) rfl (ah 0 (.int .i64 4) (st.mem.get 2 rfl) rfl ak rfl) ?_))
             | ((with_reducible refine aa (some 187) (.load 32 (.tmp 11)) ?_);go_must (refine ae (.agg (modL M 24).toArray) rfl (ao 0 (modL M 24) (st.mem.get 1 rfl) rfl _ ax rfl 72 sz_mdl (Nat.le_of_eq (modL24 _).symm) (by rw [List.drop_zero,List.take_of_length_le (Nat.le_of_eq (modL24 _))])) ?_))
             | ((with_reducible refine aa none (.store 32 (.tmp 6) (.tmp 187)) ?_);go_must (refine aw (modL M 24) (st.mem.get 3 rfl) rfl rfl 72 sz_mdl (modL24 _) (modL24 _) (aH _ _) ?_);intro wb hub hrb;replace st:=st.updR 3 rfl hub hrb;clear hub hrb)
             | ((with_reducible refine aa (some 203) (.load 3 (.tmp 202)) ?_);go_must (refine ae (.int .i64 4) rfl (ah 0 (.int .i64 4) (st.mem.get 2 rfl) rfl ak rfl) ?_))
             | (go_at_call 7;go_must (refine (aN st 0 (by omega) (by omega) true (by decide)).mono ?_);rintro e wq ⟨rfl,st9⟩;replace st:=st9;clear st9)
             | ((with_reducible refine aa (some 249) (.load 32 (.tmp 6)) ?_);go_must (refine ae (.agg (modL M 24).toArray) rfl (ao 0 (modL M 24) (st.mem.get 3 rfl) rfl _ ax rfl 72 sz_mdl (Nat.le_of_eq (modL24 _).symm) (by rw [List.drop_zero,List.take_of_length_le (Nat.le_of_eq (modL24 _))])) ?_))
             | (go_at_call 15;go_must (refine (aV st HT.out HQT.out HMX.out).mono ?_);rintro e wq ⟨rfl,st9⟩;replace st:=st9;clear st9))
            go_roundw
            case rel=>exact ⟨i+1,sb,hb,t,M,by omega,by go_num,rfl,(st.tail.tail.tail).more (by omega),HPX.out,HMX.out⟩
            case measure=>simp [intOf];omega
         ·have W7:(wh==4)=false:=by simpa using hw4
          have W2:decide (wh≤3)=false:=decide_eq_false (by omega)
          by_cases hw5:5≤wh
          ·have W3:decide (5≤wh)=true:=decide_eq_true hw5
           have W4:¬wh≤3:=by omega
           as_aux_lemma =>
            have HMX:Hid (MB M):=HMB.out
            have HPX:Hid (t.puts≤i+1):=(show t.puts≤i+1 by have:=HPU.out;omega)
            go_wp2_with (first
             | ((with_reducible refine aa (some 65) (.load 3 (.tmp 64)) ?_);go_must (refine ae (.int .i64 wh) rfl (ah 0 (.int .i64 wh) (st.mem.get 1 rfl) rfl ak rfl) ?_))
             | ((with_reducible refine aa (some 86) (.load 3 (.tmp 85)) ?_);go_must (refine ae (.int .i64 wh) rfl (ah 0 (.int .i64 wh) (st.mem.get 1 rfl) rfl ak rfl) ?_))
             | ((with_reducible refine aa (some 97) (.load 3 (.tmp 96)) ?_);go_must (refine ae (.int .i64 wh) rfl (ah 0 (.int .i64 wh) (st.mem.get 1 rfl) rfl ak rfl) ?_))
             | ((with_reducible refine aa (some 161) (.load 3 (.tmp 160)) ?_);go_must (refine ae (.int .i64 wh) rfl (ah 0 (.int .i64 wh) (st.mem.get 1 rfl) rfl ak rfl) ?_))
             | ((with_reducible refine aa (some 187) (.load 32 (.tmp 11)) ?_);go_must (refine ae (.agg (modL M 24).toArray) rfl (ao 0 (modL M 24) (st.mem.get 0 rfl) rfl _ ax rfl 72 sz_mdl (Nat.le_of_eq (modL24 _).symm) (by rw [List.drop_zero,List.take_of_length_le (Nat.le_of_eq (modL24 _))])) ?_))
             | ((with_reducible refine aa none (.store 32 (.tmp 6) (.tmp 187)) ?_);go_must (refine aw (modL M 24) (st.mem.get 2 rfl) rfl rfl 72 sz_mdl (modL24 _) (modL24 _) (aH _ _) ?_);intro wb hub hrb;replace st:=st.updR 2 rfl hub hrb;clear hub hrb)
             | ((with_reducible refine aa (some 203) (.load 3 (.tmp 202)) ?_);go_must (refine ae (.int .i64 wh) rfl (ah 0 (.int .i64 wh) (st.mem.get 1 rfl) rfl ak rfl) ?_))
             | ((with_reducible refine aa (some 211) (.load 33 (.tmp 210)) ?_);go_must (refine ae (.slice p5 n5 c5) rfl (ah 5 (.slice p5 n5 c5) (st.mem.get 1 rfl) rfl ag_bsS rfl) ?_))
             | (go_at_call 13;go_must (refine (ez st ch _ HCB.out HCS.out).mono ?_);rintro e wq ⟨rfl,st9⟩;clear st;have st:=st9;clear st9)
             | (go_at_call 14;go_must (refine (fI st HT.out (by omega)).mono ?_);rintro e wo ⟨s2,h2,rfl,st9⟩;clear st;have st:=st9;clear st9)
             | (go_at_call 7;go_must (refine (aN st 0 (by omega) (by omega) true (by decide)).mono ?_);rintro e wq ⟨rfl,st9⟩;replace st:=st9;clear st9)
             | ((with_reducible refine aa (some 249) (.load 32 (.tmp 6)) ?_);go_must (refine ae (.agg (modL M 24).toArray) rfl (ao 0 (modL M 24) (st.mem.get 2 rfl) rfl _ ax rfl 72 sz_mdl (Nat.le_of_eq (modL24 _).symm) (by rw [List.drop_zero,List.take_of_length_le (Nat.le_of_eq (modL24 _))])) ?_))
             | (go_at_call 15;go_must (refine (aV st HT.out HQT.out HMX.out).mono ?_);rintro e wq ⟨rfl,st9⟩;replace st:=st9;clear st9))
            go_roundw
            case rel=>exact ⟨i+1,s2,h2,t,M,by omega,by go_num,rfl,(st.tail.tail).more (by omega),HPX.out,HMX.out⟩
            case measure=>simp [intOf];omega
          ·omega
      | false =>
       have HOK:Hid (okI ix=false):=ho
       clear ho
       by_cases hI0:0≤ix
       ·have hI24:¬ix<24:=by
         intro h9
         have h8:=HOK.out
         rw [okI,decide_eq_true ⟨hI0,h9⟩] at h8
         cases h8
        have hIb:decide (0≤ix)=true:=decide_eq_true hI0
        have hIc:decide (ix<24)=false:=decide_eq_false hI24
        go_wp2_with (first
         | ((with_reducible refine aa (some 39) (.indexAddr 22 (.tmp 37) (.tmp 38)) ?_);go_must (refine ae (.pointer (some ⟨b,o+i * 6,none⟩)) rfl (d4 i rfl rfl rfl hlt) ?_))
         | ((with_reducible refine aa (some 40) (.load 35 (.tmp 39)) ?_);go_must (refine ae (.agg ([.int .i64 wh,.int .i64 ix,.int .u8 x,.int .u8 y,.int .i64 pw,.slice p5 n5 c5]:List Value).toArray) rfl (exec_ld6 (o+i * 6) [.int .i64 wh,.int .i64 ix,.int .u8 x,.int .u8 y,.int .i64 pw,.slice p5 n5 c5] rfl (fun j v hv=>st.cell (HC.out j v hv)) rfl) ?_))
         | ((with_reducible refine aa (some 8) (.alloc 35) ?_);go_must (refine aC _ zero_stpS ?_);intro wa q8 hba hqa hra;replace st:=st.add hba hra hqa;clear hba hqa hra)
         | ((with_reducible refine aa none (.store 35 (.tmp 8) (.tmp 40)) ?_);go_must (refine aw [.int .i64 wh,.int .i64 ix,.int .u8 x,.int .u8 y,.int .i64 pw,.slice p5 n5 c5] (st.mem.get 0 rfl) rfl rfl 6 sz_stpS rfl rfl (by intro u hu;simp only [List.mem_cons,List.not_mem_nil,or_false] at hu;rcases hu with rfl|rfl|rfl|rfl|rfl|rfl<;>rfl) ?_);intro wb hub hrb;replace st:=st.updR 0 rfl hub hrb;clear hub hrb)
         | ((with_reducible refine aa (some 42) (.load 33 (.tmp 41)) ?_);go_must (refine ae (.slice p5 n5 c5) rfl (ah 5 (.slice p5 n5 c5) (st.mem.get 0 rfl) rfl ag_bsS rfl) ?_))
         | ((with_reducible refine aa (some 46) (.load 3 (.tmp 45)) ?_);go_must (refine ae (.int .i64 pw) rfl (ah 4 (.int .i64 pw) (st.mem.get 0 rfl) rfl ak rfl) ?_))
         | ((with_reducible refine aa (some 50) (.load 3 (.tmp 49)) ?_);go_must (refine ae (.int .i64 pw) rfl (ah 4 (.int .i64 pw) (st.mem.get 0 rfl) rfl ak rfl) ?_))
         | (go_at_call 7;go_must (refine (aN st (r+1) (by omega) (by omega) false (by rw [eq_comm];exact decide_eq_false (by omega))).mono ?_);rintro e wq ⟨rfl,st9⟩;replace st:=st9;clear st9)
         | ((with_reducible refine aa (some 55) (.load 3 (.tmp 54)) ?_);go_must (refine ae (.int .i64 ix) rfl (ah 1 (.int .i64 ix) (st.mem.get 0 rfl) rfl ak rfl) ?_))
         | ((with_reducible refine aa (some 62) (.load 32 (.tmp 6)) ?_);go_must (refine ae (.agg (modL M 24).toArray) rfl (ao 0 (modL M 24) (st.mem.get 1 rfl) rfl _ ax rfl 72 sz_mdl (Nat.le_of_eq (modL24 _).symm) (by rw [List.drop_zero,List.take_of_length_le (Nat.le_of_eq (modL24 _))])) ?_))
         | ((with_reducible refine aa (some 11) (.alloc 32) ?_);go_must (refine aC _ zero_mdl ?_);intro wa q11 hba hqa hra;replace st:=st.add hba hra hqa;clear hba hqa hra)
         | ((with_reducible refine aa none (.store 32 (.tmp 11) (.tmp 62)) ?_);go_must (refine aw (modL M 24) (st.mem.get 0 rfl) rfl rfl 72 sz_mdl (modL24 _) (modL24 _) (aH _ _) ?_);intro wb hub hrb;replace st:=st.updR 0 rfl hub hrb;clear hub hrb)
         | ((with_reducible refine aa (some 65) (.load 3 (.tmp 64)) ?_);refine rest_here ?_))
        intro _ _
        by_cases hw2:wh≤2
        ·have W1:decide (wh≤2)=true:=decide_eq_true hw2
         have W2:decide (wh≤3)=true:=decide_eq_true (by omega)
         have W3:decide (5≤wh)=false:=decide_eq_false (by omega)
         have W4:wh≤3:=by omega
         have W5:¬5≤wh:=by omega
         as_aux_lemma =>
          go_wp2_with (first
           | ((with_reducible refine aa (some 65) (.load 3 (.tmp 64)) ?_);go_must (refine ae (.int .i64 wh) rfl (ah 0 (.int .i64 wh) (st.mem.get 1 rfl) rfl ak rfl) ?_)))
          have HMX:Hid (MB M):=HMB.out
          have HPX:Hid (t.puts≤i+1):=(show t.puts≤i+1 by have:=HPU.out;omega)
          refine au ?_
          refine av (T:=fun W=>(Row W q8 [.int .i64 wh,.int .i64 ix,.int .u8 x,.int .u8 y,.int .i64 pw,.slice p5 n5 c5] 35)) (by kernel_rfl) st.mem ?_
          intro wz hbz hmz
          replace st:=st.below hbz
          have HTW:Hid (Row wz q8 [.int .i64 wh,.int .i64 ix,.int .u8 x,.int .u8 y,.int .i64 pw,.slice p5 n5 c5] 35):=st.mem.get 1 rfl
          clear hbz hmz
          refine aT 0 (v:=.pointer (some ⟨sb,0,none⟩)) rfl (by kernel_rfl) rfl (fun W _=>by go_simp) HTW.out ?_
          go_simp
          refine aT 1 (v:=.int .i64 ix) rfl (by kernel_rfl) rfl (fun W _=>by go_simp) HTW.out ?_
          go_simp
          refine aT 2 (v:=.pointer (some ⟨q8,2,none⟩)) rfl (by kernel_rfl) rfl (fun W _=>by go_simp) HTW.out ?_
          go_simp
          refine aT 3 (v:=.int .u8 x) rfl (by kernel_rfl) rfl (fun W hW=>ah 2 (.int .u8 x) hW rfl aY rfl) HTW.out ?_
          go_simp
          refine aT 5 (v:=.pointer (some ⟨q8,3,none⟩)) rfl (by kernel_rfl) rfl (fun W _=>by go_simp) HTW.out ?_
          go_simp
          refine aT 6 (v:=.int .u8 y) rfl (by kernel_rfl) rfl (fun W hW=>ah 3 (.int .u8 y) hW rfl aY rfl) HTW.out ?_
          go_simp
          refine aO 4 (by kernel_rfl) rfl rfl ?_
          intro K hK
          go_wp2_with ((go_at_call 9;refine (aZ _ _).mono ?_;rintro e wk ⟨rfl,hbk⟩;replace st:=st.below hbk;clear hbk HTW;have HTW:Hid (Row wk q8 [.int .i64 wh,.int .i64 ix,.int .u8 x,.int .u8 y,.int .i64 pw,.slice p5 n5 c5] 35):=st.mem.get 1 rfl))
          refine hK _ _ HTW.out ?_
          clear hK K
          go_simp
          refine aO 7 (by kernel_rfl) rfl rfl ?_
          intro K hK
          go_wp2_with ((go_at_call 9;refine (aZ _ _).mono ?_;rintro e wk ⟨rfl,hbk⟩;replace st:=st.below hbk;clear hbk HTW;have HTW:Hid (Row wk q8 [.int .i64 wh,.int .i64 ix,.int .u8 x,.int .u8 y,.int .i64 pw,.slice p5 n5 c5] 35):=st.mem.get 1 rfl))
          refine hK _ _ HTW.out ?_
          clear hK K
          go_simp
          refine aO 8 (by kernel_rfl) rfl rfl ?_
          intro K hK
          go_wp2_with ((go_at_call 8;go_must (refine (iK st ix HOK.out (keyB x) (keyB y)).mono ?_);rintro e wp ⟨rfl,st9⟩;replace st:=st9;clear st9;clear HTW;have HTW:Hid (Row wp q8 [.int .i64 wh,.int .i64 ix,.int .u8 x,.int .u8 y,.int .i64 pw,.slice p5 n5 c5] 35):=st.mem.get 1 rfl))
          refine hK _ _ HTW.out ?_
          clear hK K
          go_simp
          refine aT 9 (v:=.int .i64 70) rfl (by kernel_rfl) rfl (fun W _=>by go_simp) HTW.out ?_
          go_simp
          refine wpAnyH_done (by kernel_rfl) ?_ _
          simp only [endsIn]
          clear HTW
          go_wp2_with (first
           | ((with_reducible refine aa (some 161) (.load 3 (.tmp 160)) ?_);go_must (refine ae (.int .i64 wh) rfl (ah 0 (.int .i64 wh) (st.mem.get 1 rfl) rfl ak rfl) ?_))
           | ((with_reducible refine aa (some 173) (.load 32 (.tmp 6)) ?_);go_must (refine ae (.agg (modL M 24).toArray) rfl (ao 0 (modL M 24) (st.mem.get 2 rfl) rfl _ ax rfl 72 sz_mdl (Nat.le_of_eq (modL24 _).symm) (by rw [List.drop_zero,List.take_of_length_le (Nat.le_of_eq (modL24 _))])) ?_))
           | ((with_reducible refine aa none (.store 32 (.tmp 11) (.tmp 173)) ?_);go_must (refine aw (modL M 24) (st.mem.get 0 rfl) rfl rfl 72 sz_mdl (modL24 _) (modL24 _) (aH _ _) ?_);intro wb hub hrb;replace st:=st.updR 0 rfl hub hrb;clear hub hrb)
           | ((with_reducible refine aa (some 203) (.load 3 (.tmp 202)) ?_);go_must (refine ae (.int .i64 wh) rfl (ah 0 (.int .i64 wh) (st.mem.get 1 rfl) rfl ak rfl) ?_))
           | (go_at_call 7;go_must (refine (aN st 0 (by omega) (by omega) true (by decide)).mono ?_);rintro e wq ⟨rfl,st9⟩;replace st:=st9;clear st9)
           | ((with_reducible refine aa (some 249) (.load 32 (.tmp 6)) ?_);go_must (refine ae (.agg (modL M 24).toArray) rfl (ao 0 (modL M 24) (st.mem.get 2 rfl) rfl _ ax rfl 72 sz_mdl (Nat.le_of_eq (modL24 _).symm) (by rw [List.drop_zero,List.take_of_length_le (Nat.le_of_eq (modL24 _))])) ?_))
           | (go_at_call 15;go_must (refine (aV st HT.out HQT.out HMX.out).mono ?_);rintro e wq ⟨rfl,st9⟩;replace st:=st9;clear st9))
          go_roundw
          case rel=>exact ⟨i+1,sb,hb,t,M,by omega,by go_num,rfl,(st.tail.tail).more (by omega),HPX.out,HMX.out⟩
          case measure=>simp [intOf];omega
        ·have W1:decide (wh≤2)=false:=decide_eq_false hw2
         by_cases hw3:wh=3
         ·subst hw3
          clear hw2 W1
          as_aux_lemma =>
           have HMX:Hid (MB M):=HMB.out
           have HPX:Hid (t.puts≤i+1):=(show t.puts≤i+1 by have:=HPU.out;omega)
           go_wp2_with (first
            | ((with_reducible refine aa (some 65) (.load 3 (.tmp 64)) ?_);go_must (refine ae (.int .i64 3) rfl (ah 0 (.int .i64 3) (st.mem.get 1 rfl) rfl ak rfl) ?_))
            | ((with_reducible refine aa (some 86) (.load 3 (.tmp 85)) ?_);go_must (refine ae (.int .i64 3) rfl (ah 0 (.int .i64 3) (st.mem.get 1 rfl) rfl ak rfl) ?_))
            | (go_at_call 10;go_must (refine (iJ st ix HOK.out).mono ?_);rintro e wp ⟨rfl,st9⟩;replace st:=st9;clear st9)
            | ((with_reducible refine aa (some 161) (.load 3 (.tmp 160)) ?_);go_must (refine ae (.int .i64 3) rfl (ah 0 (.int .i64 3) (st.mem.get 1 rfl) rfl ak rfl) ?_))
            | ((with_reducible refine aa (some 173) (.load 32 (.tmp 6)) ?_);go_must (refine ae (.agg (modL M 24).toArray) rfl (ao 0 (modL M 24) (st.mem.get 2 rfl) rfl _ ax rfl 72 sz_mdl (Nat.le_of_eq (modL24 _).symm) (by rw [List.drop_zero,List.take_of_length_le (Nat.le_of_eq (modL24 _))])) ?_))
            | ((with_reducible refine aa none (.store 32 (.tmp 11) (.tmp 173)) ?_);go_must (refine aw (modL M 24) (st.mem.get 0 rfl) rfl rfl 72 sz_mdl (modL24 _) (modL24 _) (aH _ _) ?_);intro wb hub hrb;replace st:=st.updR 0 rfl hub hrb;clear hub hrb)
            | ((with_reducible refine aa (some 203) (.load 3 (.tmp 202)) ?_);go_must (refine ae (.int .i64 3) rfl (ah 0 (.int .i64 3) (st.mem.get 1 rfl) rfl ak rfl) ?_))
            | (go_at_call 7;go_must (refine (aN st 0 (by omega) (by omega) true (by decide)).mono ?_);rintro e wq ⟨rfl,st9⟩;replace st:=st9;clear st9)
            | ((with_reducible refine aa (some 249) (.load 32 (.tmp 6)) ?_);go_must (refine ae (.agg (modL M 24).toArray) rfl (ao 0 (modL M 24) (st.mem.get 2 rfl) rfl _ ax rfl 72 sz_mdl (Nat.le_of_eq (modL24 _).symm) (by rw [List.drop_zero,List.take_of_length_le (Nat.le_of_eq (modL24 _))])) ?_))
            | (go_at_call 15;go_must (refine (aV st HT.out HQT.out HMX.out).mono ?_);rintro e wq ⟨rfl,st9⟩;replace st:=st9;clear st9))
           go_roundw
           case rel=>exact ⟨i+1,sb,hb,t,M,by omega,by go_num,rfl,(st.tail.tail).more (by omega),HPX.out,HMX.out⟩
           case measure=>simp [intOf];omega
         ·have W6:(wh==3)=false:=by simpa using hw3
          by_cases hw4:wh=4
          ·subst hw4
           clear hw2 hw3 W1 W6
           obtain ⟨Z,hZ0⟩:∃Z,Z=zero32:=⟨_,rfl⟩
           have HZ:Hid (∀_:Unit,getV t.held ix (keyB x)=(Z,70)):=fun _=>by rw [hZ0];exact iG HOK.out _
           have HZL:Hid (∀_:Unit,Z.length=32):=fun _=>by rw [hZ0];rfl
           clear hZ0
           as_aux_lemma =>
            have HMX:Hid (MB M):=HMB.out
            have HPX:Hid (t.puts≤i+1):=(show t.puts≤i+1 by have:=HPU.out;omega)
            go_wp2_with (first
             | ((with_reducible refine aa (some 65) (.load 3 (.tmp 64)) ?_);go_must (refine ae (.int .i64 4) rfl (ah 0 (.int .i64 4) (st.mem.get 1 rfl) rfl ak rfl) ?_))
             | ((with_reducible refine aa (some 86) (.load 3 (.tmp 85)) ?_);go_must (refine ae (.int .i64 4) rfl (ah 0 (.int .i64 4) (st.mem.get 1 rfl) rfl ak rfl) ?_))
             | ((with_reducible refine aa (some 97) (.load 3 (.tmp 96)) ?_);go_must (refine ae (.int .i64 4) rfl (ah 0 (.int .i64 4) (st.mem.get 1 rfl) rfl ak rfl) ?_))
             | ((with_reducible refine aa (some 103) (.load 5 (.tmp 102)) ?_);go_must (refine ae (.int .u8 x) rfl (ah 2 (.int .u8 x) (st.mem.get 1 rfl) rfl aY rfl) ?_))
             | (go_at_call 9;refine (aZ _ _).mono ?_;rintro e wk ⟨rfl,hbk⟩;replace st:=st.below hbk;clear hbk)
             | (go_at_call 11;go_must (refine (eu st HT.out HQT.out ix x HXB.out Z 70 (HZ.out ())).mono ?_);rintro e wp ⟨rfl,st9⟩;replace st:=st9;clear st9)
             | ((with_reducible refine aa (some 13) (.alloc 39) ?_);go_must (refine aC _ bd ?_);intro wa q13 hba hqa hra;replace st:=st.add hba hra hqa;clear hba hqa hra)
             | ((with_reducible refine aa none (.store 39 (.tmp 13) (.tmp 106)) ?_);go_must (refine aw (u8s Z) (st.mem.get 0 rfl) rfl rfl 32 az (by simp [ab]) (by rw [ab,HZL.out ()]) (aq _) ?_);intro wb hub hrb;replace st:=st.updR 0 rfl hub hrb;clear hub hrb))
            refine au ?_
            refine av (T:=fun W=>(Row W q13 (u8s Z) 39∧Row W q8 [.int .i64 4,.int .i64 ix,.int .u8 x,.int .u8 y,.int .i64 pw,.slice p5 n5 c5] 35∧Row W q6 (modL M 24) 32)) (by kernel_rfl) st.mem ?_
            intro wz hbz hmz
            replace st:=st.below hbz
            have HTW:Hid (Row wz q13 (u8s Z) 39∧Row wz q8 [.int .i64 4,.int .i64 ix,.int .u8 x,.int .u8 y,.int .i64 pw,.slice p5 n5 c5] 35∧Row wz q6 (modL M 24) 32):=⟨st.mem.get 0 rfl,st.mem.get 2 rfl,st.mem.get 3 rfl⟩
            clear hbz hmz
            refine aT 0 (v:=.bool false) rfl (by kernel_rfl) rfl (fun W _=>by go_simp) HTW.out ?_
            go_simp
            refine aT 1 (v:=.bool false) rfl (by kernel_rfl) rfl (fun W _=>by go_simp) HTW.out ?_
            go_simp
            refine ai 2 rfl (by kernel_rfl) (by kernel_rfl) (by kernel_rfl) rfl HTW.out ?_
            go_simp
            refine ai 3 rfl (by kernel_rfl) (by kernel_rfl) (by kernel_rfl) rfl HTW.out ?_
            go_simp
            refine ai 4 rfl (by kernel_rfl) (by kernel_rfl) (by kernel_rfl) rfl HTW.out ?_
            go_simp
            refine ai 5 rfl (by kernel_rfl) (by kernel_rfl) (by kernel_rfl) rfl HTW.out ?_
            go_simp
            refine aT 6 (v:=.bool false) rfl (by kernel_rfl) rfl (fun W _=>by go_simp) HTW.out ?_
            go_simp
            refine aT 7 (v:=.bool false) rfl (by kernel_rfl) rfl (fun W _=>by go_simp) HTW.out ?_
            go_simp
            refine ai 8 rfl (by kernel_rfl) (by kernel_rfl) (by kernel_rfl) rfl HTW.out ?_
            go_simp
            refine ai 9 rfl (by kernel_rfl) (by kernel_rfl) (by kernel_rfl) rfl HTW.out ?_
            go_simp
            refine ai 10 rfl (by kernel_rfl) (by kernel_rfl) (by kernel_rfl) rfl HTW.out ?_
            go_simp
            refine ai 11 rfl (by kernel_rfl) (by kernel_rfl) (by kernel_rfl) rfl HTW.out ?_
            go_simp
            refine ai 12 rfl (by kernel_rfl) (by kernel_rfl) (by kernel_rfl) rfl HTW.out ?_
            go_simp
            refine ai 13 rfl (by kernel_rfl) (by kernel_rfl) (by kernel_rfl) rfl HTW.out ?_
            go_simp
            refine ai 14 rfl (by kernel_rfl) (by kernel_rfl) (by kernel_rfl) rfl HTW.out ?_
            go_simp
            refine aT 15 (v:=.bool false) rfl (by kernel_rfl) rfl (fun W _=>by go_simp) HTW.out ?_
            go_simp
            refine aT 16 (v:=.bool false) rfl (by kernel_rfl) rfl (fun W _=>by go_simp) HTW.out ?_
            go_simp
            refine wpAnyH_done (by kernel_rfl) ?_ _
            simp only [endsIn]
            clear HTW
            go_wp2_with fail
            refine au ?_
            refine av (T:=fun W=>(Row W q13 (u8s Z) 39∧Row W q8 [.int .i64 4,.int .i64 ix,.int .u8 x,.int .u8 y,.int .i64 pw,.slice p5 n5 c5] 35∧Row W q6 (modL M 24) 32)) (by kernel_rfl) st.mem ?_
            intro wz hbz hmz
            replace st:=st.below hbz
            have HTW:Hid (Row wz q13 (u8s Z) 39∧Row wz q8 [.int .i64 4,.int .i64 ix,.int .u8 x,.int .u8 y,.int .i64 pw,.slice p5 n5 c5] 35∧Row wz q6 (modL M 24) 32):=⟨st.mem.get 0 rfl,st.mem.get 2 rfl,st.mem.get 3 rfl⟩
            clear hbz hmz
            refine aT 0 (v:=.bool false) rfl (by kernel_rfl) rfl (fun W _=>by go_simp) HTW.out ?_
            go_simp
            refine aT 1 (v:=.bool false) rfl (by kernel_rfl) rfl (fun W _=>by go_simp) HTW.out ?_
            go_simp
            refine ai 2 rfl (by kernel_rfl) (by kernel_rfl) (by kernel_rfl) rfl HTW.out ?_
            go_simp
            refine ai 3 rfl (by kernel_rfl) (by kernel_rfl) (by kernel_rfl) rfl HTW.out ?_
            go_simp
            refine ai 4 rfl (by kernel_rfl) (by kernel_rfl) (by kernel_rfl) rfl HTW.out ?_
            go_simp
            refine ai 5 rfl (by kernel_rfl) (by kernel_rfl) (by kernel_rfl) rfl HTW.out ?_
            go_simp
            refine ai 6 rfl (by kernel_rfl) (by kernel_rfl) (by kernel_rfl) rfl HTW.out ?_
            go_simp
            refine ai 7 rfl (by kernel_rfl) (by kernel_rfl) (by kernel_rfl) rfl HTW.out ?_
            go_simp
            refine ai 8 rfl (by kernel_rfl) (by kernel_rfl) (by kernel_rfl) rfl HTW.out ?_
            go_simp
            refine ai 9 rfl (by kernel_rfl) (by kernel_rfl) (by kernel_rfl) rfl HTW.out ?_
            go_simp
            refine ai 10 rfl (by kernel_rfl) (by kernel_rfl) (by kernel_rfl) rfl HTW.out ?_
            go_simp
            refine ai 11 rfl (by kernel_rfl) (by kernel_rfl) (by kernel_rfl) rfl HTW.out ?_
            go_simp
            refine ai 12 rfl (by kernel_rfl) (by kernel_rfl) (by kernel_rfl) rfl HTW.out ?_
            go_simp
            refine aT 13 (v:=.bool false) rfl (by kernel_rfl) rfl (fun W _=>by go_simp) HTW.out ?_
            go_simp
            refine aT 14 (v:=.bool false) rfl (by kernel_rfl) rfl (fun W _=>by go_simp) HTW.out ?_
            go_simp
            refine aG 15 (v:=.bool false) rfl (by kernel_rfl) rfl (fun W _=>by go_simp) HTW.out ?_
            go_simp
            refine aG 16 (v:=.bool false) rfl (by kernel_rfl) rfl (fun W _=>by go_simp) HTW.out ?_
            go_simp
            refine ai 17 rfl (by kernel_rfl) (by kernel_rfl) (by kernel_rfl) rfl HTW.out ?_
            go_simp
            refine ai 18 rfl (by kernel_rfl) (by kernel_rfl) (by kernel_rfl) rfl HTW.out ?_
            go_simp
            refine ai 19 rfl (by kernel_rfl) (by kernel_rfl) (by kernel_rfl) rfl HTW.out ?_
            go_simp
            refine ai 20 rfl (by kernel_rfl) (by kernel_rfl) (by kernel_rfl) rfl HTW.out ?_
            go_simp
            refine ai 21 rfl (by kernel_rfl) (by kernel_rfl) (by kernel_rfl) rfl HTW.out ?_
            go_simp
            refine aG 22 (v:=.bool false) rfl (by kernel_rfl) rfl (fun W _=>by go_simp) HTW.out ?_
            go_simp
            refine aG 23 (v:=.bool false) rfl (by kernel_rfl) rfl (fun W _=>by go_simp) HTW.out ?_
            go_simp
            refine ai 24 rfl (by kernel_rfl) (by kernel_rfl) (by kernel_rfl) rfl HTW.out ?_
            go_simp
            refine ai 25 rfl (by kernel_rfl) (by kernel_rfl) (by kernel_rfl) rfl HTW.out ?_
            go_simp
            refine aG 26 (v:=.bool false) rfl (by kernel_rfl) rfl (fun W _=>by go_simp) HTW.out ?_
            go_simp
            refine aT 27 (v:=.bool false) rfl (by kernel_rfl) rfl (fun W _=>by go_simp) HTW.out ?_
            go_simp
            refine aT 28 (v:=.bool false) rfl (by kernel_rfl) rfl (fun W _=>by go_simp) HTW.out ?_
            go_simp
            refine aG 29 (v:=.bool false) rfl (by kernel_rfl) rfl (fun W _=>by go_simp) HTW.out ?_
            go_simp
            refine aG 30 (v:=.bool true) rfl (by kernel_rfl) rfl (fun W _=>by go_simp) HTW.out ?_
            go_simp
            refine aG 31 (v:=.bool true) rfl (by kernel_rfl) rfl (fun W _=>by go_simp) HTW.out ?_
            go_simp
            refine aG 32 (v:=.int .i64 70) rfl (by kernel_rfl) rfl (fun W _=>by go_simp) HTW.out ?_
            go_simp
            refine aG 33 (v:=.bool false) rfl (by kernel_rfl) rfl (fun W _=>by go_simp) HTW.out ?_
            go_simp
            refine aG 34 (v:=.bool false) rfl (by kernel_rfl) rfl (fun W _=>by go_simp) HTW.out ?_
            go_simp
            refine aT 35 (v:=.bool false) rfl (by kernel_rfl) rfl (fun W _=>by go_simp) HTW.out ?_
            go_simp
            refine wpAnyH_done (by kernel_rfl) ?_ _
            simp only [endsIn]
            clear HTW
            go_wp2_with (first
             | ((with_reducible refine aa (some 161) (.load 3 (.tmp 160)) ?_);go_must (refine ae (.int .i64 4) rfl (ah 0 (.int .i64 4) (st.mem.get 2 rfl) rfl ak rfl) ?_))
             | ((with_reducible refine aa (some 187) (.load 32 (.tmp 11)) ?_);go_must (refine ae (.agg (modL M 24).toArray) rfl (ao 0 (modL M 24) (st.mem.get 1 rfl) rfl _ ax rfl 72 sz_mdl (Nat.le_of_eq (modL24 _).symm) (by rw [List.drop_zero,List.take_of_length_le (Nat.le_of_eq (modL24 _))])) ?_))
             | ((with_reducible refine aa none (.store 32 (.tmp 6) (.tmp 187)) ?_);go_must (refine aw (modL M 24) (st.mem.get 3 rfl) rfl rfl 72 sz_mdl (modL24 _) (modL24 _) (aH _ _) ?_);intro wb hub hrb;replace st:=st.updR 3 rfl hub hrb;clear hub hrb)
             | ((with_reducible refine aa (some 203) (.load 3 (.tmp 202)) ?_);go_must (refine ae (.int .i64 4) rfl (ah 0 (.int .i64 4) (st.mem.get 2 rfl) rfl ak rfl) ?_))
             | (go_at_call 7;go_must (refine (aN st 0 (by omega) (by omega) true (by decide)).mono ?_);rintro e wq ⟨rfl,st9⟩;replace st:=st9;clear st9)
             | ((with_reducible refine aa (some 249) (.load 32 (.tmp 6)) ?_);go_must (refine ae (.agg (modL M 24).toArray) rfl (ao 0 (modL M 24) (st.mem.get 3 rfl) rfl _ ax rfl 72 sz_mdl (Nat.le_of_eq (modL24 _).symm) (by rw [List.drop_zero,List.take_of_length_le (Nat.le_of_eq (modL24 _))])) ?_))
             | (go_at_call 15;go_must (refine (aV st HT.out HQT.out HMX.out).mono ?_);rintro e wq ⟨rfl,st9⟩;replace st:=st9;clear st9))
            go_roundw
            case rel=>exact ⟨i+1,sb,hb,t,M,by omega,by go_num,rfl,(st.tail.tail.tail).more (by omega),HPX.out,HMX.out⟩
            case measure=>simp [intOf];omega
          ·have W7:(wh==4)=false:=by simpa using hw4
           have W2:decide (wh≤3)=false:=decide_eq_false (by omega)
           by_cases hw5:5≤wh
           ·have W3:decide (5≤wh)=true:=decide_eq_true hw5
            have W4:¬wh≤3:=by omega
            as_aux_lemma =>
             have HMX:Hid (MB M):=HMB.out
             have HPX:Hid (t.puts≤i+1):=(show t.puts≤i+1 by have:=HPU.out;omega)
             go_wp2_with (first
              | ((with_reducible refine aa (some 65) (.load 3 (.tmp 64)) ?_);go_must (refine ae (.int .i64 wh) rfl (ah 0 (.int .i64 wh) (st.mem.get 1 rfl) rfl ak rfl) ?_))
              | ((with_reducible refine aa (some 86) (.load 3 (.tmp 85)) ?_);go_must (refine ae (.int .i64 wh) rfl (ah 0 (.int .i64 wh) (st.mem.get 1 rfl) rfl ak rfl) ?_))
              | ((with_reducible refine aa (some 97) (.load 3 (.tmp 96)) ?_);go_must (refine ae (.int .i64 wh) rfl (ah 0 (.int .i64 wh) (st.mem.get 1 rfl) rfl ak rfl) ?_))
              | ((with_reducible refine aa (some 161) (.load 3 (.tmp 160)) ?_);go_must (refine ae (.int .i64 wh) rfl (ah 0 (.int .i64 wh) (st.mem.get 1 rfl) rfl ak rfl) ?_))
              | ((with_reducible refine aa (some 187) (.load 32 (.tmp 11)) ?_);go_must (refine ae (.agg (modL M 24).toArray) rfl (ao 0 (modL M 24) (st.mem.get 0 rfl) rfl _ ax rfl 72 sz_mdl (Nat.le_of_eq (modL24 _).symm) (by rw [List.drop_zero,List.take_of_length_le (Nat.le_of_eq (modL24 _))])) ?_))
              | ((with_reducible refine aa none (.store 32 (.tmp 6) (.tmp 187)) ?_);go_must (refine aw (modL M 24) (st.mem.get 2 rfl) rfl rfl 72 sz_mdl (modL24 _) (modL24 _) (aH _ _) ?_);intro wb hub hrb;replace st:=st.updR 2 rfl hub hrb;clear hub hrb)
              | ((with_reducible refine aa (some 203) (.load 3 (.tmp 202)) ?_);go_must (refine ae (.int .i64 wh) rfl (ah 0 (.int .i64 wh) (st.mem.get 1 rfl) rfl ak rfl) ?_))
              | ((with_reducible refine aa (some 211) (.load 33 (.tmp 210)) ?_);go_must (refine ae (.slice p5 n5 c5) rfl (ah 5 (.slice p5 n5 c5) (st.mem.get 1 rfl) rfl ag_bsS rfl) ?_))
              | (go_at_call 13;go_must (refine (ez st ch _ HCB.out HCS.out).mono ?_);rintro e wq ⟨rfl,st9⟩;clear st;have st:=st9;clear st9)
              | (go_at_call 14;go_must (refine (fI st HT.out (by omega)).mono ?_);rintro e wo ⟨s2,h2,rfl,st9⟩;clear st;have st:=st9;clear st9)
              | (go_at_call 7;go_must (refine (aN st 0 (by omega) (by omega) true (by decide)).mono ?_);rintro e wq ⟨rfl,st9⟩;replace st:=st9;clear st9)
              | ((with_reducible refine aa (some 249) (.load 32 (.tmp 6)) ?_);go_must (refine ae (.agg (modL M 24).toArray) rfl (ao 0 (modL M 24) (st.mem.get 2 rfl) rfl _ ax rfl 72 sz_mdl (Nat.le_of_eq (modL24 _).symm) (by rw [List.drop_zero,List.take_of_length_le (Nat.le_of_eq (modL24 _))])) ?_))
              | (go_at_call 15;go_must (refine (aV st HT.out HQT.out HMX.out).mono ?_);rintro e wq ⟨rfl,st9⟩;replace st:=st9;clear st9))
             go_roundw
             case rel=>exact ⟨i+1,s2,h2,t,M,by omega,by go_num,rfl,(st.tail.tail).more (by omega),HPX.out,HMX.out⟩
             case measure=>simp [intOf];omega
           ·omega
       ·have hIb:decide (0≤ix)=false:=decide_eq_false hI0
        go_wp2_with (first
         | ((with_reducible refine aa (some 39) (.indexAddr 22 (.tmp 37) (.tmp 38)) ?_);go_must (refine ae (.pointer (some ⟨b,o+i * 6,none⟩)) rfl (d4 i rfl rfl rfl hlt) ?_))
         | ((with_reducible refine aa (some 40) (.load 35 (.tmp 39)) ?_);go_must (refine ae (.agg ([.int .i64 wh,.int .i64 ix,.int .u8 x,.int .u8 y,.int .i64 pw,.slice p5 n5 c5]:List Value).toArray) rfl (exec_ld6 (o+i * 6) [.int .i64 wh,.int .i64 ix,.int .u8 x,.int .u8 y,.int .i64 pw,.slice p5 n5 c5] rfl (fun j v hv=>st.cell (HC.out j v hv)) rfl) ?_))
         | ((with_reducible refine aa (some 8) (.alloc 35) ?_);go_must (refine aC _ zero_stpS ?_);intro wa q8 hba hqa hra;replace st:=st.add hba hra hqa;clear hba hqa hra)
         | ((with_reducible refine aa none (.store 35 (.tmp 8) (.tmp 40)) ?_);go_must (refine aw [.int .i64 wh,.int .i64 ix,.int .u8 x,.int .u8 y,.int .i64 pw,.slice p5 n5 c5] (st.mem.get 0 rfl) rfl rfl 6 sz_stpS rfl rfl (by intro u hu;simp only [List.mem_cons,List.not_mem_nil,or_false] at hu;rcases hu with rfl|rfl|rfl|rfl|rfl|rfl<;>rfl) ?_);intro wb hub hrb;replace st:=st.updR 0 rfl hub hrb;clear hub hrb)
         | ((with_reducible refine aa (some 42) (.load 33 (.tmp 41)) ?_);go_must (refine ae (.slice p5 n5 c5) rfl (ah 5 (.slice p5 n5 c5) (st.mem.get 0 rfl) rfl ag_bsS rfl) ?_))
         | ((with_reducible refine aa (some 46) (.load 3 (.tmp 45)) ?_);go_must (refine ae (.int .i64 pw) rfl (ah 4 (.int .i64 pw) (st.mem.get 0 rfl) rfl ak rfl) ?_))
         | ((with_reducible refine aa (some 50) (.load 3 (.tmp 49)) ?_);go_must (refine ae (.int .i64 pw) rfl (ah 4 (.int .i64 pw) (st.mem.get 0 rfl) rfl ak rfl) ?_))
         | (go_at_call 7;go_must (refine (aN st (r+1) (by omega) (by omega) false (by rw [eq_comm];exact decide_eq_false (by omega))).mono ?_);rintro e wq ⟨rfl,st9⟩;replace st:=st9;clear st9)
         | ((with_reducible refine aa (some 55) (.load 3 (.tmp 54)) ?_);go_must (refine ae (.int .i64 ix) rfl (ah 1 (.int .i64 ix) (st.mem.get 0 rfl) rfl ak rfl) ?_))
         | ((with_reducible refine aa (some 62) (.load 32 (.tmp 6)) ?_);go_must (refine ae (.agg (modL M 24).toArray) rfl (ao 0 (modL M 24) (st.mem.get 1 rfl) rfl _ ax rfl 72 sz_mdl (Nat.le_of_eq (modL24 _).symm) (by rw [List.drop_zero,List.take_of_length_le (Nat.le_of_eq (modL24 _))])) ?_))
         | ((with_reducible refine aa (some 11) (.alloc 32) ?_);go_must (refine aC _ zero_mdl ?_);intro wa q11 hba hqa hra;replace st:=st.add hba hra hqa;clear hba hqa hra)
         | ((with_reducible refine aa none (.store 32 (.tmp 11) (.tmp 62)) ?_);go_must (refine aw (modL M 24) (st.mem.get 0 rfl) rfl rfl 72 sz_mdl (modL24 _) (modL24 _) (aH _ _) ?_);intro wb hub hrb;replace st:=st.updR 0 rfl hub hrb;clear hub hrb)
         | ((with_reducible refine aa (some 65) (.load 3 (.tmp 64)) ?_);refine rest_here ?_))
        intro _ _
        by_cases hw2:wh≤2
        ·have W1:decide (wh≤2)=true:=decide_eq_true hw2
         have W2:decide (wh≤3)=true:=decide_eq_true (by omega)
         have W3:decide (5≤wh)=false:=decide_eq_false (by omega)
         have W4:wh≤3:=by omega
         have W5:¬5≤wh:=by omega
         as_aux_lemma =>
          go_wp2_with (first
           | ((with_reducible refine aa (some 65) (.load 3 (.tmp 64)) ?_);go_must (refine ae (.int .i64 wh) rfl (ah 0 (.int .i64 wh) (st.mem.get 1 rfl) rfl ak rfl) ?_)))
          have HMX:Hid (MB M):=HMB.out
          have HPX:Hid (t.puts≤i+1):=(show t.puts≤i+1 by have:=HPU.out;omega)
          refine au ?_
          refine av (T:=fun W=>(Row W q8 [.int .i64 wh,.int .i64 ix,.int .u8 x,.int .u8 y,.int .i64 pw,.slice p5 n5 c5] 35)) (by kernel_rfl) st.mem ?_
          intro wz hbz hmz
          replace st:=st.below hbz
          have HTW:Hid (Row wz q8 [.int .i64 wh,.int .i64 ix,.int .u8 x,.int .u8 y,.int .i64 pw,.slice p5 n5 c5] 35):=st.mem.get 1 rfl
          clear hbz hmz
          refine aT 0 (v:=.pointer (some ⟨sb,0,none⟩)) rfl (by kernel_rfl) rfl (fun W _=>by go_simp) HTW.out ?_
          go_simp
          refine aT 1 (v:=.int .i64 ix) rfl (by kernel_rfl) rfl (fun W _=>by go_simp) HTW.out ?_
          go_simp
          refine aT 2 (v:=.pointer (some ⟨q8,2,none⟩)) rfl (by kernel_rfl) rfl (fun W _=>by go_simp) HTW.out ?_
          go_simp
          refine aT 3 (v:=.int .u8 x) rfl (by kernel_rfl) rfl (fun W hW=>ah 2 (.int .u8 x) hW rfl aY rfl) HTW.out ?_
          go_simp
          refine aT 5 (v:=.pointer (some ⟨q8,3,none⟩)) rfl (by kernel_rfl) rfl (fun W _=>by go_simp) HTW.out ?_
          go_simp
          refine aT 6 (v:=.int .u8 y) rfl (by kernel_rfl) rfl (fun W hW=>ah 3 (.int .u8 y) hW rfl aY rfl) HTW.out ?_
          go_simp
          refine aO 4 (by kernel_rfl) rfl rfl ?_
          intro K hK
          go_wp2_with ((go_at_call 9;refine (aZ _ _).mono ?_;rintro e wk ⟨rfl,hbk⟩;replace st:=st.below hbk;clear hbk HTW;have HTW:Hid (Row wk q8 [.int .i64 wh,.int .i64 ix,.int .u8 x,.int .u8 y,.int .i64 pw,.slice p5 n5 c5] 35):=st.mem.get 1 rfl))
          refine hK _ _ HTW.out ?_
          clear hK K
          go_simp
          refine aO 7 (by kernel_rfl) rfl rfl ?_
          intro K hK
          go_wp2_with ((go_at_call 9;refine (aZ _ _).mono ?_;rintro e wk ⟨rfl,hbk⟩;replace st:=st.below hbk;clear hbk HTW;have HTW:Hid (Row wk q8 [.int .i64 wh,.int .i64 ix,.int .u8 x,.int .u8 y,.int .i64 pw,.slice p5 n5 c5] 35):=st.mem.get 1 rfl))
          refine hK _ _ HTW.out ?_
          clear hK K
          go_simp
          refine aO 8 (by kernel_rfl) rfl rfl ?_
          intro K hK
          go_wp2_with ((go_at_call 8;go_must (refine (iK st ix HOK.out (keyB x) (keyB y)).mono ?_);rintro e wp ⟨rfl,st9⟩;replace st:=st9;clear st9;clear HTW;have HTW:Hid (Row wp q8 [.int .i64 wh,.int .i64 ix,.int .u8 x,.int .u8 y,.int .i64 pw,.slice p5 n5 c5] 35):=st.mem.get 1 rfl))
          refine hK _ _ HTW.out ?_
          clear hK K
          go_simp
          refine aT 9 (v:=.int .i64 70) rfl (by kernel_rfl) rfl (fun W _=>by go_simp) HTW.out ?_
          go_simp
          refine wpAnyH_done (by kernel_rfl) ?_ _
          simp only [endsIn]
          clear HTW
          go_wp2_with (first
           | ((with_reducible refine aa (some 161) (.load 3 (.tmp 160)) ?_);go_must (refine ae (.int .i64 wh) rfl (ah 0 (.int .i64 wh) (st.mem.get 1 rfl) rfl ak rfl) ?_))
           | ((with_reducible refine aa (some 173) (.load 32 (.tmp 6)) ?_);go_must (refine ae (.agg (modL M 24).toArray) rfl (ao 0 (modL M 24) (st.mem.get 2 rfl) rfl _ ax rfl 72 sz_mdl (Nat.le_of_eq (modL24 _).symm) (by rw [List.drop_zero,List.take_of_length_le (Nat.le_of_eq (modL24 _))])) ?_))
           | ((with_reducible refine aa none (.store 32 (.tmp 11) (.tmp 173)) ?_);go_must (refine aw (modL M 24) (st.mem.get 0 rfl) rfl rfl 72 sz_mdl (modL24 _) (modL24 _) (aH _ _) ?_);intro wb hub hrb;replace st:=st.updR 0 rfl hub hrb;clear hub hrb)
           | ((with_reducible refine aa (some 203) (.load 3 (.tmp 202)) ?_);go_must (refine ae (.int .i64 wh) rfl (ah 0 (.int .i64 wh) (st.mem.get 1 rfl) rfl ak rfl) ?_))
           | (go_at_call 7;go_must (refine (aN st 0 (by omega) (by omega) true (by decide)).mono ?_);rintro e wq ⟨rfl,st9⟩;replace st:=st9;clear st9)
           | ((with_reducible refine aa (some 249) (.load 32 (.tmp 6)) ?_);go_must (refine ae (.agg (modL M 24).toArray) rfl (ao 0 (modL M 24) (st.mem.get 2 rfl) rfl _ ax rfl 72 sz_mdl (Nat.le_of_eq (modL24 _).symm) (by rw [List.drop_zero,List.take_of_length_le (Nat.le_of_eq (modL24 _))])) ?_))
           | (go_at_call 15;go_must (refine (aV st HT.out HQT.out HMX.out).mono ?_);rintro e wq ⟨rfl,st9⟩;replace st:=st9;clear st9))
          go_roundw
          case rel=>exact ⟨i+1,sb,hb,t,M,by omega,by go_num,rfl,(st.tail.tail).more (by omega),HPX.out,HMX.out⟩
          case measure=>simp [intOf];omega
        ·have W1:decide (wh≤2)=false:=decide_eq_false hw2
         by_cases hw3:wh=3
         ·subst hw3
          clear hw2 W1
          as_aux_lemma =>
           have HMX:Hid (MB M):=HMB.out
           have HPX:Hid (t.puts≤i+1):=(show t.puts≤i+1 by have:=HPU.out;omega)
           go_wp2_with (first
            | ((with_reducible refine aa (some 65) (.load 3 (.tmp 64)) ?_);go_must (refine ae (.int .i64 3) rfl (ah 0 (.int .i64 3) (st.mem.get 1 rfl) rfl ak rfl) ?_))
            | ((with_reducible refine aa (some 86) (.load 3 (.tmp 85)) ?_);go_must (refine ae (.int .i64 3) rfl (ah 0 (.int .i64 3) (st.mem.get 1 rfl) rfl ak rfl) ?_))
            | (go_at_call 10;go_must (refine (iJ st ix HOK.out).mono ?_);rintro e wp ⟨rfl,st9⟩;replace st:=st9;clear st9)
            | ((with_reducible refine aa (some 161) (.load 3 (.tmp 160)) ?_);go_must (refine ae (.int .i64 3) rfl (ah 0 (.int .i64 3) (st.mem.get 1 rfl) rfl ak rfl) ?_))
            | ((with_reducible refine aa (some 173) (.load 32 (.tmp 6)) ?_);go_must (refine ae (.agg (modL M 24).toArray) rfl (ao 0 (modL M 24) (st.mem.get 2 rfl) rfl _ ax rfl 72 sz_mdl (Nat.le_of_eq (modL24 _).symm) (by rw [List.drop_zero,List.take_of_length_le (Nat.le_of_eq (modL24 _))])) ?_))
            | ((with_reducible refine aa none (.store 32 (.tmp 11) (.tmp 173)) ?_);go_must (refine aw (modL M 24) (st.mem.get 0 rfl) rfl rfl 72 sz_mdl (modL24 _) (modL24 _) (aH _ _) ?_);intro wb hub hrb;replace st:=st.updR 0 rfl hub hrb;clear hub hrb)
            | ((with_reducible refine aa (some 203) (.load 3 (.tmp 202)) ?_);go_must (refine ae (.int .i64 3) rfl (ah 0 (.int .i64 3) (st.mem.get 1 rfl) rfl ak rfl) ?_))
            | (go_at_call 7;go_must (refine (aN st 0 (by omega) (by omega) true (by decide)).mono ?_);rintro e wq ⟨rfl,st9⟩;replace st:=st9;clear st9)
            | ((with_reducible refine aa (some 249) (.load 32 (.tmp 6)) ?_);go_must (refine ae (.agg (modL M 24).toArray) rfl (ao 0 (modL M 24) (st.mem.get 2 rfl) rfl _ ax rfl 72 sz_mdl (Nat.le_of_eq (modL24 _).symm) (by rw [List.drop_zero,List.take_of_length_le (Nat.le_of_eq (modL24 _))])) ?_))
            | (go_at_call 15;go_must (refine (aV st HT.out HQT.out HMX.out).mono ?_);rintro e wq ⟨rfl,st9⟩;replace st:=st9;clear st9))
           go_roundw
           case rel=>exact ⟨i+1,sb,hb,t,M,by omega,by go_num,rfl,(st.tail.tail).more (by omega),HPX.out,HMX.out⟩
           case measure=>simp [intOf];omega
         ·have W6:(wh==3)=false:=by simpa using hw3
          by_cases hw4:wh=4
          ·subst hw4
           clear hw2 hw3 W1 W6
           obtain ⟨Z,hZ0⟩:∃Z,Z=zero32:=⟨_,rfl⟩
           have HZ:Hid (∀_:Unit,getV t.held ix (keyB x)=(Z,70)):=fun _=>by rw [hZ0];exact iG HOK.out _
           have HZL:Hid (∀_:Unit,Z.length=32):=fun _=>by rw [hZ0];rfl
           clear hZ0
           as_aux_lemma =>
            have HMX:Hid (MB M):=HMB.out
            have HPX:Hid (t.puts≤i+1):=(show t.puts≤i+1 by have:=HPU.out;omega)
            go_wp2_with (first
             | ((with_reducible refine aa (some 65) (.load 3 (.tmp 64)) ?_);go_must (refine ae (.int .i64 4) rfl (ah 0 (.int .i64 4) (st.mem.get 1 rfl) rfl ak rfl) ?_))
             | ((with_reducible refine aa (some 86) (.load 3 (.tmp 85)) ?_);go_must (refine ae (.int .i64 4) rfl (ah 0 (.int .i64 4) (st.mem.get 1 rfl) rfl ak rfl) ?_))
             | ((with_reducible refine aa (some 97) (.load 3 (.tmp 96)) ?_);go_must (refine ae (.int .i64 4) rfl (ah 0 (.int .i64 4) (st.mem.get 1 rfl) rfl ak rfl) ?_))
             | ((with_reducible refine aa (some 103) (.load 5 (.tmp 102)) ?_);go_must (refine ae (.int .u8 x) rfl (ah 2 (.int .u8 x) (st.mem.get 1 rfl) rfl aY rfl) ?_))
             | (go_at_call 9;refine (aZ _ _).mono ?_;rintro e wk ⟨rfl,hbk⟩;replace st:=st.below hbk;clear hbk)
             | (go_at_call 11;go_must (refine (eu st HT.out HQT.out ix x HXB.out Z 70 (HZ.out ())).mono ?_);rintro e wp ⟨rfl,st9⟩;replace st:=st9;clear st9)
             | ((with_reducible refine aa (some 13) (.alloc 39) ?_);go_must (refine aC _ bd ?_);intro wa q13 hba hqa hra;replace st:=st.add hba hra hqa;clear hba hqa hra)
             | ((with_reducible refine aa none (.store 39 (.tmp 13) (.tmp 106)) ?_);go_must (refine aw (u8s Z) (st.mem.get 0 rfl) rfl rfl 32 az (by simp [ab]) (by rw [ab,HZL.out ()]) (aq _) ?_);intro wb hub hrb;replace st:=st.updR 0 rfl hub hrb;clear hub hrb))
            refine au ?_
            refine av (T:=fun W=>(Row W q13 (u8s Z) 39∧Row W q8 [.int .i64 4,.int .i64 ix,.int .u8 x,.int .u8 y,.int .i64 pw,.slice p5 n5 c5] 35∧Row W q6 (modL M 24) 32)) (by kernel_rfl) st.mem ?_
            intro wz hbz hmz
            replace st:=st.below hbz
            have HTW:Hid (Row wz q13 (u8s Z) 39∧Row wz q8 [.int .i64 4,.int .i64 ix,.int .u8 x,.int .u8 y,.int .i64 pw,.slice p5 n5 c5] 35∧Row wz q6 (modL M 24) 32):=⟨st.mem.get 0 rfl,st.mem.get 2 rfl,st.mem.get 3 rfl⟩
            clear hbz hmz
            refine aT 0 (v:=.bool false) rfl (by kernel_rfl) rfl (fun W _=>by go_simp) HTW.out ?_
            go_simp
            refine aT 1 (v:=.bool false) rfl (by kernel_rfl) rfl (fun W _=>by go_simp) HTW.out ?_
            go_simp
            refine ai 2 rfl (by kernel_rfl) (by kernel_rfl) (by kernel_rfl) rfl HTW.out ?_
            go_simp
            refine ai 3 rfl (by kernel_rfl) (by kernel_rfl) (by kernel_rfl) rfl HTW.out ?_
            go_simp
            refine ai 4 rfl (by kernel_rfl) (by kernel_rfl) (by kernel_rfl) rfl HTW.out ?_
            go_simp
            refine ai 5 rfl (by kernel_rfl) (by kernel_rfl) (by kernel_rfl) rfl HTW.out ?_
            go_simp
            refine aT 6 (v:=.bool false) rfl (by kernel_rfl) rfl (fun W _=>by go_simp) HTW.out ?_
            go_simp
            refine aT 7 (v:=.bool false) rfl (by kernel_rfl) rfl (fun W _=>by go_simp) HTW.out ?_
            go_simp
            refine ai 8 rfl (by kernel_rfl) (by kernel_rfl) (by kernel_rfl) rfl HTW.out ?_
            go_simp
            refine ai 9 rfl (by kernel_rfl) (by kernel_rfl) (by kernel_rfl) rfl HTW.out ?_
            go_simp
            refine ai 10 rfl (by kernel_rfl) (by kernel_rfl) (by kernel_rfl) rfl HTW.out ?_
            go_simp
            refine ai 11 rfl (by kernel_rfl) (by kernel_rfl) (by kernel_rfl) rfl HTW.out ?_
            go_simp
            refine ai 12 rfl (by kernel_rfl) (by kernel_rfl) (by kernel_rfl) rfl HTW.out ?_
            go_simp
            refine ai 13 rfl (by kernel_rfl) (by kernel_rfl) (by kernel_rfl) rfl HTW.out ?_
            go_simp
            refine ai 14 rfl (by kernel_rfl) (by kernel_rfl) (by kernel_rfl) rfl HTW.out ?_
            go_simp
            refine aT 15 (v:=.bool false) rfl (by kernel_rfl) rfl (fun W _=>by go_simp) HTW.out ?_
            go_simp
            refine aT 16 (v:=.bool false) rfl (by kernel_rfl) rfl (fun W _=>by go_simp) HTW.out ?_
            go_simp
            refine wpAnyH_done (by kernel_rfl) ?_ _
            simp only [endsIn]
            clear HTW
            go_wp2_with fail
            refine au ?_
            refine av (T:=fun W=>(Row W q13 (u8s Z) 39∧Row W q8 [.int .i64 4,.int .i64 ix,.int .u8 x,.int .u8 y,.int .i64 pw,.slice p5 n5 c5] 35∧Row W q6 (modL M 24) 32)) (by kernel_rfl) st.mem ?_
            intro wz hbz hmz
            replace st:=st.below hbz
            have HTW:Hid (Row wz q13 (u8s Z) 39∧Row wz q8 [.int .i64 4,.int .i64 ix,.int .u8 x,.int .u8 y,.int .i64 pw,.slice p5 n5 c5] 35∧Row wz q6 (modL M 24) 32):=⟨st.mem.get 0 rfl,st.mem.get 2 rfl,st.mem.get 3 rfl⟩
            clear hbz hmz
            refine aT 0 (v:=.bool false) rfl (by kernel_rfl) rfl (fun W _=>by go_simp) HTW.out ?_
            go_simp
            refine aT 1 (v:=.bool false) rfl (by kernel_rfl) rfl (fun W _=>by go_simp) HTW.out ?_
            go_simp
            refine ai 2 rfl (by kernel_rfl) (by kernel_rfl) (by kernel_rfl) rfl HTW.out ?_
            go_simp
            refine ai 3 rfl (by kernel_rfl) (by kernel_rfl) (by kernel_rfl) rfl HTW.out ?_
            go_simp
            refine ai 4 rfl (by kernel_rfl) (by kernel_rfl) (by kernel_rfl) rfl HTW.out ?_
            go_simp
            refine ai 5 rfl (by kernel_rfl) (by kernel_rfl) (by kernel_rfl) rfl HTW.out ?_
            go_simp
            refine ai 6 rfl (by kernel_rfl) (by kernel_rfl) (by kernel_rfl) rfl HTW.out ?_
            go_simp
            refine ai 7 rfl (by kernel_rfl) (by kernel_rfl) (by kernel_rfl) rfl HTW.out ?_
            go_simp
            refine ai 8 rfl (by kernel_rfl) (by kernel_rfl) (by kernel_rfl) rfl HTW.out ?_
            go_simp
            refine ai 9 rfl (by kernel_rfl) (by kernel_rfl) (by kernel_rfl) rfl HTW.out ?_
            go_simp
            refine ai 10 rfl (by kernel_rfl) (by kernel_rfl) (by kernel_rfl) rfl HTW.out ?_
            go_simp
            refine ai 11 rfl (by kernel_rfl) (by kernel_rfl) (by kernel_rfl) rfl HTW.out ?_
            go_simp
            refine ai 12 rfl (by kernel_rfl) (by kernel_rfl) (by kernel_rfl) rfl HTW.out ?_
            go_simp
            refine aT 13 (v:=.bool false) rfl (by kernel_rfl) rfl (fun W _=>by go_simp) HTW.out ?_
            go_simp
            refine aT 14 (v:=.bool false) rfl (by kernel_rfl) rfl (fun W _=>by go_simp) HTW.out ?_
            go_simp
            refine aG 15 (v:=.bool false) rfl (by kernel_rfl) rfl (fun W _=>by go_simp) HTW.out ?_
            go_simp
            refine aG 16 (v:=.bool false) rfl (by kernel_rfl) rfl (fun W _=>by go_simp) HTW.out ?_
            go_simp
            refine ai 17 rfl (by kernel_rfl) (by kernel_rfl) (by kernel_rfl) rfl HTW.out ?_
            go_simp
            refine ai 18 rfl (by kernel_rfl) (by kernel_rfl) (by kernel_rfl) rfl HTW.out ?_
            go_simp
            refine ai 19 rfl (by kernel_rfl) (by kernel_rfl) (by kernel_rfl) rfl HTW.out ?_
            go_simp
            refine ai 20 rfl (by kernel_rfl) (by kernel_rfl) (by kernel_rfl) rfl HTW.out ?_
            go_simp
            refine ai 21 rfl (by kernel_rfl) (by kernel_rfl) (by kernel_rfl) rfl HTW.out ?_
            go_simp
            refine aG 22 (v:=.bool false) rfl (by kernel_rfl) rfl (fun W _=>by go_simp) HTW.out ?_
            go_simp
            refine aG 23 (v:=.bool false) rfl (by kernel_rfl) rfl (fun W _=>by go_simp) HTW.out ?_
            go_simp
            refine ai 24 rfl (by kernel_rfl) (by kernel_rfl) (by kernel_rfl) rfl HTW.out ?_
            go_simp
            refine ai 25 rfl (by kernel_rfl) (by kernel_rfl) (by kernel_rfl) rfl HTW.out ?_
            go_simp
            refine aG 26 (v:=.bool false) rfl (by kernel_rfl) rfl (fun W _=>by go_simp) HTW.out ?_
            go_simp
            refine aT 27 (v:=.bool false) rfl (by kernel_rfl) rfl (fun W _=>by go_simp) HTW.out ?_
            go_simp
            refine aT 28 (v:=.bool false) rfl (by kernel_rfl) rfl (fun W _=>by go_simp) HTW.out ?_
            go_simp
            refine aG 29 (v:=.bool false) rfl (by kernel_rfl) rfl (fun W _=>by go_simp) HTW.out ?_
            go_simp
            refine aG 30 (v:=.bool true) rfl (by kernel_rfl) rfl (fun W _=>by go_simp) HTW.out ?_
            go_simp
            refine aG 31 (v:=.bool true) rfl (by kernel_rfl) rfl (fun W _=>by go_simp) HTW.out ?_
            go_simp
            refine aG 32 (v:=.int .i64 70) rfl (by kernel_rfl) rfl (fun W _=>by go_simp) HTW.out ?_
            go_simp
            refine aG 33 (v:=.bool false) rfl (by kernel_rfl) rfl (fun W _=>by go_simp) HTW.out ?_
            go_simp
            refine aG 34 (v:=.bool false) rfl (by kernel_rfl) rfl (fun W _=>by go_simp) HTW.out ?_
            go_simp
            refine aT 35 (v:=.bool false) rfl (by kernel_rfl) rfl (fun W _=>by go_simp) HTW.out ?_
            go_simp
            refine wpAnyH_done (by kernel_rfl) ?_ _
            simp only [endsIn]
            clear HTW
            go_wp2_with (first
             | ((with_reducible refine aa (some 161) (.load 3 (.tmp 160)) ?_);go_must (refine ae (.int .i64 4) rfl (ah 0 (.int .i64 4) (st.mem.get 2 rfl) rfl ak rfl) ?_))
             | ((with_reducible refine aa (some 187) (.load 32 (.tmp 11)) ?_);go_must (refine ae (.agg (modL M 24).toArray) rfl (ao 0 (modL M 24) (st.mem.get 1 rfl) rfl _ ax rfl 72 sz_mdl (Nat.le_of_eq (modL24 _).symm) (by rw [List.drop_zero,List.take_of_length_le (Nat.le_of_eq (modL24 _))])) ?_))
             | ((with_reducible refine aa none (.store 32 (.tmp 6) (.tmp 187)) ?_);go_must (refine aw (modL M 24) (st.mem.get 3 rfl) rfl rfl 72 sz_mdl (modL24 _) (modL24 _) (aH _ _) ?_);intro wb hub hrb;replace st:=st.updR 3 rfl hub hrb;clear hub hrb)
             | ((with_reducible refine aa (some 203) (.load 3 (.tmp 202)) ?_);go_must (refine ae (.int .i64 4) rfl (ah 0 (.int .i64 4) (st.mem.get 2 rfl) rfl ak rfl) ?_))
             | (go_at_call 7;go_must (refine (aN st 0 (by omega) (by omega) true (by decide)).mono ?_);rintro e wq ⟨rfl,st9⟩;replace st:=st9;clear st9)
             | ((with_reducible refine aa (some 249) (.load 32 (.tmp 6)) ?_);go_must (refine ae (.agg (modL M 24).toArray) rfl (ao 0 (modL M 24) (st.mem.get 3 rfl) rfl _ ax rfl 72 sz_mdl (Nat.le_of_eq (modL24 _).symm) (by rw [List.drop_zero,List.take_of_length_le (Nat.le_of_eq (modL24 _))])) ?_))
             | (go_at_call 15;go_must (refine (aV st HT.out HQT.out HMX.out).mono ?_);rintro e wq ⟨rfl,st9⟩;replace st:=st9;clear st9))
            go_roundw
            case rel=>exact ⟨i+1,sb,hb,t,M,by omega,by go_num,rfl,(st.tail.tail.tail).more (by omega),HPX.out,HMX.out⟩
            case measure=>simp [intOf];omega
          ·have W7:(wh==4)=false:=by simpa using hw4
           have W2:decide (wh≤3)=false:=decide_eq_false (by omega)
           by_cases hw5:5≤wh
           ·have W3:decide (5≤wh)=true:=decide_eq_true hw5
            have W4:¬wh≤3:=by omega
            as_aux_lemma =>
             have HMX:Hid (MB M):=HMB.out
             have HPX:Hid (t.puts≤i+1):=(show t.puts≤i+1 by have:=HPU.out;omega)
             go_wp2_with (first
              | ((with_reducible refine aa (some 65) (.load 3 (.tmp 64)) ?_);go_must (refine ae (.int .i64 wh) rfl (ah 0 (.int .i64 wh) (st.mem.get 1 rfl) rfl ak rfl) ?_))
              | ((with_reducible refine aa (some 86) (.load 3 (.tmp 85)) ?_);go_must (refine ae (.int .i64 wh) rfl (ah 0 (.int .i64 wh) (st.mem.get 1 rfl) rfl ak rfl) ?_))
              | ((with_reducible refine aa (some 97) (.load 3 (.tmp 96)) ?_);go_must (refine ae (.int .i64 wh) rfl (ah 0 (.int .i64 wh) (st.mem.get 1 rfl) rfl ak rfl) ?_))
              | ((with_reducible refine aa (some 161) (.load 3 (.tmp 160)) ?_);go_must (refine ae (.int .i64 wh) rfl (ah 0 (.int .i64 wh) (st.mem.get 1 rfl) rfl ak rfl) ?_))
              | ((with_reducible refine aa (some 187) (.load 32 (.tmp 11)) ?_);go_must (refine ae (.agg (modL M 24).toArray) rfl (ao 0 (modL M 24) (st.mem.get 0 rfl) rfl _ ax rfl 72 sz_mdl (Nat.le_of_eq (modL24 _).symm) (by rw [List.drop_zero,List.take_of_length_le (Nat.le_of_eq (modL24 _))])) ?_))
              | ((with_reducible refine aa none (.store 32 (.tmp 6) (.tmp 187)) ?_);go_must (refine aw (modL M 24) (st.mem.get 2 rfl) rfl rfl 72 sz_mdl (modL24 _) (modL24 _) (aH _ _) ?_);intro wb hub hrb;replace st:=st.updR 2 rfl hub hrb;clear hub hrb)
              | ((with_reducible refine aa (some 203) (.load 3 (.tmp 202)) ?_);go_must (refine ae (.int .i64 wh) rfl (ah 0 (.int .i64 wh) (st.mem.get 1 rfl) rfl ak rfl) ?_))
              | ((with_reducible refine aa (some 211) (.load 33 (.tmp 210)) ?_);go_must (refine ae (.slice p5 n5 c5) rfl (ah 5 (.slice p5 n5 c5) (st.mem.get 1 rfl) rfl ag_bsS rfl) ?_))
              | (go_at_call 13;go_must (refine (ez st ch _ HCB.out HCS.out).mono ?_);rintro e wq ⟨rfl,st9⟩;clear st;have st:=st9;clear st9)
              | (go_at_call 14;go_must (refine (fI st HT.out (by omega)).mono ?_);rintro e wo ⟨s2,h2,rfl,st9⟩;clear st;have st:=st9;clear st9)
              | (go_at_call 7;go_must (refine (aN st 0 (by omega) (by omega) true (by decide)).mono ?_);rintro e wq ⟨rfl,st9⟩;replace st:=st9;clear st9)
              | ((with_reducible refine aa (some 249) (.load 32 (.tmp 6)) ?_);go_must (refine ae (.agg (modL M 24).toArray) rfl (ao 0 (modL M 24) (st.mem.get 2 rfl) rfl _ ax rfl 72 sz_mdl (Nat.le_of_eq (modL24 _).symm) (by rw [List.drop_zero,List.take_of_length_le (Nat.le_of_eq (modL24 _))])) ?_))
              | (go_at_call 15;go_must (refine (aV st HT.out HQT.out HMX.out).mono ?_);rintro e wq ⟨rfl,st9⟩;replace st:=st9;clear st9))
             go_roundw
             case rel=>exact ⟨i+1,s2,h2,t,M,by omega,by go_num,rfl,(st.tail.tail).more (by omega),HPX.out,HMX.out⟩
             case measure=>simp [intOf];omega
           ·omega
     ·have hp1:decide (0<pw)=false:=decide_eq_false hpw
      have hp2:decide (pw≤0)=true:=decide_eq_true (by omega)
      cases ho:okI ix with
      | true =>
       obtain ⟨a,hIa,ha⟩:=okI_nat ho
       subst hIa
       have haI:(a:Int)<24:=by omega
       have ha0:(0:Int)≤(a:Int):=by omega
       obtain ⟨M1,hM1⟩:∃M1,M1=upf M a (true,x,y):=⟨_,rfl⟩
       obtain ⟨M0,hM0⟩:∃M0,M0=upf M a (false,0,0):=⟨_,rfl⟩
       have HM1E:Hid (∀_:Unit,M1=upf M a (true,x,y)):=fun _=>hM1
       have HM0E:Hid (∀_:Unit,M0=upf M a (false,0,0)):=fun _=>hM0
       have HM1:Hid (MB M1):=by rw [hM1];exact HMB.out.upf a _ ⟨HXB.out,HYB.out⟩
       have HM0:Hid (MB M0):=by rw [hM0];exact HMB.out.upf a _ (by simp)
       have HSET1:Hid (∀_:Unit,splice (modL M 24) (a * 3) (slV (true,x,y))=modL M1 24):=fun _=>by rw [hM1];exact fh M a _ 24 ha
       have HSET0:Hid (∀_:Unit,splice (modL M 24) (a * 3) (slV (false,0,0))=modL M0 24):=fun _=>by rw [hM0];exact fh M a _ 24 ha
       clear hM1 hM0 ho
       go_wp2_with (first
        | ((with_reducible refine aa (some 39) (.indexAddr 22 (.tmp 37) (.tmp 38)) ?_);go_must (refine ae (.pointer (some ⟨b,o+i * 6,none⟩)) rfl (d4 i rfl rfl rfl hlt) ?_))
        | ((with_reducible refine aa (some 40) (.load 35 (.tmp 39)) ?_);go_must (refine ae (.agg ([.int .i64 wh,.int .i64 (a:Int),.int .u8 x,.int .u8 y,.int .i64 pw,.slice p5 n5 c5]:List Value).toArray) rfl (exec_ld6 (o+i * 6) [.int .i64 wh,.int .i64 (a:Int),.int .u8 x,.int .u8 y,.int .i64 pw,.slice p5 n5 c5] rfl (fun j v hv=>st.cell (HC.out j v hv)) rfl) ?_))
        | ((with_reducible refine aa (some 8) (.alloc 35) ?_);go_must (refine aC _ zero_stpS ?_);intro wa q8 hba hqa hra;replace st:=st.add hba hra hqa;clear hba hqa hra)
        | ((with_reducible refine aa none (.store 35 (.tmp 8) (.tmp 40)) ?_);go_must (refine aw [.int .i64 wh,.int .i64 (a:Int),.int .u8 x,.int .u8 y,.int .i64 pw,.slice p5 n5 c5] (st.mem.get 0 rfl) rfl rfl 6 sz_stpS rfl rfl (by intro u hu;simp only [List.mem_cons,List.not_mem_nil,or_false] at hu;rcases hu with rfl|rfl|rfl|rfl|rfl|rfl<;>rfl) ?_);intro wb hub hrb;replace st:=st.updR 0 rfl hub hrb;clear hub hrb)
        | ((with_reducible refine aa (some 42) (.load 33 (.tmp 41)) ?_);go_must (refine ae (.slice p5 n5 c5) rfl (ah 5 (.slice p5 n5 c5) (st.mem.get 0 rfl) rfl ag_bsS rfl) ?_))
        | ((with_reducible refine aa (some 46) (.load 3 (.tmp 45)) ?_);go_must (refine ae (.int .i64 pw) rfl (ah 4 (.int .i64 pw) (st.mem.get 0 rfl) rfl ak rfl) ?_))
        | ((with_reducible refine aa (some 55) (.load 3 (.tmp 54)) ?_);go_must (refine ae (.int .i64 (a:Int)) rfl (ah 1 (.int .i64 (a:Int)) (st.mem.get 0 rfl) rfl ak rfl) ?_))
        | ((with_reducible refine aa (some 62) (.load 32 (.tmp 6)) ?_);go_must (refine ae (.agg (modL M 24).toArray) rfl (ao 0 (modL M 24) (st.mem.get 1 rfl) rfl _ ax rfl 72 sz_mdl (Nat.le_of_eq (modL24 _).symm) (by rw [List.drop_zero,List.take_of_length_le (Nat.le_of_eq (modL24 _))])) ?_))
        | ((with_reducible refine aa (some 11) (.alloc 32) ?_);go_must (refine aC _ zero_mdl ?_);intro wa q11 hba hqa hra;replace st:=st.add hba hra hqa;clear hba hqa hra)
        | ((with_reducible refine aa none (.store 32 (.tmp 11) (.tmp 62)) ?_);go_must (refine aw (modL M 24) (st.mem.get 0 rfl) rfl rfl 72 sz_mdl (modL24 _) (modL24 _) (aH _ _) ?_);intro wb hub hrb;replace st:=st.updR 0 rfl hub hrb;clear hub hrb)
        | ((with_reducible refine aa (some 65) (.load 3 (.tmp 64)) ?_);refine rest_here ?_))
       intro _ _
       by_cases hw2:wh≤2
       ·have W1:decide (wh≤2)=true:=decide_eq_true hw2
        have W2:decide (wh≤3)=true:=decide_eq_true (by omega)
        have W3:decide (5≤wh)=false:=decide_eq_false (by omega)
        have W4:wh≤3:=by omega
        have W5:¬5≤wh:=by omega
        as_aux_lemma =>
         go_wp2_with (first
          | ((with_reducible refine aa (some 65) (.load 3 (.tmp 64)) ?_);go_must (refine ae (.int .i64 wh) rfl (ah 0 (.int .i64 wh) (st.mem.get 1 rfl) rfl ak rfl) ?_)))
         refine au ?_
         refine av (T:=fun W=>(Row W q8 [.int .i64 wh,.int .i64 (a:Int),.int .u8 x,.int .u8 y,.int .i64 pw,.slice p5 n5 c5] 35)) (by kernel_rfl) st.mem ?_
         intro wz hbz hmz
         replace st:=st.below hbz
         have HTW:Hid (Row wz q8 [.int .i64 wh,.int .i64 (a:Int),.int .u8 x,.int .u8 y,.int .i64 pw,.slice p5 n5 c5] 35):=st.mem.get 1 rfl
         clear hbz hmz
         refine aT 0 (v:=.pointer (some ⟨sb,0,none⟩)) rfl (by kernel_rfl) rfl (fun W _=>by go_simp) HTW.out ?_
         go_simp
         refine aT 1 (v:=.int .i64 (a:Int)) rfl (by kernel_rfl) rfl (fun W _=>by go_simp) HTW.out ?_
         go_simp
         refine aT 2 (v:=.pointer (some ⟨q8,2,none⟩)) rfl (by kernel_rfl) rfl (fun W _=>by go_simp) HTW.out ?_
         go_simp
         refine aT 3 (v:=.int .u8 x) rfl (by kernel_rfl) rfl (fun W hW=>ah 2 (.int .u8 x) hW rfl aY rfl) HTW.out ?_
         go_simp
         refine aT 5 (v:=.pointer (some ⟨q8,3,none⟩)) rfl (by kernel_rfl) rfl (fun W _=>by go_simp) HTW.out ?_
         go_simp
         refine aT 6 (v:=.int .u8 y) rfl (by kernel_rfl) rfl (fun W hW=>ah 3 (.int .u8 y) hW rfl aY rfl) HTW.out ?_
         go_simp
         refine aO 4 (by kernel_rfl) rfl rfl ?_
         intro K hK
         go_wp2_with ((go_at_call 9;refine (aZ _ _).mono ?_;rintro e wk ⟨rfl,hbk⟩;replace st:=st.below hbk;clear hbk HTW;have HTW:Hid (Row wk q8 [.int .i64 wh,.int .i64 (a:Int),.int .u8 x,.int .u8 y,.int .i64 pw,.slice p5 n5 c5] 35):=st.mem.get 1 rfl))
         refine hK _ _ HTW.out ?_
         clear hK K
         go_simp
         refine aO 7 (by kernel_rfl) rfl rfl ?_
         intro K hK
         go_wp2_with ((go_at_call 9;refine (aZ _ _).mono ?_;rintro e wk ⟨rfl,hbk⟩;replace st:=st.below hbk;clear hbk HTW;have HTW:Hid (Row wk q8 [.int .i64 wh,.int .i64 (a:Int),.int .u8 x,.int .u8 y,.int .i64 pw,.slice p5 n5 c5] 35):=st.mem.get 1 rfl))
         refine hK _ _ HTW.out ?_
         clear hK K
         go_simp
         refine aO 8 (by kernel_rfl) rfl rfl ?_
         intro K hK
         go_wp2_with ((go_at_call 8;go_must (refine (pn_put st HT.out HQT.out (by omega) (by have:=HPU.out;omega) a ha x y HXB.out HYB.out).mono ?_);intro e wp hh;obtain ⟨f,he,hpo⟩:∃f,e=.returned (.int .i64 f)∧Po w wp g mb kv sb hb true t a (some (entN t a (keyB x) (keyB y))) (1000+6000 * i+1000) (upf M a (true,x,y)) [(q11,modL M 24,32),(q8,[.int .i64 wh,.int .i64 (a:Int),.int .u8 x,.int .u8 y,.int .i64 pw,.slice p5 n5 c5],35),(q6,modL M 24,32)] f:=hh.elim (fun h=>⟨0,h.1,Or.inl ⟨rfl,h.2⟩⟩) (fun h=>⟨61,h.2.1,Or.inr ⟨h.1,rfl,h.2.2⟩⟩);subst he;have HPO:Hid (Po w wp g mb kv sb hb true t a (some (entN t a (keyB x) (keyB y))) (1000+6000 * i+1000) (upf M a (true,x,y)) [(q11,modL M 24,32),(q8,[.int .i64 wh,.int .i64 (a:Int),.int .u8 x,.int .u8 y,.int .i64 pw,.slice p5 n5 c5],35),(q6,modL M 24,32)] f):=hpo;clear hh hpo st HTW;have HTW:Hid (Row wp q8 [.int .i64 wh,.int .i64 (a:Int),.int .u8 x,.int .u8 y,.int .i64 pw,.slice p5 n5 c5] 35):=HPO.out.mem.get 1 rfl))
         refine hK _ _ HTW.out ?_
         clear hK K
         go_simp
         refine aT 9 (v:=.int .i64 f) rfl (by kernel_rfl) rfl (fun W _=>by go_simp) HTW.out ?_
         go_simp
         refine wpAnyH_done (by kernel_rfl) ?_ _
         simp only [endsIn]
         clear HTW
         rcases HPO.out with ⟨hf,t1,st,hp1⟩|⟨hbf,hf,st⟩
         ·subst hf
          rw [←HM1E.out ()] at st
          have HMX:Hid (MB M1):=HM1.out
          have HPX:Hid (t1.puts≤i+1):=(show t1.puts≤i+1 by have:=HPU.out;omega)
          clear HPO hp1
          go_wp2_with (first
           | ((with_reducible refine aa (some 79) (.load 5 (.tmp 78)) ?_);go_must (refine ae (.int .u8 x) rfl (ah 2 (.int .u8 x) (st.mem.get 1 rfl) rfl aY rfl) ?_))
           | ((with_reducible refine aa (some 81) (.load 5 (.tmp 80)) ?_);go_must (refine ae (.int .u8 y) rfl (ah 3 (.int .u8 y) (st.mem.get 1 rfl) rfl aY rfl) ?_))
           | ((with_reducible refine aa (some 82) (.build 31 #[(0,.const (.bool true)),(1,.tmp 79),(2,.tmp 81)]) ?_);go_must (refine aM (slV (true,x,y)) [(0,.bool true),(1,.int .u8 x),(2,.int .u8 y)] rfl (built_sl1 x y) ?_))
           | ((with_reducible refine aa (some 83) (.indexAddr 32 (.tmp 11) (.tmp 77)) ?_);go_must (refine ae (.pointer (some ⟨q11,a * 3,none⟩)) rfl (aE a rfl rfl rfl ha) ?_))
           | ((with_reducible refine aa none (.store 31 (.tmp 83) (.tmp 82)) ?_);go_must (refine wpl_stsV (a * 3) (slV (true,x,y)) (modL M1 24) (st.mem.get 0 rfl) rfl rfl 3 sz_slt rfl (by rw [bz];omega) (ed _) (HSET1.out ()) ?_);intro wb hub hrb;replace st:=st.updR 0 rfl hub hrb;clear hub hrb)
           | ((with_reducible refine aa (some 161) (.load 3 (.tmp 160)) ?_);go_must (refine ae (.int .i64 wh) rfl (ah 0 (.int .i64 wh) (st.mem.get 1 rfl) rfl ak rfl) ?_))
           | ((with_reducible refine aa (some 187) (.load 32 (.tmp 11)) ?_);go_must (refine ae (.agg (modL M1 24).toArray) rfl (ao 0 (modL M1 24) (st.mem.get 0 rfl) rfl _ ax rfl 72 sz_mdl (Nat.le_of_eq (modL24 _).symm) (by rw [List.drop_zero,List.take_of_length_le (Nat.le_of_eq (modL24 _))])) ?_))
           | ((with_reducible refine aa none (.store 32 (.tmp 6) (.tmp 187)) ?_);go_must (refine aw (modL M1 24) (st.mem.get 2 rfl) rfl rfl 72 sz_mdl (modL24 _) (modL24 _) (aH _ _) ?_);intro wb hub hrb;replace st:=st.updR 2 rfl hub hrb;clear hub hrb)
           | ((with_reducible refine aa (some 203) (.load 3 (.tmp 202)) ?_);go_must (refine ae (.int .i64 wh) rfl (ah 0 (.int .i64 wh) (st.mem.get 1 rfl) rfl ak rfl) ?_))
           | (go_at_call 7;go_must (refine (aN st 0 (by omega) (by omega) true (by decide)).mono ?_);rintro e wq ⟨rfl,st9⟩;replace st:=st9;clear st9)
           | ((with_reducible refine aa (some 249) (.load 32 (.tmp 6)) ?_);go_must (refine ae (.agg (modL M1 24).toArray) rfl (ao 0 (modL M1 24) (st.mem.get 2 rfl) rfl _ ax rfl 72 sz_mdl (Nat.le_of_eq (modL24 _).symm) (by rw [List.drop_zero,List.take_of_length_le (Nat.le_of_eq (modL24 _))])) ?_))
           | (go_at_call 15;go_must (refine (aV st HT.out HQT.out HMX.out).mono ?_);rintro e wq ⟨rfl,st9⟩;replace st:=st9;clear st9))
          go_roundw
          case rel=>exact ⟨i+1,sb,hb,t1,M1,by omega,by go_num,rfl,(st.tail.tail).more (by omega),HPX.out,HMX.out⟩
          case measure=>simp [intOf];omega
         ·cases hbf
       ·have W1:decide (wh≤2)=false:=decide_eq_false hw2
        by_cases hw3:wh=3
        ·subst hw3
         clear hw2 W1
         as_aux_lemma =>
          go_wp2_with (first
           | ((with_reducible refine aa (some 65) (.load 3 (.tmp 64)) ?_);go_must (refine ae (.int .i64 3) rfl (ah 0 (.int .i64 3) (st.mem.get 1 rfl) rfl ak rfl) ?_))
           | ((with_reducible refine aa (some 86) (.load 3 (.tmp 85)) ?_);go_must (refine ae (.int .i64 3) rfl (ah 0 (.int .i64 3) (st.mem.get 1 rfl) rfl ak rfl) ?_))
           | (go_at_call 10;go_must (refine (pn_erase st (by omega) a ha).mono ?_);intro e wp hh;obtain ⟨f,he,hpo⟩:∃f,e=.returned (.int .i64 f)∧Po w wp g mb kv sb hb true t a none (1000+6000 * i+1000) (upf M a (false,0,0)) [(q11,modL M 24,32),(q8,[.int .i64 3,.int .i64 (a:Int),.int .u8 x,.int .u8 y,.int .i64 pw,.slice p5 n5 c5],35),(q6,modL M 24,32)] f:=hh.elim (fun h=>⟨0,h.1,Or.inl ⟨rfl,h.2.choose,h.2.choose_spec.1,Nat.le_succ_of_le h.2.choose_spec.2⟩⟩) (fun h=>⟨61,h.2.1,Or.inr ⟨h.1,rfl,h.2.2⟩⟩);subst he;have HPO:Hid (Po w wp g mb kv sb hb true t a none (1000+6000 * i+1000) (upf M a (false,0,0)) [(q11,modL M 24,32),(q8,[.int .i64 3,.int .i64 (a:Int),.int .u8 x,.int .u8 y,.int .i64 pw,.slice p5 n5 c5],35),(q6,modL M 24,32)] f):=hpo;clear hh hpo st)
           | ((with_reducible refine aa (some 93) (.build 31 #[]) ?_);refine rest_here ?_))
          intro _ _
          rcases HPO.out with ⟨hf,t1,st,hp1⟩|⟨hbf,hf,st⟩
          ·subst hf
           rw [←HM0E.out ()] at st
           have HMX:Hid (MB M0):=HM0.out
           have HPX:Hid (t1.puts≤i+1):=(show t1.puts≤i+1 by have:=HPU.out;omega)
           clear HPO hp1
           go_wp2_with (first
            | ((with_reducible refine aa (some 93) (.build 31 #[]) ?_);go_must (refine aM (slV (false,0,0)) [] rfl built_sl0 ?_))
            | ((with_reducible refine aa (some 94) (.indexAddr 32 (.tmp 11) (.tmp 92)) ?_);go_must (refine ae (.pointer (some ⟨q11,a * 3,none⟩)) rfl (aE a rfl rfl rfl ha) ?_))
            | ((with_reducible refine aa none (.store 31 (.tmp 94) (.tmp 93)) ?_);go_must (refine wpl_stsV (a * 3) (slV (false,0,0)) (modL M0 24) (st.mem.get 0 rfl) rfl rfl 3 sz_slt rfl (by rw [bz];omega) (ed _) (HSET0.out ()) ?_);intro wb hub hrb;replace st:=st.updR 0 rfl hub hrb;clear hub hrb)
            | ((with_reducible refine aa (some 161) (.load 3 (.tmp 160)) ?_);go_must (refine ae (.int .i64 3) rfl (ah 0 (.int .i64 3) (st.mem.get 1 rfl) rfl ak rfl) ?_))
            | ((with_reducible refine aa (some 187) (.load 32 (.tmp 11)) ?_);go_must (refine ae (.agg (modL M0 24).toArray) rfl (ao 0 (modL M0 24) (st.mem.get 0 rfl) rfl _ ax rfl 72 sz_mdl (Nat.le_of_eq (modL24 _).symm) (by rw [List.drop_zero,List.take_of_length_le (Nat.le_of_eq (modL24 _))])) ?_))
            | ((with_reducible refine aa none (.store 32 (.tmp 6) (.tmp 187)) ?_);go_must (refine aw (modL M0 24) (st.mem.get 2 rfl) rfl rfl 72 sz_mdl (modL24 _) (modL24 _) (aH _ _) ?_);intro wb hub hrb;replace st:=st.updR 2 rfl hub hrb;clear hub hrb)
            | ((with_reducible refine aa (some 203) (.load 3 (.tmp 202)) ?_);go_must (refine ae (.int .i64 3) rfl (ah 0 (.int .i64 3) (st.mem.get 1 rfl) rfl ak rfl) ?_))
            | (go_at_call 7;go_must (refine (aN st 0 (by omega) (by omega) true (by decide)).mono ?_);rintro e wq ⟨rfl,st9⟩;replace st:=st9;clear st9)
            | ((with_reducible refine aa (some 249) (.load 32 (.tmp 6)) ?_);go_must (refine ae (.agg (modL M0 24).toArray) rfl (ao 0 (modL M0 24) (st.mem.get 2 rfl) rfl _ ax rfl 72 sz_mdl (Nat.le_of_eq (modL24 _).symm) (by rw [List.drop_zero,List.take_of_length_le (Nat.le_of_eq (modL24 _))])) ?_))
            | (go_at_call 15;go_must (refine (aV st HT.out HQT.out HMX.out).mono ?_);rintro e wq ⟨rfl,st9⟩;replace st:=st9;clear st9))
           go_roundw
           case rel=>exact ⟨i+1,sb,hb,t1,M0,by omega,by go_num,rfl,(st.tail.tail).more (by omega),HPX.out,HMX.out⟩
           case measure=>simp [intOf];omega
          ·cases hbf
        ·have W6:(wh==3)=false:=by simpa using hw3
         by_cases hw4:wh=4
         ·subst hw4
          clear hw2 hw3 W1 W6
          obtain ⟨mk,hmk⟩:∃mk,mk=(M a).2.1:=⟨_,rfl⟩
          obtain ⟨my,hmy⟩:∃my,my=(M a).2.2:=⟨_,rfl⟩
          have hsl:=dh.1 HAGM.out a ha
          cases hma:(M a).1 with
          | true =>
           obtain ⟨Z,z,hz⟩:∃Z z,getV t.held (a:Int) (keyB x)=(Z,z):=⟨_,_,rfl⟩
           have HZ:Hid (∀_:Unit,getV t.held (a:Int) (keyB x)=(Z,z)):=fun _=>hz
           have HZL:Hid (∀_:Unit,Z.length=32):=fun _=>pn_len st _ _ hz
           by_cases hke:mk=x
           ·have hz2:(Z,z)=(keyB my,0):=by
             cases hh:t.held a with
             | none=>rw [hh,fu hma] at hsl;cases hsl
             | some e0 =>
              rw [hh,cB hma,←hmk,←hmy,hke] at hsl
              rw [←hz,dZ ha hh]
              exact of_decide_eq_true hsl
            simp only [Prod.mk.injEq] at hz2
            obtain ⟨hz3,hz4⟩:=hz2
            subst hz4
            have HZE:Hid (∀_:Unit,keyB my=Z):=fun _=>hz3.symm
            have hkb:(mk==x)=true:=by simpa using hke
            have HMA0:Hid (∀_:Unit,(modL M 24)[a * 3+0]?=some (.bool true)):=fun _=>by rw [bO M 0 (by omega) 24 a ha,slV];rw [hma];rfl
            have HMA1:Hid (∀_:Unit,(modL M 24)[a * 3+1]?=some (.int .u8 mk)):=fun _=>by rw [bO M 1 (by omega) 24 a ha,slV,hmk];rfl
            have HMA2:Hid (∀_:Unit,(modL M 24)[a * 3+2]?=some (.int .u8 my)):=fun _=>by rw [bO M 2 (by omega) 24 a ha,slV,hmy];rfl
            clear hz hz3 hke hma hmk hmy hsl
            as_aux_lemma =>
             have HMX:Hid (MB M):=HMB.out
             have HPX:Hid (t.puts≤i+1):=(show t.puts≤i+1 by have:=HPU.out;omega)
             go_wp2_with (first
              | ((with_reducible refine aa (some 65) (.load 3 (.tmp 64)) ?_);go_must (refine ae (.int .i64 4) rfl (ah 0 (.int .i64 4) (st.mem.get 1 rfl) rfl ak rfl) ?_))
              | ((with_reducible refine aa (some 86) (.load 3 (.tmp 85)) ?_);go_must (refine ae (.int .i64 4) rfl (ah 0 (.int .i64 4) (st.mem.get 1 rfl) rfl ak rfl) ?_))
              | ((with_reducible refine aa (some 97) (.load 3 (.tmp 96)) ?_);go_must (refine ae (.int .i64 4) rfl (ah 0 (.int .i64 4) (st.mem.get 1 rfl) rfl ak rfl) ?_))
              | ((with_reducible refine aa (some 103) (.load 5 (.tmp 102)) ?_);go_must (refine ae (.int .u8 x) rfl (ah 2 (.int .u8 x) (st.mem.get 1 rfl) rfl aY rfl) ?_))
              | (go_at_call 9;refine (aZ _ _).mono ?_;rintro e wk ⟨rfl,hbk⟩;replace st:=st.below hbk;clear hbk)
              | (go_at_call 11;go_must (refine (eu st HT.out HQT.out (a:Int) x HXB.out Z 0 (HZ.out ())).mono ?_);rintro e wp ⟨rfl,st9⟩;replace st:=st9;clear st9)
              | ((with_reducible refine aa (some 13) (.alloc 39) ?_);go_must (refine aC _ bd ?_);intro wa q13 hba hqa hra;replace st:=st.add hba hra hqa;clear hba hqa hra)
              | ((with_reducible refine aa none (.store 39 (.tmp 13) (.tmp 106)) ?_);go_must (refine aw (u8s Z) (st.mem.get 0 rfl) rfl rfl 32 az (by simp [ab]) (by rw [ab,HZL.out ()]) (aq _) ?_);intro wb hub hrb;replace st:=st.updR 0 rfl hub hrb;clear hub hrb))
             refine au ?_
             refine av (T:=fun W=>(Row W q13 (u8s Z) 39∧Row W q8 [.int .i64 4,.int .i64 (a:Int),.int .u8 x,.int .u8 y,.int .i64 pw,.slice p5 n5 c5] 35∧Row W q6 (modL M 24) 32)) (by kernel_rfl) st.mem ?_
             intro wz hbz hmz
             replace st:=st.below hbz
             have HTW:Hid (Row wz q13 (u8s Z) 39∧Row wz q8 [.int .i64 4,.int .i64 (a:Int),.int .u8 x,.int .u8 y,.int .i64 pw,.slice p5 n5 c5] 35∧Row wz q6 (modL M 24) 32):=⟨st.mem.get 0 rfl,st.mem.get 2 rfl,st.mem.get 3 rfl⟩
             clear hbz hmz
             refine aT 0 (v:=.bool true) rfl (by kernel_rfl) rfl (fun W _=>by go_simp) HTW.out ?_
             go_simp
             refine aT 1 (v:=.bool true) rfl (by kernel_rfl) rfl (fun W _=>by go_simp) HTW.out ?_
             go_simp
             refine aG 2 (v:=.int .i64 (a:Int)) rfl (by kernel_rfl) rfl (fun W _=>by go_simp) HTW.out ?_
             go_simp
             refine aG 3 (v:=.pointer (some ⟨q6,a * 3,none⟩)) rfl (by kernel_rfl) rfl (fun W _=>aE a rfl rfl rfl ha) HTW.out ?_
             go_simp
             refine aG 4 (v:=.pointer (some ⟨q6,a * 3,none⟩)) rfl (by kernel_rfl) rfl (fun W _=>by go_simp) HTW.out ?_
             go_simp
             refine aG 5 (v:=.bool true) rfl (by kernel_rfl) rfl (fun W hW=>ah (a * 3+0) (.bool true) hW.2.2 rfl bj (HMA0.out ())) HTW.out ?_
             go_simp
             refine aT 6 (v:=.bool true) rfl (by kernel_rfl) rfl (fun W _=>by go_simp) HTW.out ?_
             go_simp
             refine aT 7 (v:=.bool true) rfl (by kernel_rfl) rfl (fun W _=>by go_simp) HTW.out ?_
             go_simp
             refine aG 8 (v:=.int .i64 (a:Int)) rfl (by kernel_rfl) rfl (fun W _=>by go_simp) HTW.out ?_
             go_simp
             refine aG 9 (v:=.pointer (some ⟨q6,a * 3,none⟩)) rfl (by kernel_rfl) rfl (fun W _=>aE a rfl rfl rfl ha) HTW.out ?_
             go_simp
             refine aG 10 (v:=.pointer (some ⟨q6,a * 3+1,none⟩)) rfl (by kernel_rfl) rfl (fun W _=>by go_simp) HTW.out ?_
             go_simp
             refine aG 11 (v:=.int .u8 mk) rfl (by kernel_rfl) rfl (fun W hW=>ah (a * 3+1) (.int .u8 mk) hW.2.2 rfl aY (HMA1.out ())) HTW.out ?_
             go_simp
             refine aG 12 (v:=.pointer (some ⟨q8,2,none⟩)) rfl (by kernel_rfl) rfl (fun W _=>by go_simp) HTW.out ?_
             go_simp
             refine aG 13 (v:=.int .u8 x) rfl (by kernel_rfl) rfl (fun W hW=>ah 2 (.int .u8 x) hW.2.1 rfl aY rfl) HTW.out ?_
             go_simp
             refine aG 14 (v:=.bool true) rfl (by kernel_rfl) rfl (fun W _=>by go_simp) HTW.out ?_
             go_simp
             refine aT 15 (v:=.bool true) rfl (by kernel_rfl) rfl (fun W _=>by go_simp) HTW.out ?_
             go_simp
             refine aT 16 (v:=.bool true) rfl (by kernel_rfl) rfl (fun W _=>by go_simp) HTW.out ?_
             go_simp
             refine wpAnyH_done (by kernel_rfl) ?_ _
             simp only [endsIn]
             clear HTW
             go_wp2_with fail
             refine au ?_
             refine av (T:=fun W=>(Row W q13 (u8s Z) 39∧Row W q8 [.int .i64 4,.int .i64 (a:Int),.int .u8 x,.int .u8 y,.int .i64 pw,.slice p5 n5 c5] 35∧Row W q6 (modL M 24) 32)) (by kernel_rfl) st.mem ?_
             intro wz hbz hmz
             replace st:=st.below hbz
             have HTW:Hid (Row wz q13 (u8s Z) 39∧Row wz q8 [.int .i64 4,.int .i64 (a:Int),.int .u8 x,.int .u8 y,.int .i64 pw,.slice p5 n5 c5] 35∧Row wz q6 (modL M 24) 32):=⟨st.mem.get 0 rfl,st.mem.get 2 rfl,st.mem.get 3 rfl⟩
             clear hbz hmz
             refine aT 0 (v:=.bool true) rfl (by kernel_rfl) rfl (fun W _=>by go_simp) HTW.out ?_
             go_simp
             refine aT 1 (v:=.bool true) rfl (by kernel_rfl) rfl (fun W _=>by go_simp) HTW.out ?_
             go_simp
             refine aG 2 (v:=.int .i64 0) rfl (by kernel_rfl) rfl (fun W _=>by go_simp) HTW.out ?_
             go_simp
             refine aG 3 (v:=.bool false) rfl (by kernel_rfl) rfl (fun W _=>by go_simp) HTW.out ?_
             go_simp
             refine aG 4 (v:=.bool false) rfl (by kernel_rfl) rfl (fun W _=>by go_simp) HTW.out ?_
             go_simp
             refine aG 5 (v:=.agg (u8s Z).toArray) rfl (by kernel_rfl) rfl (fun W hW=>ao 0 (u8s Z) hW.1 rfl _ aS rfl 32 az (by rw [ab,HZL.out ()];omega) (by rw [List.drop_zero,List.take_of_length_le (by rw [ab,HZL.out ()];omega)])) HTW.out ?_
             go_simp
             refine aG 6 (v:=.int .i64 (a:Int)) rfl (by kernel_rfl) rfl (fun W _=>by go_simp) HTW.out ?_
             go_simp
             refine aG 7 (v:=.pointer (some ⟨q6,a * 3,none⟩)) rfl (by kernel_rfl) rfl (fun W _=>aE a rfl rfl rfl ha) HTW.out ?_
             go_simp
             refine aG 8 (v:=.pointer (some ⟨q6,a * 3+2,none⟩)) rfl (by kernel_rfl) rfl (fun W _=>by go_simp) HTW.out ?_
             go_simp
             refine aG 9 (v:=.int .u8 my) rfl (by kernel_rfl) rfl (fun W hW=>ah (a * 3+2) (.int .u8 my) hW.2.2 rfl aY (HMA2.out ())) HTW.out ?_
             go_simp
             refine aO 10 (by kernel_rfl) rfl rfl ?_
             intro K hK
             go_wp2_with ((go_at_call 9;refine (aZ _ _).mono ?_;rintro e wk ⟨rfl,hbk⟩;replace st:=st.below hbk;clear hbk HTW;have HTW:Hid (Row wk q13 (u8s Z) 39∧Row wk q8 [.int .i64 4,.int .i64 (a:Int),.int .u8 x,.int .u8 y,.int .i64 pw,.slice p5 n5 c5] 35∧Row wk q6 (modL M 24) 32):=⟨st.mem.get 0 rfl,st.mem.get 2 rfl,st.mem.get 3 rfl⟩))
             refine hK _ _ HTW.out ?_
             clear hK K
             go_simp
             refine aG 11 (v:=.bool false) rfl (by kernel_rfl) rfl (fun W hW=>jl 5 32 .u8 Z rfl (by rw [HZE.out ()];rfl) aS cy be eg_key (HZL.out ())) HTW.out ?_
             go_simp
             refine aG 12 (v:=.bool false) rfl (by kernel_rfl) rfl (fun W _=>by go_simp) HTW.out ?_
             go_simp
             refine aT 13 (v:=.bool false) rfl (by kernel_rfl) rfl (fun W _=>by go_simp) HTW.out ?_
             go_simp
             refine aT 14 (v:=.bool false) rfl (by kernel_rfl) rfl (fun W _=>by go_simp) HTW.out ?_
             go_simp
             refine aG 15 (v:=.bool true) rfl (by kernel_rfl) rfl (fun W _=>by go_simp) HTW.out ?_
             go_simp
             refine aG 16 (v:=.bool true) rfl (by kernel_rfl) rfl (fun W _=>by go_simp) HTW.out ?_
             go_simp
             refine aG 17 (v:=.int .i64 (a:Int)) rfl (by kernel_rfl) rfl (fun W _=>by go_simp) HTW.out ?_
             go_simp
             refine aG 18 (v:=.pointer (some ⟨q6,a * 3,none⟩)) rfl (by kernel_rfl) rfl (fun W _=>aE a rfl rfl rfl ha) HTW.out ?_
             go_simp
             refine aG 19 (v:=.pointer (some ⟨q6,a * 3,none⟩)) rfl (by kernel_rfl) rfl (fun W _=>by go_simp) HTW.out ?_
             go_simp
             refine aG 20 (v:=.bool true) rfl (by kernel_rfl) rfl (fun W hW=>ah (a * 3+0) (.bool true) hW.2.2 rfl bj (HMA0.out ())) HTW.out ?_
             go_simp
             refine aG 21 (v:=.bool false) rfl (by kernel_rfl) rfl (fun W _=>by go_simp) HTW.out ?_
             go_simp
             refine aG 22 (v:=.bool false) rfl (by kernel_rfl) rfl (fun W _=>by go_simp) HTW.out ?_
             go_simp
             refine aG 23 (v:=.bool false) rfl (by kernel_rfl) rfl (fun W _=>by go_simp) HTW.out ?_
             go_simp
             refine ai 24 rfl (by kernel_rfl) (by kernel_rfl) (by kernel_rfl) rfl HTW.out ?_
             go_simp
             refine ai 25 rfl (by kernel_rfl) (by kernel_rfl) (by kernel_rfl) rfl HTW.out ?_
             go_simp
             refine aG 26 (v:=.bool false) rfl (by kernel_rfl) rfl (fun W _=>by go_simp) HTW.out ?_
             go_simp
             refine aT 27 (v:=.bool false) rfl (by kernel_rfl) rfl (fun W _=>by go_simp) HTW.out ?_
             go_simp
             refine aT 28 (v:=.bool false) rfl (by kernel_rfl) rfl (fun W _=>by go_simp) HTW.out ?_
             go_simp
             refine aG 29 (v:=.bool true) rfl (by kernel_rfl) rfl (fun W _=>by go_simp) HTW.out ?_
             go_simp
             refine aG 30 (v:=.bool false) rfl (by kernel_rfl) rfl (fun W _=>by go_simp) HTW.out ?_
             go_simp
             refine aG 31 (v:=.bool false) rfl (by kernel_rfl) rfl (fun W _=>by go_simp) HTW.out ?_
             go_simp
             refine ai 32 rfl (by kernel_rfl) (by kernel_rfl) (by kernel_rfl) rfl HTW.out ?_
             go_simp
             refine ai 33 rfl (by kernel_rfl) (by kernel_rfl) (by kernel_rfl) rfl HTW.out ?_
             go_simp
             refine aG 34 (v:=.bool false) rfl (by kernel_rfl) rfl (fun W _=>by go_simp) HTW.out ?_
             go_simp
             refine aT 35 (v:=.bool false) rfl (by kernel_rfl) rfl (fun W _=>by go_simp) HTW.out ?_
             go_simp
             refine wpAnyH_done (by kernel_rfl) ?_ _
             simp only [endsIn]
             clear HTW
             go_wp2_with (first
              | ((with_reducible refine aa (some 161) (.load 3 (.tmp 160)) ?_);go_must (refine ae (.int .i64 4) rfl (ah 0 (.int .i64 4) (st.mem.get 2 rfl) rfl ak rfl) ?_))
              | ((with_reducible refine aa (some 187) (.load 32 (.tmp 11)) ?_);go_must (refine ae (.agg (modL M 24).toArray) rfl (ao 0 (modL M 24) (st.mem.get 1 rfl) rfl _ ax rfl 72 sz_mdl (Nat.le_of_eq (modL24 _).symm) (by rw [List.drop_zero,List.take_of_length_le (Nat.le_of_eq (modL24 _))])) ?_))
              | ((with_reducible refine aa none (.store 32 (.tmp 6) (.tmp 187)) ?_);go_must (refine aw (modL M 24) (st.mem.get 3 rfl) rfl rfl 72 sz_mdl (modL24 _) (modL24 _) (aH _ _) ?_);intro wb hub hrb;replace st:=st.updR 3 rfl hub hrb;clear hub hrb)
              | ((with_reducible refine aa (some 203) (.load 3 (.tmp 202)) ?_);go_must (refine ae (.int .i64 4) rfl (ah 0 (.int .i64 4) (st.mem.get 2 rfl) rfl ak rfl) ?_))
              | (go_at_call 7;go_must (refine (aN st 0 (by omega) (by omega) true (by decide)).mono ?_);rintro e wq ⟨rfl,st9⟩;replace st:=st9;clear st9)
              | ((with_reducible refine aa (some 249) (.load 32 (.tmp 6)) ?_);go_must (refine ae (.agg (modL M 24).toArray) rfl (ao 0 (modL M 24) (st.mem.get 3 rfl) rfl _ ax rfl 72 sz_mdl (Nat.le_of_eq (modL24 _).symm) (by rw [List.drop_zero,List.take_of_length_le (Nat.le_of_eq (modL24 _))])) ?_))
              | (go_at_call 15;go_must (refine (aV st HT.out HQT.out HMX.out).mono ?_);rintro e wq ⟨rfl,st9⟩;replace st:=st9;clear st9))
             go_roundw
             case rel=>exact ⟨i+1,sb,hb,t,M,by omega,by go_num,rfl,(st.tail.tail.tail).more (by omega),HPX.out,HMX.out⟩
             case measure=>simp [intOf];omega
           ·have hkb:(mk==x)=false:=by simpa using hke
            have HMA0:Hid (∀_:Unit,(modL M 24)[a * 3+0]?=some (.bool true)):=fun _=>by rw [bO M 0 (by omega) 24 a ha,slV];rw [hma];rfl
            have HMA1:Hid (∀_:Unit,(modL M 24)[a * 3+1]?=some (.int .u8 mk)):=fun _=>by rw [bO M 1 (by omega) 24 a ha,slV,hmk];rfl
            have HMA2:Hid (∀_:Unit,(modL M 24)[a * 3+2]?=some (.int .u8 my)):=fun _=>by rw [bO M 2 (by omega) 24 a ha,slV,hmy];rfl
            clear hz hke hma hmk hmy hsl
            as_aux_lemma =>
             have HMX:Hid (MB M):=HMB.out
             have HPX:Hid (t.puts≤i+1):=(show t.puts≤i+1 by have:=HPU.out;omega)
             go_wp2_with (first
              | ((with_reducible refine aa (some 65) (.load 3 (.tmp 64)) ?_);go_must (refine ae (.int .i64 4) rfl (ah 0 (.int .i64 4) (st.mem.get 1 rfl) rfl ak rfl) ?_))
              | ((with_reducible refine aa (some 86) (.load 3 (.tmp 85)) ?_);go_must (refine ae (.int .i64 4) rfl (ah 0 (.int .i64 4) (st.mem.get 1 rfl) rfl ak rfl) ?_))
              | ((with_reducible refine aa (some 97) (.load 3 (.tmp 96)) ?_);go_must (refine ae (.int .i64 4) rfl (ah 0 (.int .i64 4) (st.mem.get 1 rfl) rfl ak rfl) ?_))
              | ((with_reducible refine aa (some 103) (.load 5 (.tmp 102)) ?_);go_must (refine ae (.int .u8 x) rfl (ah 2 (.int .u8 x) (st.mem.get 1 rfl) rfl aY rfl) ?_))
              | (go_at_call 9;refine (aZ _ _).mono ?_;rintro e wk ⟨rfl,hbk⟩;replace st:=st.below hbk;clear hbk)
              | (go_at_call 11;go_must (refine (eu st HT.out HQT.out (a:Int) x HXB.out Z z (HZ.out ())).mono ?_);rintro e wp ⟨rfl,st9⟩;replace st:=st9;clear st9)
              | ((with_reducible refine aa (some 13) (.alloc 39) ?_);go_must (refine aC _ bd ?_);intro wa q13 hba hqa hra;replace st:=st.add hba hra hqa;clear hba hqa hra)
              | ((with_reducible refine aa none (.store 39 (.tmp 13) (.tmp 106)) ?_);go_must (refine aw (u8s Z) (st.mem.get 0 rfl) rfl rfl 32 az (by simp [ab]) (by rw [ab,HZL.out ()]) (aq _) ?_);intro wb hub hrb;replace st:=st.updR 0 rfl hub hrb;clear hub hrb))
             refine au ?_
             refine av (T:=fun W=>(Row W q13 (u8s Z) 39∧Row W q8 [.int .i64 4,.int .i64 (a:Int),.int .u8 x,.int .u8 y,.int .i64 pw,.slice p5 n5 c5] 35∧Row W q6 (modL M 24) 32)) (by kernel_rfl) st.mem ?_
             intro wz hbz hmz
             replace st:=st.below hbz
             have HTW:Hid (Row wz q13 (u8s Z) 39∧Row wz q8 [.int .i64 4,.int .i64 (a:Int),.int .u8 x,.int .u8 y,.int .i64 pw,.slice p5 n5 c5] 35∧Row wz q6 (modL M 24) 32):=⟨st.mem.get 0 rfl,st.mem.get 2 rfl,st.mem.get 3 rfl⟩
             clear hbz hmz
             refine aT 0 (v:=.bool true) rfl (by kernel_rfl) rfl (fun W _=>by go_simp) HTW.out ?_
             go_simp
             refine aT 1 (v:=.bool true) rfl (by kernel_rfl) rfl (fun W _=>by go_simp) HTW.out ?_
             go_simp
             refine aG 2 (v:=.int .i64 (a:Int)) rfl (by kernel_rfl) rfl (fun W _=>by go_simp) HTW.out ?_
             go_simp
             refine aG 3 (v:=.pointer (some ⟨q6,a * 3,none⟩)) rfl (by kernel_rfl) rfl (fun W _=>aE a rfl rfl rfl ha) HTW.out ?_
             go_simp
             refine aG 4 (v:=.pointer (some ⟨q6,a * 3,none⟩)) rfl (by kernel_rfl) rfl (fun W _=>by go_simp) HTW.out ?_
             go_simp
             refine aG 5 (v:=.bool true) rfl (by kernel_rfl) rfl (fun W hW=>ah (a * 3+0) (.bool true) hW.2.2 rfl bj (HMA0.out ())) HTW.out ?_
             go_simp
             refine aT 6 (v:=.bool true) rfl (by kernel_rfl) rfl (fun W _=>by go_simp) HTW.out ?_
             go_simp
             refine aT 7 (v:=.bool true) rfl (by kernel_rfl) rfl (fun W _=>by go_simp) HTW.out ?_
             go_simp
             refine aG 8 (v:=.int .i64 (a:Int)) rfl (by kernel_rfl) rfl (fun W _=>by go_simp) HTW.out ?_
             go_simp
             refine aG 9 (v:=.pointer (some ⟨q6,a * 3,none⟩)) rfl (by kernel_rfl) rfl (fun W _=>aE a rfl rfl rfl ha) HTW.out ?_
             go_simp
             refine aG 10 (v:=.pointer (some ⟨q6,a * 3+1,none⟩)) rfl (by kernel_rfl) rfl (fun W _=>by go_simp) HTW.out ?_
             go_simp
             refine aG 11 (v:=.int .u8 mk) rfl (by kernel_rfl) rfl (fun W hW=>ah (a * 3+1) (.int .u8 mk) hW.2.2 rfl aY (HMA1.out ())) HTW.out ?_
             go_simp
             refine aG 12 (v:=.pointer (some ⟨q8,2,none⟩)) rfl (by kernel_rfl) rfl (fun W _=>by go_simp) HTW.out ?_
             go_simp
             refine aG 13 (v:=.int .u8 x) rfl (by kernel_rfl) rfl (fun W hW=>ah 2 (.int .u8 x) hW.2.1 rfl aY rfl) HTW.out ?_
             go_simp
             refine aG 14 (v:=.bool false) rfl (by kernel_rfl) rfl (fun W _=>by go_simp) HTW.out ?_
             go_simp
             refine aT 15 (v:=.bool false) rfl (by kernel_rfl) rfl (fun W _=>by go_simp) HTW.out ?_
             go_simp
             refine aT 16 (v:=.bool false) rfl (by kernel_rfl) rfl (fun W _=>by go_simp) HTW.out ?_
             go_simp
             refine wpAnyH_done (by kernel_rfl) ?_ _
             simp only [endsIn]
             clear HTW
             go_wp2_with fail
             refine au ?_
             refine av (T:=fun W=>(Row W q13 (u8s Z) 39∧Row W q8 [.int .i64 4,.int .i64 (a:Int),.int .u8 x,.int .u8 y,.int .i64 pw,.slice p5 n5 c5] 35∧Row W q6 (modL M 24) 32)) (by kernel_rfl) st.mem ?_
             intro wz hbz hmz
             replace st:=st.below hbz
             have HTW:Hid (Row wz q13 (u8s Z) 39∧Row wz q8 [.int .i64 4,.int .i64 (a:Int),.int .u8 x,.int .u8 y,.int .i64 pw,.slice p5 n5 c5] 35∧Row wz q6 (modL M 24) 32):=⟨st.mem.get 0 rfl,st.mem.get 2 rfl,st.mem.get 3 rfl⟩
             clear hbz hmz
             refine aT 0 (v:=.bool false) rfl (by kernel_rfl) rfl (fun W _=>by go_simp) HTW.out ?_
             go_simp
             refine aT 1 (v:=.bool false) rfl (by kernel_rfl) rfl (fun W _=>by go_simp) HTW.out ?_
             go_simp
             refine ai 2 rfl (by kernel_rfl) (by kernel_rfl) (by kernel_rfl) rfl HTW.out ?_
             go_simp
             refine ai 3 rfl (by kernel_rfl) (by kernel_rfl) (by kernel_rfl) rfl HTW.out ?_
             go_simp
             refine ai 4 rfl (by kernel_rfl) (by kernel_rfl) (by kernel_rfl) rfl HTW.out ?_
             go_simp
             refine ai 5 rfl (by kernel_rfl) (by kernel_rfl) (by kernel_rfl) rfl HTW.out ?_
             go_simp
             refine ai 6 rfl (by kernel_rfl) (by kernel_rfl) (by kernel_rfl) rfl HTW.out ?_
             go_simp
             refine ai 7 rfl (by kernel_rfl) (by kernel_rfl) (by kernel_rfl) rfl HTW.out ?_
             go_simp
             refine ai 8 rfl (by kernel_rfl) (by kernel_rfl) (by kernel_rfl) rfl HTW.out ?_
             go_simp
             refine ai 9 rfl (by kernel_rfl) (by kernel_rfl) (by kernel_rfl) rfl HTW.out ?_
             go_simp
             refine ai 10 rfl (by kernel_rfl) (by kernel_rfl) (by kernel_rfl) rfl HTW.out ?_
             go_simp
             refine ai 11 rfl (by kernel_rfl) (by kernel_rfl) (by kernel_rfl) rfl HTW.out ?_
             go_simp
             refine ai 12 rfl (by kernel_rfl) (by kernel_rfl) (by kernel_rfl) rfl HTW.out ?_
             go_simp
             refine aT 13 (v:=.bool false) rfl (by kernel_rfl) rfl (fun W _=>by go_simp) HTW.out ?_
             go_simp
             refine aT 14 (v:=.bool false) rfl (by kernel_rfl) rfl (fun W _=>by go_simp) HTW.out ?_
             go_simp
             refine aG 15 (v:=.bool true) rfl (by kernel_rfl) rfl (fun W _=>by go_simp) HTW.out ?_
             go_simp
             refine aG 16 (v:=.bool true) rfl (by kernel_rfl) rfl (fun W _=>by go_simp) HTW.out ?_
             go_simp
             refine aG 17 (v:=.int .i64 (a:Int)) rfl (by kernel_rfl) rfl (fun W _=>by go_simp) HTW.out ?_
             go_simp
             refine aG 18 (v:=.pointer (some ⟨q6,a * 3,none⟩)) rfl (by kernel_rfl) rfl (fun W _=>aE a rfl rfl rfl ha) HTW.out ?_
             go_simp
             refine aG 19 (v:=.pointer (some ⟨q6,a * 3,none⟩)) rfl (by kernel_rfl) rfl (fun W _=>by go_simp) HTW.out ?_
             go_simp
             refine aG 20 (v:=.bool true) rfl (by kernel_rfl) rfl (fun W hW=>ah (a * 3+0) (.bool true) hW.2.2 rfl bj (HMA0.out ())) HTW.out ?_
             go_simp
             refine aG 21 (v:=.bool false) rfl (by kernel_rfl) rfl (fun W _=>by go_simp) HTW.out ?_
             go_simp
             refine aG 22 (v:=.bool false) rfl (by kernel_rfl) rfl (fun W _=>by go_simp) HTW.out ?_
             go_simp
             refine aG 23 (v:=.bool false) rfl (by kernel_rfl) rfl (fun W _=>by go_simp) HTW.out ?_
             go_simp
             refine ai 24 rfl (by kernel_rfl) (by kernel_rfl) (by kernel_rfl) rfl HTW.out ?_
             go_simp
             refine ai 25 rfl (by kernel_rfl) (by kernel_rfl) (by kernel_rfl) rfl HTW.out ?_
             go_simp
             refine aG 26 (v:=.bool false) rfl (by kernel_rfl) rfl (fun W _=>by go_simp) HTW.out ?_
             go_simp
             refine aT 27 (v:=.bool false) rfl (by kernel_rfl) rfl (fun W _=>by go_simp) HTW.out ?_
             go_simp
             refine aT 28 (v:=.bool false) rfl (by kernel_rfl) rfl (fun W _=>by go_simp) HTW.out ?_
             go_simp
             refine aG 29 (v:=.bool true) rfl (by kernel_rfl) rfl (fun W _=>by go_simp) HTW.out ?_
             go_simp
             refine aG 30 (v:=.bool false) rfl (by kernel_rfl) rfl (fun W _=>by go_simp) HTW.out ?_
             go_simp
             refine aG 31 (v:=.bool false) rfl (by kernel_rfl) rfl (fun W _=>by go_simp) HTW.out ?_
             go_simp
             refine ai 32 rfl (by kernel_rfl) (by kernel_rfl) (by kernel_rfl) rfl HTW.out ?_
             go_simp
             refine ai 33 rfl (by kernel_rfl) (by kernel_rfl) (by kernel_rfl) rfl HTW.out ?_
             go_simp
             refine aG 34 (v:=.bool false) rfl (by kernel_rfl) rfl (fun W _=>by go_simp) HTW.out ?_
             go_simp
             refine aT 35 (v:=.bool false) rfl (by kernel_rfl) rfl (fun W _=>by go_simp) HTW.out ?_
             go_simp
             refine wpAnyH_done (by kernel_rfl) ?_ _
             simp only [endsIn]
             clear HTW
             go_wp2_with (first
              | ((with_reducible refine aa (some 161) (.load 3 (.tmp 160)) ?_);go_must (refine ae (.int .i64 4) rfl (ah 0 (.int .i64 4) (st.mem.get 2 rfl) rfl ak rfl) ?_))
              | ((with_reducible refine aa (some 187) (.load 32 (.tmp 11)) ?_);go_must (refine ae (.agg (modL M 24).toArray) rfl (ao 0 (modL M 24) (st.mem.get 1 rfl) rfl _ ax rfl 72 sz_mdl (Nat.le_of_eq (modL24 _).symm) (by rw [List.drop_zero,List.take_of_length_le (Nat.le_of_eq (modL24 _))])) ?_))
              | ((with_reducible refine aa none (.store 32 (.tmp 6) (.tmp 187)) ?_);go_must (refine aw (modL M 24) (st.mem.get 3 rfl) rfl rfl 72 sz_mdl (modL24 _) (modL24 _) (aH _ _) ?_);intro wb hub hrb;replace st:=st.updR 3 rfl hub hrb;clear hub hrb)
              | ((with_reducible refine aa (some 203) (.load 3 (.tmp 202)) ?_);go_must (refine ae (.int .i64 4) rfl (ah 0 (.int .i64 4) (st.mem.get 2 rfl) rfl ak rfl) ?_))
              | (go_at_call 7;go_must (refine (aN st 0 (by omega) (by omega) true (by decide)).mono ?_);rintro e wq ⟨rfl,st9⟩;replace st:=st9;clear st9)
              | ((with_reducible refine aa (some 249) (.load 32 (.tmp 6)) ?_);go_must (refine ae (.agg (modL M 24).toArray) rfl (ao 0 (modL M 24) (st.mem.get 3 rfl) rfl _ ax rfl 72 sz_mdl (Nat.le_of_eq (modL24 _).symm) (by rw [List.drop_zero,List.take_of_length_le (Nat.le_of_eq (modL24 _))])) ?_))
              | (go_at_call 15;go_must (refine (aV st HT.out HQT.out HMX.out).mono ?_);rintro e wq ⟨rfl,st9⟩;replace st:=st9;clear st9))
             go_roundw
             case rel=>exact ⟨i+1,sb,hb,t,M,by omega,by go_num,rfl,(st.tail.tail.tail).more (by omega),HPX.out,HMX.out⟩
             case measure=>simp [intOf];omega
          | false =>
           obtain ⟨Z,hZ0⟩:∃Z,Z=zero32:=⟨_,rfl⟩
           have HZ:Hid (∀_:Unit,getV t.held (a:Int) (keyB x)=(Z,120)):=fun _=>by
            rw [cQ hma] at hsl
            rw [hZ0]
            exact fO ha (by simpa using hsl) _
           have HZL:Hid (∀_:Unit,Z.length=32):=fun _=>by rw [hZ0];rfl
           have HMA0:Hid (∀_:Unit,(modL M 24)[a * 3+0]?=some (.bool false)):=fun _=>by rw [bO M 0 (by omega) 24 a ha,slV];rw [hma];rfl
           have HMA1:Hid (∀_:Unit,(modL M 24)[a * 3+1]?=some (.int .u8 mk)):=fun _=>by rw [bO M 1 (by omega) 24 a ha,slV,hmk];rfl
           have HMA2:Hid (∀_:Unit,(modL M 24)[a * 3+2]?=some (.int .u8 my)):=fun _=>by rw [bO M 2 (by omega) 24 a ha,slV,hmy];rfl
           clear hZ0 hma hmk hmy hsl
           as_aux_lemma =>
            have HMX:Hid (MB M):=HMB.out
            have HPX:Hid (t.puts≤i+1):=(show t.puts≤i+1 by have:=HPU.out;omega)
            go_wp2_with (first
             | ((with_reducible refine aa (some 65) (.load 3 (.tmp 64)) ?_);go_must (refine ae (.int .i64 4) rfl (ah 0 (.int .i64 4) (st.mem.get 1 rfl) rfl ak rfl) ?_))
             | ((with_reducible refine aa (some 86) (.load 3 (.tmp 85)) ?_);go_must (refine ae (.int .i64 4) rfl (ah 0 (.int .i64 4) (st.mem.get 1 rfl) rfl ak rfl) ?_))
             | ((with_reducible refine aa (some 97) (.load 3 (.tmp 96)) ?_);go_must (refine ae (.int .i64 4) rfl (ah 0 (.int .i64 4) (st.mem.get 1 rfl) rfl ak rfl) ?_))
             | ((with_reducible refine aa (some 103) (.load 5 (.tmp 102)) ?_);go_must (refine ae (.int .u8 x) rfl (ah 2 (.int .u8 x) (st.mem.get 1 rfl) rfl aY rfl) ?_))
             | (go_at_call 9;refine (aZ _ _).mono ?_;rintro e wk ⟨rfl,hbk⟩;replace st:=st.below hbk;clear hbk)
             | (go_at_call 11;go_must (refine (eu st HT.out HQT.out (a:Int) x HXB.out Z 120 (HZ.out ())).mono ?_);rintro e wp ⟨rfl,st9⟩;replace st:=st9;clear st9)
             | ((with_reducible refine aa (some 13) (.alloc 39) ?_);go_must (refine aC _ bd ?_);intro wa q13 hba hqa hra;replace st:=st.add hba hra hqa;clear hba hqa hra)
             | ((with_reducible refine aa none (.store 39 (.tmp 13) (.tmp 106)) ?_);go_must (refine aw (u8s Z) (st.mem.get 0 rfl) rfl rfl 32 az (by simp [ab]) (by rw [ab,HZL.out ()]) (aq _) ?_);intro wb hub hrb;replace st:=st.updR 0 rfl hub hrb;clear hub hrb))
            refine au ?_
            refine av (T:=fun W=>(Row W q13 (u8s Z) 39∧Row W q8 [.int .i64 4,.int .i64 (a:Int),.int .u8 x,.int .u8 y,.int .i64 pw,.slice p5 n5 c5] 35∧Row W q6 (modL M 24) 32)) (by kernel_rfl) st.mem ?_
            intro wz hbz hmz
            replace st:=st.below hbz
            have HTW:Hid (Row wz q13 (u8s Z) 39∧Row wz q8 [.int .i64 4,.int .i64 (a:Int),.int .u8 x,.int .u8 y,.int .i64 pw,.slice p5 n5 c5] 35∧Row wz q6 (modL M 24) 32):=⟨st.mem.get 0 rfl,st.mem.get 2 rfl,st.mem.get 3 rfl⟩
            clear hbz hmz
            refine aT 0 (v:=.bool true) rfl (by kernel_rfl) rfl (fun W _=>by go_simp) HTW.out ?_
            go_simp
            refine aT 1 (v:=.bool true) rfl (by kernel_rfl) rfl (fun W _=>by go_simp) HTW.out ?_
            go_simp
            refine aG 2 (v:=.int .i64 (a:Int)) rfl (by kernel_rfl) rfl (fun W _=>by go_simp) HTW.out ?_
            go_simp
            refine aG 3 (v:=.pointer (some ⟨q6,a * 3,none⟩)) rfl (by kernel_rfl) rfl (fun W _=>aE a rfl rfl rfl ha) HTW.out ?_
            go_simp
            refine aG 4 (v:=.pointer (some ⟨q6,a * 3,none⟩)) rfl (by kernel_rfl) rfl (fun W _=>by go_simp) HTW.out ?_
            go_simp
            refine aG 5 (v:=.bool false) rfl (by kernel_rfl) rfl (fun W hW=>ah (a * 3+0) (.bool false) hW.2.2 rfl bj (HMA0.out ())) HTW.out ?_
            go_simp
            refine aT 6 (v:=.bool false) rfl (by kernel_rfl) rfl (fun W _=>by go_simp) HTW.out ?_
            go_simp
            refine aT 7 (v:=.bool false) rfl (by kernel_rfl) rfl (fun W _=>by go_simp) HTW.out ?_
            go_simp
            refine ai 8 rfl (by kernel_rfl) (by kernel_rfl) (by kernel_rfl) rfl HTW.out ?_
            go_simp
            refine ai 9 rfl (by kernel_rfl) (by kernel_rfl) (by kernel_rfl) rfl HTW.out ?_
            go_simp
            refine ai 10 rfl (by kernel_rfl) (by kernel_rfl) (by kernel_rfl) rfl HTW.out ?_
            go_simp
            refine ai 11 rfl (by kernel_rfl) (by kernel_rfl) (by kernel_rfl) rfl HTW.out ?_
            go_simp
            refine ai 12 rfl (by kernel_rfl) (by kernel_rfl) (by kernel_rfl) rfl HTW.out ?_
            go_simp
            refine ai 13 rfl (by kernel_rfl) (by kernel_rfl) (by kernel_rfl) rfl HTW.out ?_
            go_simp
            refine ai 14 rfl (by kernel_rfl) (by kernel_rfl) (by kernel_rfl) rfl HTW.out ?_
            go_simp
            refine aT 15 (v:=.bool false) rfl (by kernel_rfl) rfl (fun W _=>by go_simp) HTW.out ?_
            go_simp
            refine aT 16 (v:=.bool false) rfl (by kernel_rfl) rfl (fun W _=>by go_simp) HTW.out ?_
            go_simp
            refine wpAnyH_done (by kernel_rfl) ?_ _
            simp only [endsIn]
            clear HTW
            go_wp2_with fail
            refine au ?_
            refine av (T:=fun W=>(Row W q13 (u8s Z) 39∧Row W q8 [.int .i64 4,.int .i64 (a:Int),.int .u8 x,.int .u8 y,.int .i64 pw,.slice p5 n5 c5] 35∧Row W q6 (modL M 24) 32)) (by kernel_rfl) st.mem ?_
            intro wz hbz hmz
            replace st:=st.below hbz
            have HTW:Hid (Row wz q13 (u8s Z) 39∧Row wz q8 [.int .i64 4,.int .i64 (a:Int),.int .u8 x,.int .u8 y,.int .i64 pw,.slice p5 n5 c5] 35∧Row wz q6 (modL M 24) 32):=⟨st.mem.get 0 rfl,st.mem.get 2 rfl,st.mem.get 3 rfl⟩
            clear hbz hmz
            refine aT 0 (v:=.bool false) rfl (by kernel_rfl) rfl (fun W _=>by go_simp) HTW.out ?_
            go_simp
            refine aT 1 (v:=.bool false) rfl (by kernel_rfl) rfl (fun W _=>by go_simp) HTW.out ?_
            go_simp
            refine ai 2 rfl (by kernel_rfl) (by kernel_rfl) (by kernel_rfl) rfl HTW.out ?_
            go_simp
            refine ai 3 rfl (by kernel_rfl) (by kernel_rfl) (by kernel_rfl) rfl HTW.out ?_
            go_simp
            refine ai 4 rfl (by kernel_rfl) (by kernel_rfl) (by kernel_rfl) rfl HTW.out ?_
            go_simp
            refine ai 5 rfl (by kernel_rfl) (by kernel_rfl) (by kernel_rfl) rfl HTW.out ?_
            go_simp
            refine ai 6 rfl (by kernel_rfl) (by kernel_rfl) (by kernel_rfl) rfl HTW.out ?_
            go_simp
            refine ai 7 rfl (by kernel_rfl) (by kernel_rfl) (by kernel_rfl) rfl HTW.out ?_
            go_simp
            refine ai 8 rfl (by kernel_rfl) (by kernel_rfl) (by kernel_rfl) rfl HTW.out ?_
            go_simp
            refine ai 9 rfl (by kernel_rfl) (by kernel_rfl) (by kernel_rfl) rfl HTW.out ?_
            go_simp
            refine ai 10 rfl (by kernel_rfl) (by kernel_rfl) (by kernel_rfl) rfl HTW.out ?_
            go_simp
            refine ai 11 rfl (by kernel_rfl) (by kernel_rfl) (by kernel_rfl) rfl HTW.out ?_
            go_simp
            refine ai 12 rfl (by kernel_rfl) (by kernel_rfl) (by kernel_rfl) rfl HTW.out ?_
            go_simp
            refine aT 13 (v:=.bool false) rfl (by kernel_rfl) rfl (fun W _=>by go_simp) HTW.out ?_
            go_simp
            refine aT 14 (v:=.bool false) rfl (by kernel_rfl) rfl (fun W _=>by go_simp) HTW.out ?_
            go_simp
            refine aG 15 (v:=.bool true) rfl (by kernel_rfl) rfl (fun W _=>by go_simp) HTW.out ?_
            go_simp
            refine aG 16 (v:=.bool true) rfl (by kernel_rfl) rfl (fun W _=>by go_simp) HTW.out ?_
            go_simp
            refine aG 17 (v:=.int .i64 (a:Int)) rfl (by kernel_rfl) rfl (fun W _=>by go_simp) HTW.out ?_
            go_simp
            refine aG 18 (v:=.pointer (some ⟨q6,a * 3,none⟩)) rfl (by kernel_rfl) rfl (fun W _=>aE a rfl rfl rfl ha) HTW.out ?_
            go_simp
            refine aG 19 (v:=.pointer (some ⟨q6,a * 3,none⟩)) rfl (by kernel_rfl) rfl (fun W _=>by go_simp) HTW.out ?_
            go_simp
            refine aG 20 (v:=.bool false) rfl (by kernel_rfl) rfl (fun W hW=>ah (a * 3+0) (.bool false) hW.2.2 rfl bj (HMA0.out ())) HTW.out ?_
            go_simp
            refine aG 21 (v:=.bool true) rfl (by kernel_rfl) rfl (fun W _=>by go_simp) HTW.out ?_
            go_simp
            refine aG 22 (v:=.bool true) rfl (by kernel_rfl) rfl (fun W _=>by go_simp) HTW.out ?_
            go_simp
            refine aG 23 (v:=.bool true) rfl (by kernel_rfl) rfl (fun W _=>by go_simp) HTW.out ?_
            go_simp
            refine aG 24 (v:=.int .i64 120) rfl (by kernel_rfl) rfl (fun W _=>by go_simp) HTW.out ?_
            go_simp
            refine aG 25 (v:=.bool false) rfl (by kernel_rfl) rfl (fun W _=>by go_simp) HTW.out ?_
            go_simp
            refine aG 26 (v:=.bool false) rfl (by kernel_rfl) rfl (fun W _=>by go_simp) HTW.out ?_
            go_simp
            refine aT 27 (v:=.bool false) rfl (by kernel_rfl) rfl (fun W _=>by go_simp) HTW.out ?_
            go_simp
            refine aT 28 (v:=.bool false) rfl (by kernel_rfl) rfl (fun W _=>by go_simp) HTW.out ?_
            go_simp
            refine aG 29 (v:=.bool true) rfl (by kernel_rfl) rfl (fun W _=>by go_simp) HTW.out ?_
            go_simp
            refine aG 30 (v:=.bool false) rfl (by kernel_rfl) rfl (fun W _=>by go_simp) HTW.out ?_
            go_simp
            refine aG 31 (v:=.bool false) rfl (by kernel_rfl) rfl (fun W _=>by go_simp) HTW.out ?_
            go_simp
            refine ai 32 rfl (by kernel_rfl) (by kernel_rfl) (by kernel_rfl) rfl HTW.out ?_
            go_simp
            refine ai 33 rfl (by kernel_rfl) (by kernel_rfl) (by kernel_rfl) rfl HTW.out ?_
            go_simp
            refine aG 34 (v:=.bool false) rfl (by kernel_rfl) rfl (fun W _=>by go_simp) HTW.out ?_
            go_simp
            refine aT 35 (v:=.bool false) rfl (by kernel_rfl) rfl (fun W _=>by go_simp) HTW.out ?_
            go_simp
            refine wpAnyH_done (by kernel_rfl) ?_ _
            simp only [endsIn]
            clear HTW
            go_wp2_with (first
             | ((with_reducible refine aa (some 161) (.load 3 (.tmp 160)) ?_);go_must (refine ae (.int .i64 4) rfl (ah 0 (.int .i64 4) (st.mem.get 2 rfl) rfl ak rfl) ?_))
             | ((with_reducible refine aa (some 187) (.load 32 (.tmp 11)) ?_);go_must (refine ae (.agg (modL M 24).toArray) rfl (ao 0 (modL M 24) (st.mem.get 1 rfl) rfl _ ax rfl 72 sz_mdl (Nat.le_of_eq (modL24 _).symm) (by rw [List.drop_zero,List.take_of_length_le (Nat.le_of_eq (modL24 _))])) ?_))
             | ((with_reducible refine aa none (.store 32 (.tmp 6) (.tmp 187)) ?_);go_must (refine aw (modL M 24) (st.mem.get 3 rfl) rfl rfl 72 sz_mdl (modL24 _) (modL24 _) (aH _ _) ?_);intro wb hub hrb;replace st:=st.updR 3 rfl hub hrb;clear hub hrb)
             | ((with_reducible refine aa (some 203) (.load 3 (.tmp 202)) ?_);go_must (refine ae (.int .i64 4) rfl (ah 0 (.int .i64 4) (st.mem.get 2 rfl) rfl ak rfl) ?_))
             | (go_at_call 7;go_must (refine (aN st 0 (by omega) (by omega) true (by decide)).mono ?_);rintro e wq ⟨rfl,st9⟩;replace st:=st9;clear st9)
             | ((with_reducible refine aa (some 249) (.load 32 (.tmp 6)) ?_);go_must (refine ae (.agg (modL M 24).toArray) rfl (ao 0 (modL M 24) (st.mem.get 3 rfl) rfl _ ax rfl 72 sz_mdl (Nat.le_of_eq (modL24 _).symm) (by rw [List.drop_zero,List.take_of_length_le (Nat.le_of_eq (modL24 _))])) ?_))
             | (go_at_call 15;go_must (refine (aV st HT.out HQT.out HMX.out).mono ?_);rintro e wq ⟨rfl,st9⟩;replace st:=st9;clear st9))
            go_roundw
            case rel=>exact ⟨i+1,sb,hb,t,M,by omega,by go_num,rfl,(st.tail.tail.tail).more (by omega),HPX.out,HMX.out⟩
            case measure=>simp [intOf];omega
         ·have W7:(wh==4)=false:=by simpa using hw4
          have W2:decide (wh≤3)=false:=decide_eq_false (by omega)
          by_cases hw5:5≤wh
          ·have W3:decide (5≤wh)=true:=decide_eq_true hw5
           have W4:¬wh≤3:=by omega
           as_aux_lemma =>
            have HMX:Hid (MB M):=HMB.out
            have HPX:Hid (t.puts≤i+1):=(show t.puts≤i+1 by have:=HPU.out;omega)
            go_wp2_with (first
             | ((with_reducible refine aa (some 65) (.load 3 (.tmp 64)) ?_);go_must (refine ae (.int .i64 wh) rfl (ah 0 (.int .i64 wh) (st.mem.get 1 rfl) rfl ak rfl) ?_))
             | ((with_reducible refine aa (some 86) (.load 3 (.tmp 85)) ?_);go_must (refine ae (.int .i64 wh) rfl (ah 0 (.int .i64 wh) (st.mem.get 1 rfl) rfl ak rfl) ?_))
             | ((with_reducible refine aa (some 97) (.load 3 (.tmp 96)) ?_);go_must (refine ae (.int .i64 wh) rfl (ah 0 (.int .i64 wh) (st.mem.get 1 rfl) rfl ak rfl) ?_))
             | ((with_reducible refine aa (some 161) (.load 3 (.tmp 160)) ?_);go_must (refine ae (.int .i64 wh) rfl (ah 0 (.int .i64 wh) (st.mem.get 1 rfl) rfl ak rfl) ?_))
             | ((with_reducible refine aa (some 187) (.load 32 (.tmp 11)) ?_);go_must (refine ae (.agg (modL M 24).toArray) rfl (ao 0 (modL M 24) (st.mem.get 0 rfl) rfl _ ax rfl 72 sz_mdl (Nat.le_of_eq (modL24 _).symm) (by rw [List.drop_zero,List.take_of_length_le (Nat.le_of_eq (modL24 _))])) ?_))
             | ((with_reducible refine aa none (.store 32 (.tmp 6) (.tmp 187)) ?_);go_must (refine aw (modL M 24) (st.mem.get 2 rfl) rfl rfl 72 sz_mdl (modL24 _) (modL24 _) (aH _ _) ?_);intro wb hub hrb;replace st:=st.updR 2 rfl hub hrb;clear hub hrb)
             | ((with_reducible refine aa (some 203) (.load 3 (.tmp 202)) ?_);go_must (refine ae (.int .i64 wh) rfl (ah 0 (.int .i64 wh) (st.mem.get 1 rfl) rfl ak rfl) ?_))
             | ((with_reducible refine aa (some 211) (.load 33 (.tmp 210)) ?_);go_must (refine ae (.slice p5 n5 c5) rfl (ah 5 (.slice p5 n5 c5) (st.mem.get 1 rfl) rfl ag_bsS rfl) ?_))
             | (go_at_call 13;go_must (refine (ez st ch _ HCB.out HCS.out).mono ?_);rintro e wq ⟨rfl,st9⟩;clear st;have st:=st9;clear st9)
             | (go_at_call 14;go_must (refine (fI st HT.out (by omega)).mono ?_);rintro e wo ⟨s2,h2,rfl,st9⟩;clear st;have st:=st9;clear st9)
             | (go_at_call 7;go_must (refine (aN st 0 (by omega) (by omega) true (by decide)).mono ?_);rintro e wq ⟨rfl,st9⟩;replace st:=st9;clear st9)
             | ((with_reducible refine aa (some 249) (.load 32 (.tmp 6)) ?_);go_must (refine ae (.agg (modL M 24).toArray) rfl (ao 0 (modL M 24) (st.mem.get 2 rfl) rfl _ ax rfl 72 sz_mdl (Nat.le_of_eq (modL24 _).symm) (by rw [List.drop_zero,List.take_of_length_le (Nat.le_of_eq (modL24 _))])) ?_))
             | (go_at_call 15;go_must (refine (aV st HT.out HQT.out HMX.out).mono ?_);rintro e wq ⟨rfl,st9⟩;replace st:=st9;clear st9))
            go_roundw
            case rel=>exact ⟨i+1,s2,h2,t,M,by omega,by go_num,rfl,(st.tail.tail).more (by omega),HPX.out,HMX.out⟩
            case measure=>simp [intOf];omega
          ·omega
      | false =>
       have HOK:Hid (okI ix=false):=ho
       clear ho
       by_cases hI0:0≤ix
       ·have hI24:¬ix<24:=by
         intro h9
         have h8:=HOK.out
         rw [okI,decide_eq_true ⟨hI0,h9⟩] at h8
         cases h8
        have hIb:decide (0≤ix)=true:=decide_eq_true hI0
        have hIc:decide (ix<24)=false:=decide_eq_false hI24
        go_wp2_with (first
         | ((with_reducible refine aa (some 39) (.indexAddr 22 (.tmp 37) (.tmp 38)) ?_);go_must (refine ae (.pointer (some ⟨b,o+i * 6,none⟩)) rfl (d4 i rfl rfl rfl hlt) ?_))
         | ((with_reducible refine aa (some 40) (.load 35 (.tmp 39)) ?_);go_must (refine ae (.agg ([.int .i64 wh,.int .i64 ix,.int .u8 x,.int .u8 y,.int .i64 pw,.slice p5 n5 c5]:List Value).toArray) rfl (exec_ld6 (o+i * 6) [.int .i64 wh,.int .i64 ix,.int .u8 x,.int .u8 y,.int .i64 pw,.slice p5 n5 c5] rfl (fun j v hv=>st.cell (HC.out j v hv)) rfl) ?_))
         | ((with_reducible refine aa (some 8) (.alloc 35) ?_);go_must (refine aC _ zero_stpS ?_);intro wa q8 hba hqa hra;replace st:=st.add hba hra hqa;clear hba hqa hra)
         | ((with_reducible refine aa none (.store 35 (.tmp 8) (.tmp 40)) ?_);go_must (refine aw [.int .i64 wh,.int .i64 ix,.int .u8 x,.int .u8 y,.int .i64 pw,.slice p5 n5 c5] (st.mem.get 0 rfl) rfl rfl 6 sz_stpS rfl rfl (by intro u hu;simp only [List.mem_cons,List.not_mem_nil,or_false] at hu;rcases hu with rfl|rfl|rfl|rfl|rfl|rfl<;>rfl) ?_);intro wb hub hrb;replace st:=st.updR 0 rfl hub hrb;clear hub hrb)
         | ((with_reducible refine aa (some 42) (.load 33 (.tmp 41)) ?_);go_must (refine ae (.slice p5 n5 c5) rfl (ah 5 (.slice p5 n5 c5) (st.mem.get 0 rfl) rfl ag_bsS rfl) ?_))
         | ((with_reducible refine aa (some 46) (.load 3 (.tmp 45)) ?_);go_must (refine ae (.int .i64 pw) rfl (ah 4 (.int .i64 pw) (st.mem.get 0 rfl) rfl ak rfl) ?_))
         | ((with_reducible refine aa (some 55) (.load 3 (.tmp 54)) ?_);go_must (refine ae (.int .i64 ix) rfl (ah 1 (.int .i64 ix) (st.mem.get 0 rfl) rfl ak rfl) ?_))
         | ((with_reducible refine aa (some 62) (.load 32 (.tmp 6)) ?_);go_must (refine ae (.agg (modL M 24).toArray) rfl (ao 0 (modL M 24) (st.mem.get 1 rfl) rfl _ ax rfl 72 sz_mdl (Nat.le_of_eq (modL24 _).symm) (by rw [List.drop_zero,List.take_of_length_le (Nat.le_of_eq (modL24 _))])) ?_))
         | ((with_reducible refine aa (some 11) (.alloc 32) ?_);go_must (refine aC _ zero_mdl ?_);intro wa q11 hba hqa hra;replace st:=st.add hba hra hqa;clear hba hqa hra)
         | ((with_reducible refine aa none (.store 32 (.tmp 11) (.tmp 62)) ?_);go_must (refine aw (modL M 24) (st.mem.get 0 rfl) rfl rfl 72 sz_mdl (modL24 _) (modL24 _) (aH _ _) ?_);intro wb hub hrb;replace st:=st.updR 0 rfl hub hrb;clear hub hrb)
         | ((with_reducible refine aa (some 65) (.load 3 (.tmp 64)) ?_);refine rest_here ?_))
        intro _ _
        by_cases hw2:wh≤2
        ·have W1:decide (wh≤2)=true:=decide_eq_true hw2
         have W2:decide (wh≤3)=true:=decide_eq_true (by omega)
         have W3:decide (5≤wh)=false:=decide_eq_false (by omega)
         have W4:wh≤3:=by omega
         have W5:¬5≤wh:=by omega
         as_aux_lemma =>
          go_wp2_with (first
           | ((with_reducible refine aa (some 65) (.load 3 (.tmp 64)) ?_);go_must (refine ae (.int .i64 wh) rfl (ah 0 (.int .i64 wh) (st.mem.get 1 rfl) rfl ak rfl) ?_)))
          have HMX:Hid (MB M):=HMB.out
          have HPX:Hid (t.puts≤i+1):=(show t.puts≤i+1 by have:=HPU.out;omega)
          refine au ?_
          refine av (T:=fun W=>(Row W q8 [.int .i64 wh,.int .i64 ix,.int .u8 x,.int .u8 y,.int .i64 pw,.slice p5 n5 c5] 35)) (by kernel_rfl) st.mem ?_
          intro wz hbz hmz
          replace st:=st.below hbz
          have HTW:Hid (Row wz q8 [.int .i64 wh,.int .i64 ix,.int .u8 x,.int .u8 y,.int .i64 pw,.slice p5 n5 c5] 35):=st.mem.get 1 rfl
          clear hbz hmz
          refine aT 0 (v:=.pointer (some ⟨sb,0,none⟩)) rfl (by kernel_rfl) rfl (fun W _=>by go_simp) HTW.out ?_
          go_simp
          refine aT 1 (v:=.int .i64 ix) rfl (by kernel_rfl) rfl (fun W _=>by go_simp) HTW.out ?_
          go_simp
          refine aT 2 (v:=.pointer (some ⟨q8,2,none⟩)) rfl (by kernel_rfl) rfl (fun W _=>by go_simp) HTW.out ?_
          go_simp
          refine aT 3 (v:=.int .u8 x) rfl (by kernel_rfl) rfl (fun W hW=>ah 2 (.int .u8 x) hW rfl aY rfl) HTW.out ?_
          go_simp
          refine aT 5 (v:=.pointer (some ⟨q8,3,none⟩)) rfl (by kernel_rfl) rfl (fun W _=>by go_simp) HTW.out ?_
          go_simp
          refine aT 6 (v:=.int .u8 y) rfl (by kernel_rfl) rfl (fun W hW=>ah 3 (.int .u8 y) hW rfl aY rfl) HTW.out ?_
          go_simp
          refine aO 4 (by kernel_rfl) rfl rfl ?_
          intro K hK
          go_wp2_with ((go_at_call 9;refine (aZ _ _).mono ?_;rintro e wk ⟨rfl,hbk⟩;replace st:=st.below hbk;clear hbk HTW;have HTW:Hid (Row wk q8 [.int .i64 wh,.int .i64 ix,.int .u8 x,.int .u8 y,.int .i64 pw,.slice p5 n5 c5] 35):=st.mem.get 1 rfl))
          refine hK _ _ HTW.out ?_
          clear hK K
          go_simp
          refine aO 7 (by kernel_rfl) rfl rfl ?_
          intro K hK
          go_wp2_with ((go_at_call 9;refine (aZ _ _).mono ?_;rintro e wk ⟨rfl,hbk⟩;replace st:=st.below hbk;clear hbk HTW;have HTW:Hid (Row wk q8 [.int .i64 wh,.int .i64 ix,.int .u8 x,.int .u8 y,.int .i64 pw,.slice p5 n5 c5] 35):=st.mem.get 1 rfl))
          refine hK _ _ HTW.out ?_
          clear hK K
          go_simp
          refine aO 8 (by kernel_rfl) rfl rfl ?_
          intro K hK
          go_wp2_with ((go_at_call 8;go_must (refine (iK st ix HOK.out (keyB x) (keyB y)).mono ?_);rintro e wp ⟨rfl,st9⟩;replace st:=st9;clear st9;clear HTW;have HTW:Hid (Row wp q8 [.int .i64 wh,.int .i64 ix,.int .u8 x,.int .u8 y,.int .i64 pw,.slice p5 n5 c5] 35):=st.mem.get 1 rfl))
          refine hK _ _ HTW.out ?_
          clear hK K
          go_simp
          refine aT 9 (v:=.int .i64 70) rfl (by kernel_rfl) rfl (fun W _=>by go_simp) HTW.out ?_
          go_simp
          refine wpAnyH_done (by kernel_rfl) ?_ _
          simp only [endsIn]
          clear HTW
          go_wp2_with (first
           | ((with_reducible refine aa (some 161) (.load 3 (.tmp 160)) ?_);go_must (refine ae (.int .i64 wh) rfl (ah 0 (.int .i64 wh) (st.mem.get 1 rfl) rfl ak rfl) ?_))
           | ((with_reducible refine aa (some 173) (.load 32 (.tmp 6)) ?_);go_must (refine ae (.agg (modL M 24).toArray) rfl (ao 0 (modL M 24) (st.mem.get 2 rfl) rfl _ ax rfl 72 sz_mdl (Nat.le_of_eq (modL24 _).symm) (by rw [List.drop_zero,List.take_of_length_le (Nat.le_of_eq (modL24 _))])) ?_))
           | ((with_reducible refine aa none (.store 32 (.tmp 11) (.tmp 173)) ?_);go_must (refine aw (modL M 24) (st.mem.get 0 rfl) rfl rfl 72 sz_mdl (modL24 _) (modL24 _) (aH _ _) ?_);intro wb hub hrb;replace st:=st.updR 0 rfl hub hrb;clear hub hrb)
           | ((with_reducible refine aa (some 203) (.load 3 (.tmp 202)) ?_);go_must (refine ae (.int .i64 wh) rfl (ah 0 (.int .i64 wh) (st.mem.get 1 rfl) rfl ak rfl) ?_))
           | (go_at_call 7;go_must (refine (aN st 0 (by omega) (by omega) true (by decide)).mono ?_);rintro e wq ⟨rfl,st9⟩;replace st:=st9;clear st9)
           | ((with_reducible refine aa (some 249) (.load 32 (.tmp 6)) ?_);go_must (refine ae (.agg (modL M 24).toArray) rfl (ao 0 (modL M 24) (st.mem.get 2 rfl) rfl _ ax rfl 72 sz_mdl (Nat.le_of_eq (modL24 _).symm) (by rw [List.drop_zero,List.take_of_length_le (Nat.le_of_eq (modL24 _))])) ?_))
           | (go_at_call 15;go_must (refine (aV st HT.out HQT.out HMX.out).mono ?_);rintro e wq ⟨rfl,st9⟩;replace st:=st9;clear st9))
          go_roundw
          case rel=>exact ⟨i+1,sb,hb,t,M,by omega,by go_num,rfl,(st.tail.tail).more (by omega),HPX.out,HMX.out⟩
          case measure=>simp [intOf];omega
        ·have W1:decide (wh≤2)=false:=decide_eq_false hw2
         by_cases hw3:wh=3
         ·subst hw3
          clear hw2 W1
          as_aux_lemma =>
           have HMX:Hid (MB M):=HMB.out
           have HPX:Hid (t.puts≤i+1):=(show t.puts≤i+1 by have:=HPU.out;omega)
           go_wp2_with (first
            | ((with_reducible refine aa (some 65) (.load 3 (.tmp 64)) ?_);go_must (refine ae (.int .i64 3) rfl (ah 0 (.int .i64 3) (st.mem.get 1 rfl) rfl ak rfl) ?_))
            | ((with_reducible refine aa (some 86) (.load 3 (.tmp 85)) ?_);go_must (refine ae (.int .i64 3) rfl (ah 0 (.int .i64 3) (st.mem.get 1 rfl) rfl ak rfl) ?_))
            | (go_at_call 10;go_must (refine (iJ st ix HOK.out).mono ?_);rintro e wp ⟨rfl,st9⟩;replace st:=st9;clear st9)
            | ((with_reducible refine aa (some 161) (.load 3 (.tmp 160)) ?_);go_must (refine ae (.int .i64 3) rfl (ah 0 (.int .i64 3) (st.mem.get 1 rfl) rfl ak rfl) ?_))
            | ((with_reducible refine aa (some 173) (.load 32 (.tmp 6)) ?_);go_must (refine ae (.agg (modL M 24).toArray) rfl (ao 0 (modL M 24) (st.mem.get 2 rfl) rfl _ ax rfl 72 sz_mdl (Nat.le_of_eq (modL24 _).symm) (by rw [List.drop_zero,List.take_of_length_le (Nat.le_of_eq (modL24 _))])) ?_))
            | ((with_reducible refine aa none (.store 32 (.tmp 11) (.tmp 173)) ?_);go_must (refine aw (modL M 24) (st.mem.get 0 rfl) rfl rfl 72 sz_mdl (modL24 _) (modL24 _) (aH _ _) ?_);intro wb hub hrb;replace st:=st.updR 0 rfl hub hrb;clear hub hrb)
            | ((with_reducible refine aa (some 203) (.load 3 (.tmp 202)) ?_);go_must (refine ae (.int .i64 3) rfl (ah 0 (.int .i64 3) (st.mem.get 1 rfl) rfl ak rfl) ?_))
            | (go_at_call 7;go_must (refine (aN st 0 (by omega) (by omega) true (by decide)).mono ?_);rintro e wq ⟨rfl,st9⟩;replace st:=st9;clear st9)
            | ((with_reducible refine aa (some 249) (.load 32 (.tmp 6)) ?_);go_must (refine ae (.agg (modL M 24).toArray) rfl (ao 0 (modL M 24) (st.mem.get 2 rfl) rfl _ ax rfl 72 sz_mdl (Nat.le_of_eq (modL24 _).symm) (by rw [List.drop_zero,List.take_of_length_le (Nat.le_of_eq (modL24 _))])) ?_))
            | (go_at_call 15;go_must (refine (aV st HT.out HQT.out HMX.out).mono ?_);rintro e wq ⟨rfl,st9⟩;replace st:=st9;clear st9))
           go_roundw
           case rel=>exact ⟨i+1,sb,hb,t,M,by omega,by go_num,rfl,(st.tail.tail).more (by omega),HPX.out,HMX.out⟩
           case measure=>simp [intOf];omega
         ·have W6:(wh==3)=false:=by simpa using hw3
          by_cases hw4:wh=4
          ·subst hw4
           clear hw2 hw3 W1 W6
           obtain ⟨Z,hZ0⟩:∃Z,Z=zero32:=⟨_,rfl⟩
           have HZ:Hid (∀_:Unit,getV t.held ix (keyB x)=(Z,70)):=fun _=>by rw [hZ0];exact iG HOK.out _
           have HZL:Hid (∀_:Unit,Z.length=32):=fun _=>by rw [hZ0];rfl
           clear hZ0
           as_aux_lemma =>
            have HMX:Hid (MB M):=HMB.out
            have HPX:Hid (t.puts≤i+1):=(show t.puts≤i+1 by have:=HPU.out;omega)
            go_wp2_with (first
             | ((with_reducible refine aa (some 65) (.load 3 (.tmp 64)) ?_);go_must (refine ae (.int .i64 4) rfl (ah 0 (.int .i64 4) (st.mem.get 1 rfl) rfl ak rfl) ?_))
             | ((with_reducible refine aa (some 86) (.load 3 (.tmp 85)) ?_);go_must (refine ae (.int .i64 4) rfl (ah 0 (.int .i64 4) (st.mem.get 1 rfl) rfl ak rfl) ?_))
             | ((with_reducible refine aa (some 97) (.load 3 (.tmp 96)) ?_);go_must (refine ae (.int .i64 4) rfl (ah 0 (.int .i64 4) (st.mem.get 1 rfl) rfl ak rfl) ?_))
             | ((with_reducible refine aa (some 103) (.load 5 (.tmp 102)) ?_);go_must (refine ae (.int .u8 x) rfl (ah 2 (.int .u8 x) (st.mem.get 1 rfl) rfl aY rfl) ?_))
             | (go_at_call 9;refine (aZ _ _).mono ?_;rintro e wk ⟨rfl,hbk⟩;replace st:=st.below hbk;clear hbk)
             | (go_at_call 11;go_must (refine (eu st HT.out HQT.out ix x HXB.out Z 70 (HZ.out ())).mono ?_);rintro e wp ⟨rfl,st9⟩;replace st:=st9;clear st9)
             | ((with_reducible refine aa (some 13) (.alloc 39) ?_);go_must (refine aC _ bd ?_);intro wa q13 hba hqa hra;replace st:=st.add hba hra hqa;clear hba hqa hra)
             | ((with_reducible refine aa none (.store 39 (.tmp 13) (.tmp 106)) ?_);go_must (refine aw (u8s Z) (st.mem.get 0 rfl) rfl rfl 32 az (by simp [ab]) (by rw [ab,HZL.out ()]) (aq _) ?_);intro wb hub hrb;replace st:=st.updR 0 rfl hub hrb;clear hub hrb))
            refine au ?_
            refine av (T:=fun W=>(Row W q13 (u8s Z) 39∧Row W q8 [.int .i64 4,.int .i64 ix,.int .u8 x,.int .u8 y,.int .i64 pw,.slice p5 n5 c5] 35∧Row W q6 (modL M 24) 32)) (by kernel_rfl) st.mem ?_
            intro wz hbz hmz
            replace st:=st.below hbz
            have HTW:Hid (Row wz q13 (u8s Z) 39∧Row wz q8 [.int .i64 4,.int .i64 ix,.int .u8 x,.int .u8 y,.int .i64 pw,.slice p5 n5 c5] 35∧Row wz q6 (modL M 24) 32):=⟨st.mem.get 0 rfl,st.mem.get 2 rfl,st.mem.get 3 rfl⟩
            clear hbz hmz
            refine aT 0 (v:=.bool false) rfl (by kernel_rfl) rfl (fun W _=>by go_simp) HTW.out ?_
            go_simp
            refine aT 1 (v:=.bool false) rfl (by kernel_rfl) rfl (fun W _=>by go_simp) HTW.out ?_
            go_simp
            refine ai 2 rfl (by kernel_rfl) (by kernel_rfl) (by kernel_rfl) rfl HTW.out ?_
            go_simp
            refine ai 3 rfl (by kernel_rfl) (by kernel_rfl) (by kernel_rfl) rfl HTW.out ?_
            go_simp
            refine ai 4 rfl (by kernel_rfl) (by kernel_rfl) (by kernel_rfl) rfl HTW.out ?_
            go_simp
            refine ai 5 rfl (by kernel_rfl) (by kernel_rfl) (by kernel_rfl) rfl HTW.out ?_
            go_simp
            refine aT 6 (v:=.bool false) rfl (by kernel_rfl) rfl (fun W _=>by go_simp) HTW.out ?_
            go_simp
            refine aT 7 (v:=.bool false) rfl (by kernel_rfl) rfl (fun W _=>by go_simp) HTW.out ?_
            go_simp
            refine ai 8 rfl (by kernel_rfl) (by kernel_rfl) (by kernel_rfl) rfl HTW.out ?_
            go_simp
            refine ai 9 rfl (by kernel_rfl) (by kernel_rfl) (by kernel_rfl) rfl HTW.out ?_
            go_simp
            refine ai 10 rfl (by kernel_rfl) (by kernel_rfl) (by kernel_rfl) rfl HTW.out ?_
            go_simp
            refine ai 11 rfl (by kernel_rfl) (by kernel_rfl) (by kernel_rfl) rfl HTW.out ?_
            go_simp
            refine ai 12 rfl (by kernel_rfl) (by kernel_rfl) (by kernel_rfl) rfl HTW.out ?_
            go_simp
            refine ai 13 rfl (by kernel_rfl) (by kernel_rfl) (by kernel_rfl) rfl HTW.out ?_
            go_simp
            refine ai 14 rfl (by kernel_rfl) (by kernel_rfl) (by kernel_rfl) rfl HTW.out ?_
            go_simp
            refine aT 15 (v:=.bool false) rfl (by kernel_rfl) rfl (fun W _=>by go_simp) HTW.out ?_
            go_simp
            refine aT 16 (v:=.bool false) rfl (by kernel_rfl) rfl (fun W _=>by go_simp) HTW.out ?_
            go_simp
            refine wpAnyH_done (by kernel_rfl) ?_ _
            simp only [endsIn]
            clear HTW
            go_wp2_with fail
            refine au ?_
            refine av (T:=fun W=>(Row W q13 (u8s Z) 39∧Row W q8 [.int .i64 4,.int .i64 ix,.int .u8 x,.int .u8 y,.int .i64 pw,.slice p5 n5 c5] 35∧Row W q6 (modL M 24) 32)) (by kernel_rfl) st.mem ?_
            intro wz hbz hmz
            replace st:=st.below hbz
            have HTW:Hid (Row wz q13 (u8s Z) 39∧Row wz q8 [.int .i64 4,.int .i64 ix,.int .u8 x,.int .u8 y,.int .i64 pw,.slice p5 n5 c5] 35∧Row wz q6 (modL M 24) 32):=⟨st.mem.get 0 rfl,st.mem.get 2 rfl,st.mem.get 3 rfl⟩
            clear hbz hmz
            refine aT 0 (v:=.bool false) rfl (by kernel_rfl) rfl (fun W _=>by go_simp) HTW.out ?_
            go_simp
            refine aT 1 (v:=.bool false) rfl (by kernel_rfl) rfl (fun W _=>by go_simp) HTW.out ?_
            go_simp
            refine ai 2 rfl (by kernel_rfl) (by kernel_rfl) (by kernel_rfl) rfl HTW.out ?_
            go_simp
            refine ai 3 rfl (by kernel_rfl) (by kernel_rfl) (by kernel_rfl) rfl HTW.out ?_
            go_simp
            refine ai 4 rfl (by kernel_rfl) (by kernel_rfl) (by kernel_rfl) rfl HTW.out ?_
            go_simp
            refine ai 5 rfl (by kernel_rfl) (by kernel_rfl) (by kernel_rfl) rfl HTW.out ?_
            go_simp
            refine ai 6 rfl (by kernel_rfl) (by kernel_rfl) (by kernel_rfl) rfl HTW.out ?_
            go_simp
            refine ai 7 rfl (by kernel_rfl) (by kernel_rfl) (by kernel_rfl) rfl HTW.out ?_
            go_simp
            refine ai 8 rfl (by kernel_rfl) (by kernel_rfl) (by kernel_rfl) rfl HTW.out ?_
            go_simp
            refine ai 9 rfl (by kernel_rfl) (by kernel_rfl) (by kernel_rfl) rfl HTW.out ?_
            go_simp
            refine ai 10 rfl (by kernel_rfl) (by kernel_rfl) (by kernel_rfl) rfl HTW.out ?_
            go_simp
            refine ai 11 rfl (by kernel_rfl) (by kernel_rfl) (by kernel_rfl) rfl HTW.out ?_
            go_simp
            refine ai 12 rfl (by kernel_rfl) (by kernel_rfl) (by kernel_rfl) rfl HTW.out ?_
            go_simp
            refine aT 13 (v:=.bool false) rfl (by kernel_rfl) rfl (fun W _=>by go_simp) HTW.out ?_
            go_simp
            refine aT 14 (v:=.bool false) rfl (by kernel_rfl) rfl (fun W _=>by go_simp) HTW.out ?_
            go_simp
            refine aG 15 (v:=.bool false) rfl (by kernel_rfl) rfl (fun W _=>by go_simp) HTW.out ?_
            go_simp
            refine aG 16 (v:=.bool false) rfl (by kernel_rfl) rfl (fun W _=>by go_simp) HTW.out ?_
            go_simp
            refine ai 17 rfl (by kernel_rfl) (by kernel_rfl) (by kernel_rfl) rfl HTW.out ?_
            go_simp
            refine ai 18 rfl (by kernel_rfl) (by kernel_rfl) (by kernel_rfl) rfl HTW.out ?_
            go_simp
            refine ai 19 rfl (by kernel_rfl) (by kernel_rfl) (by kernel_rfl) rfl HTW.out ?_
            go_simp
            refine ai 20 rfl (by kernel_rfl) (by kernel_rfl) (by kernel_rfl) rfl HTW.out ?_
            go_simp
            refine ai 21 rfl (by kernel_rfl) (by kernel_rfl) (by kernel_rfl) rfl HTW.out ?_
            go_simp
            refine aG 22 (v:=.bool false) rfl (by kernel_rfl) rfl (fun W _=>by go_simp) HTW.out ?_
            go_simp
            refine aG 23 (v:=.bool false) rfl (by kernel_rfl) rfl (fun W _=>by go_simp) HTW.out ?_
            go_simp
            refine ai 24 rfl (by kernel_rfl) (by kernel_rfl) (by kernel_rfl) rfl HTW.out ?_
            go_simp
            refine ai 25 rfl (by kernel_rfl) (by kernel_rfl) (by kernel_rfl) rfl HTW.out ?_
            go_simp
            refine aG 26 (v:=.bool false) rfl (by kernel_rfl) rfl (fun W _=>by go_simp) HTW.out ?_
            go_simp
            refine aT 27 (v:=.bool false) rfl (by kernel_rfl) rfl (fun W _=>by go_simp) HTW.out ?_
            go_simp
            refine aT 28 (v:=.bool false) rfl (by kernel_rfl) rfl (fun W _=>by go_simp) HTW.out ?_
            go_simp
            refine aG 29 (v:=.bool false) rfl (by kernel_rfl) rfl (fun W _=>by go_simp) HTW.out ?_
            go_simp
            refine aG 30 (v:=.bool true) rfl (by kernel_rfl) rfl (fun W _=>by go_simp) HTW.out ?_
            go_simp
            refine aG 31 (v:=.bool true) rfl (by kernel_rfl) rfl (fun W _=>by go_simp) HTW.out ?_
            go_simp
            refine aG 32 (v:=.int .i64 70) rfl (by kernel_rfl) rfl (fun W _=>by go_simp) HTW.out ?_
            go_simp
            refine aG 33 (v:=.bool false) rfl (by kernel_rfl) rfl (fun W _=>by go_simp) HTW.out ?_
            go_simp
            refine aG 34 (v:=.bool false) rfl (by kernel_rfl) rfl (fun W _=>by go_simp) HTW.out ?_
            go_simp
            refine aT 35 (v:=.bool false) rfl (by kernel_rfl) rfl (fun W _=>by go_simp) HTW.out ?_
            go_simp
            refine wpAnyH_done (by kernel_rfl) ?_ _
            simp only [endsIn]
            clear HTW
            go_wp2_with (first
             | ((with_reducible refine aa (some 161) (.load 3 (.tmp 160)) ?_);go_must (refine ae (.int .i64 4) rfl (ah 0 (.int .i64 4) (st.mem.get 2 rfl) rfl ak rfl) ?_))
             | ((with_reducible refine aa (some 187) (.load 32 (.tmp 11)) ?_);go_must (refine ae (.agg (modL M 24).toArray) rfl (ao 0 (modL M 24) (st.mem.get 1 rfl) rfl _ ax rfl 72 sz_mdl (Nat.le_of_eq (modL24 _).symm) (by rw [List.drop_zero,List.take_of_length_le (Nat.le_of_eq (modL24 _))])) ?_))
             | ((with_reducible refine aa none (.store 32 (.tmp 6) (.tmp 187)) ?_);go_must (refine aw (modL M 24) (st.mem.get 3 rfl) rfl rfl 72 sz_mdl (modL24 _) (modL24 _) (aH _ _) ?_);intro wb hub hrb;replace st:=st.updR 3 rfl hub hrb;clear hub hrb)
             | ((with_reducible refine aa (some 203) (.load 3 (.tmp 202)) ?_);go_must (refine ae (.int .i64 4) rfl (ah 0 (.int .i64 4) (st.mem.get 2 rfl) rfl ak rfl) ?_))
             | (go_at_call 7;go_must (refine (aN st 0 (by omega) (by omega) true (by decide)).mono ?_);rintro e wq ⟨rfl,st9⟩;replace st:=st9;clear st9)
             | ((with_reducible refine aa (some 249) (.load 32 (.tmp 6)) ?_);go_must (refine ae (.agg (modL M 24).toArray) rfl (ao 0 (modL M 24) (st.mem.get 3 rfl) rfl _ ax rfl 72 sz_mdl (Nat.le_of_eq (modL24 _).symm) (by rw [List.drop_zero,List.take_of_length_le (Nat.le_of_eq (modL24 _))])) ?_))
             | (go_at_call 15;go_must (refine (aV st HT.out HQT.out HMX.out).mono ?_);rintro e wq ⟨rfl,st9⟩;replace st:=st9;clear st9))
            go_roundw
            case rel=>exact ⟨i+1,sb,hb,t,M,by omega,by go_num,rfl,(st.tail.tail.tail).more (by omega),HPX.out,HMX.out⟩
            case measure=>simp [intOf];omega
          ·have W7:(wh==4)=false:=by simpa using hw4
           have W2:decide (wh≤3)=false:=decide_eq_false (by omega)
           by_cases hw5:5≤wh
           ·have W3:decide (5≤wh)=true:=decide_eq_true hw5
            have W4:¬wh≤3:=by omega
            as_aux_lemma =>
             have HMX:Hid (MB M):=HMB.out
             have HPX:Hid (t.puts≤i+1):=(show t.puts≤i+1 by have:=HPU.out;omega)
             go_wp2_with (first
              | ((with_reducible refine aa (some 65) (.load 3 (.tmp 64)) ?_);go_must (refine ae (.int .i64 wh) rfl (ah 0 (.int .i64 wh) (st.mem.get 1 rfl) rfl ak rfl) ?_))
              | ((with_reducible refine aa (some 86) (.load 3 (.tmp 85)) ?_);go_must (refine ae (.int .i64 wh) rfl (ah 0 (.int .i64 wh) (st.mem.get 1 rfl) rfl ak rfl) ?_))
              | ((with_reducible refine aa (some 97) (.load 3 (.tmp 96)) ?_);go_must (refine ae (.int .i64 wh) rfl (ah 0 (.int .i64 wh) (st.mem.get 1 rfl) rfl ak rfl) ?_))
              | ((with_reducible refine aa (some 161) (.load 3 (.tmp 160)) ?_);go_must (refine ae (.int .i64 wh) rfl (ah 0 (.int .i64 wh) (st.mem.get 1 rfl) rfl ak rfl) ?_))
              | ((with_reducible refine aa (some 187) (.load 32 (.tmp 11)) ?_);go_must (refine ae (.agg (modL M 24).toArray) rfl (ao 0 (modL M 24) (st.mem.get 0 rfl) rfl _ ax rfl 72 sz_mdl (Nat.le_of_eq (modL24 _).symm) (by rw [List.drop_zero,List.take_of_length_le (Nat.le_of_eq (modL24 _))])) ?_))
              | ((with_reducible refine aa none (.store 32 (.tmp 6) (.tmp 187)) ?_);go_must (refine aw (modL M 24) (st.mem.get 2 rfl) rfl rfl 72 sz_mdl (modL24 _) (modL24 _) (aH _ _) ?_);intro wb hub hrb;replace st:=st.updR 2 rfl hub hrb;clear hub hrb)
              | ((with_reducible refine aa (some 203) (.load 3 (.tmp 202)) ?_);go_must (refine ae (.int .i64 wh) rfl (ah 0 (.int .i64 wh) (st.mem.get 1 rfl) rfl ak rfl) ?_))
              | ((with_reducible refine aa (some 211) (.load 33 (.tmp 210)) ?_);go_must (refine ae (.slice p5 n5 c5) rfl (ah 5 (.slice p5 n5 c5) (st.mem.get 1 rfl) rfl ag_bsS rfl) ?_))
              | (go_at_call 13;go_must (refine (ez st ch _ HCB.out HCS.out).mono ?_);rintro e wq ⟨rfl,st9⟩;clear st;have st:=st9;clear st9)
              | (go_at_call 14;go_must (refine (fI st HT.out (by omega)).mono ?_);rintro e wo ⟨s2,h2,rfl,st9⟩;clear st;have st:=st9;clear st9)
              | (go_at_call 7;go_must (refine (aN st 0 (by omega) (by omega) true (by decide)).mono ?_);rintro e wq ⟨rfl,st9⟩;replace st:=st9;clear st9)
              | ((with_reducible refine aa (some 249) (.load 32 (.tmp 6)) ?_);go_must (refine ae (.agg (modL M 24).toArray) rfl (ao 0 (modL M 24) (st.mem.get 2 rfl) rfl _ ax rfl 72 sz_mdl (Nat.le_of_eq (modL24 _).symm) (by rw [List.drop_zero,List.take_of_length_le (Nat.le_of_eq (modL24 _))])) ?_))
              | (go_at_call 15;go_must (refine (aV st HT.out HQT.out HMX.out).mono ?_);rintro e wq ⟨rfl,st9⟩;replace st:=st9;clear st9))
             go_roundw
             case rel=>exact ⟨i+1,s2,h2,t,M,by omega,by go_num,rfl,(st.tail.tail).more (by omega),HPX.out,HMX.out⟩
             case measure=>simp [intOf];omega
           ·omega
       ·have hIb:decide (0≤ix)=false:=decide_eq_false hI0
        go_wp2_with (first
         | ((with_reducible refine aa (some 39) (.indexAddr 22 (.tmp 37) (.tmp 38)) ?_);go_must (refine ae (.pointer (some ⟨b,o+i * 6,none⟩)) rfl (d4 i rfl rfl rfl hlt) ?_))
         | ((with_reducible refine aa (some 40) (.load 35 (.tmp 39)) ?_);go_must (refine ae (.agg ([.int .i64 wh,.int .i64 ix,.int .u8 x,.int .u8 y,.int .i64 pw,.slice p5 n5 c5]:List Value).toArray) rfl (exec_ld6 (o+i * 6) [.int .i64 wh,.int .i64 ix,.int .u8 x,.int .u8 y,.int .i64 pw,.slice p5 n5 c5] rfl (fun j v hv=>st.cell (HC.out j v hv)) rfl) ?_))
         | ((with_reducible refine aa (some 8) (.alloc 35) ?_);go_must (refine aC _ zero_stpS ?_);intro wa q8 hba hqa hra;replace st:=st.add hba hra hqa;clear hba hqa hra)
         | ((with_reducible refine aa none (.store 35 (.tmp 8) (.tmp 40)) ?_);go_must (refine aw [.int .i64 wh,.int .i64 ix,.int .u8 x,.int .u8 y,.int .i64 pw,.slice p5 n5 c5] (st.mem.get 0 rfl) rfl rfl 6 sz_stpS rfl rfl (by intro u hu;simp only [List.mem_cons,List.not_mem_nil,or_false] at hu;rcases hu with rfl|rfl|rfl|rfl|rfl|rfl<;>rfl) ?_);intro wb hub hrb;replace st:=st.updR 0 rfl hub hrb;clear hub hrb)
         | ((with_reducible refine aa (some 42) (.load 33 (.tmp 41)) ?_);go_must (refine ae (.slice p5 n5 c5) rfl (ah 5 (.slice p5 n5 c5) (st.mem.get 0 rfl) rfl ag_bsS rfl) ?_))
         | ((with_reducible refine aa (some 46) (.load 3 (.tmp 45)) ?_);go_must (refine ae (.int .i64 pw) rfl (ah 4 (.int .i64 pw) (st.mem.get 0 rfl) rfl ak rfl) ?_))
         | ((with_reducible refine aa (some 55) (.load 3 (.tmp 54)) ?_);go_must (refine ae (.int .i64 ix) rfl (ah 1 (.int .i64 ix) (st.mem.get 0 rfl) rfl ak rfl) ?_))
         | ((with_reducible refine aa (some 62) (.load 32 (.tmp 6)) ?_);go_must (refine ae (.agg (modL M 24).toArray) rfl (ao 0 (modL M 24) (st.mem.get 1 rfl) rfl _ ax rfl 72 sz_mdl (Nat.le_of_eq (modL24 _).symm) (by rw [List.drop_zero,List.take_of_length_le (Nat.le_of_eq (modL24 _))])) ?_))
         | ((with_reducible refine aa (some 11) (.alloc 32) ?_);go_must (refine aC _ zero_mdl ?_);intro wa q11 hba hqa hra;replace st:=st.add hba hra hqa;clear hba hqa hra)
         | ((with_reducible refine aa none (.store 32 (.tmp 11) (.tmp 62)) ?_);go_must (refine aw (modL M 24) (st.mem.get 0 rfl) rfl rfl 72 sz_mdl (modL24 _) (modL24 _) (aH _ _) ?_);intro wb hub hrb;replace st:=st.updR 0 rfl hub hrb;clear hub hrb)
         | ((with_reducible refine aa (some 65) (.load 3 (.tmp 64)) ?_);refine rest_here ?_))
        intro _ _
        by_cases hw2:wh≤2
        ·have W1:decide (wh≤2)=true:=decide_eq_true hw2
         have W2:decide (wh≤3)=true:=decide_eq_true (by omega)
         have W3:decide (5≤wh)=false:=decide_eq_false (by omega)
         have W4:wh≤3:=by omega
         have W5:¬5≤wh:=by omega
         as_aux_lemma =>
          go_wp2_with (first
           | ((with_reducible refine aa (some 65) (.load 3 (.tmp 64)) ?_);go_must (refine ae (.int .i64 wh) rfl (ah 0 (.int .i64 wh) (st.mem.get 1 rfl) rfl ak rfl) ?_)))
          have HMX:Hid (MB M):=HMB.out
          have HPX:Hid (t.puts≤i+1):=(show t.puts≤i+1 by have:=HPU.out;omega)
          refine au ?_
          refine av (T:=fun W=>(Row W q8 [.int .i64 wh,.int .i64 ix,.int .u8 x,.int .u8 y,.int .i64 pw,.slice p5 n5 c5] 35)) (by kernel_rfl) st.mem ?_
          intro wz hbz hmz
          replace st:=st.below hbz
          have HTW:Hid (Row wz q8 [.int .i64 wh,.int .i64 ix,.int .u8 x,.int .u8 y,.int .i64 pw,.slice p5 n5 c5] 35):=st.mem.get 1 rfl
          clear hbz hmz
          refine aT 0 (v:=.pointer (some ⟨sb,0,none⟩)) rfl (by kernel_rfl) rfl (fun W _=>by go_simp) HTW.out ?_
          go_simp
          refine aT 1 (v:=.int .i64 ix) rfl (by kernel_rfl) rfl (fun W _=>by go_simp) HTW.out ?_
          go_simp
          refine aT 2 (v:=.pointer (some ⟨q8,2,none⟩)) rfl (by kernel_rfl) rfl (fun W _=>by go_simp) HTW.out ?_
          go_simp
          refine aT 3 (v:=.int .u8 x) rfl (by kernel_rfl) rfl (fun W hW=>ah 2 (.int .u8 x) hW rfl aY rfl) HTW.out ?_
          go_simp
          refine aT 5 (v:=.pointer (some ⟨q8,3,none⟩)) rfl (by kernel_rfl) rfl (fun W _=>by go_simp) HTW.out ?_
          go_simp
          refine aT 6 (v:=.int .u8 y) rfl (by kernel_rfl) rfl (fun W hW=>ah 3 (.int .u8 y) hW rfl aY rfl) HTW.out ?_
          go_simp
          refine aO 4 (by kernel_rfl) rfl rfl ?_
          intro K hK
          go_wp2_with ((go_at_call 9;refine (aZ _ _).mono ?_;rintro e wk ⟨rfl,hbk⟩;replace st:=st.below hbk;clear hbk HTW;have HTW:Hid (Row wk q8 [.int .i64 wh,.int .i64 ix,.int .u8 x,.int .u8 y,.int .i64 pw,.slice p5 n5 c5] 35):=st.mem.get 1 rfl))
          refine hK _ _ HTW.out ?_
          clear hK K
          go_simp
          refine aO 7 (by kernel_rfl) rfl rfl ?_
          intro K hK
          go_wp2_with ((go_at_call 9;refine (aZ _ _).mono ?_;rintro e wk ⟨rfl,hbk⟩;replace st:=st.below hbk;clear hbk HTW;have HTW:Hid (Row wk q8 [.int .i64 wh,.int .i64 ix,.int .u8 x,.int .u8 y,.int .i64 pw,.slice p5 n5 c5] 35):=st.mem.get 1 rfl))
          refine hK _ _ HTW.out ?_
          clear hK K
          go_simp
          refine aO 8 (by kernel_rfl) rfl rfl ?_
          intro K hK
          go_wp2_with ((go_at_call 8;go_must (refine (iK st ix HOK.out (keyB x) (keyB y)).mono ?_);rintro e wp ⟨rfl,st9⟩;replace st:=st9;clear st9;clear HTW;have HTW:Hid (Row wp q8 [.int .i64 wh,.int .i64 ix,.int .u8 x,.int .u8 y,.int .i64 pw,.slice p5 n5 c5] 35):=st.mem.get 1 rfl))
          refine hK _ _ HTW.out ?_
          clear hK K
          go_simp
          refine aT 9 (v:=.int .i64 70) rfl (by kernel_rfl) rfl (fun W _=>by go_simp) HTW.out ?_
          go_simp
          refine wpAnyH_done (by kernel_rfl) ?_ _
          simp only [endsIn]
          clear HTW
          go_wp2_with (first
           | ((with_reducible refine aa (some 161) (.load 3 (.tmp 160)) ?_);go_must (refine ae (.int .i64 wh) rfl (ah 0 (.int .i64 wh) (st.mem.get 1 rfl) rfl ak rfl) ?_))
           | ((with_reducible refine aa (some 173) (.load 32 (.tmp 6)) ?_);go_must (refine ae (.agg (modL M 24).toArray) rfl (ao 0 (modL M 24) (st.mem.get 2 rfl) rfl _ ax rfl 72 sz_mdl (Nat.le_of_eq (modL24 _).symm) (by rw [List.drop_zero,List.take_of_length_le (Nat.le_of_eq (modL24 _))])) ?_))
           | ((with_reducible refine aa none (.store 32 (.tmp 11) (.tmp 173)) ?_);go_must (refine aw (modL M 24) (st.mem.get 0 rfl) rfl rfl 72 sz_mdl (modL24 _) (modL24 _) (aH _ _) ?_);intro wb hub hrb;replace st:=st.updR 0 rfl hub hrb;clear hub hrb)
           | ((with_reducible refine aa (some 203) (.load 3 (.tmp 202)) ?_);go_must (refine ae (.int .i64 wh) rfl (ah 0 (.int .i64 wh) (st.mem.get 1 rfl) rfl ak rfl) ?_))
           | (go_at_call 7;go_must (refine (aN st 0 (by omega) (by omega) true (by decide)).mono ?_);rintro e wq ⟨rfl,st9⟩;replace st:=st9;clear st9)
           | ((with_reducible refine aa (some 249) (.load 32 (.tmp 6)) ?_);go_must (refine ae (.agg (modL M 24).toArray) rfl (ao 0 (modL M 24) (st.mem.get 2 rfl) rfl _ ax rfl 72 sz_mdl (Nat.le_of_eq (modL24 _).symm) (by rw [List.drop_zero,List.take_of_length_le (Nat.le_of_eq (modL24 _))])) ?_))
           | (go_at_call 15;go_must (refine (aV st HT.out HQT.out HMX.out).mono ?_);rintro e wq ⟨rfl,st9⟩;replace st:=st9;clear st9))
          go_roundw
          case rel=>exact ⟨i+1,sb,hb,t,M,by omega,by go_num,rfl,(st.tail.tail).more (by omega),HPX.out,HMX.out⟩
          case measure=>simp [intOf];omega
        ·have W1:decide (wh≤2)=false:=decide_eq_false hw2
         by_cases hw3:wh=3
         ·subst hw3
          clear hw2 W1
          as_aux_lemma =>
           have HMX:Hid (MB M):=HMB.out
           have HPX:Hid (t.puts≤i+1):=(show t.puts≤i+1 by have:=HPU.out;omega)
           go_wp2_with (first
            | ((with_reducible refine aa (some 65) (.load 3 (.tmp 64)) ?_);go_must (refine ae (.int .i64 3) rfl (ah 0 (.int .i64 3) (st.mem.get 1 rfl) rfl ak rfl) ?_))
            | ((with_reducible refine aa (some 86) (.load 3 (.tmp 85)) ?_);go_must (refine ae (.int .i64 3) rfl (ah 0 (.int .i64 3) (st.mem.get 1 rfl) rfl ak rfl) ?_))
            | (go_at_call 10;go_must (refine (iJ st ix HOK.out).mono ?_);rintro e wp ⟨rfl,st9⟩;replace st:=st9;clear st9)
            | ((with_reducible refine aa (some 161) (.load 3 (.tmp 160)) ?_);go_must (refine ae (.int .i64 3) rfl (ah 0 (.int .i64 3) (st.mem.get 1 rfl) rfl ak rfl) ?_))
            | ((with_reducible refine aa (some 173) (.load 32 (.tmp 6)) ?_);go_must (refine ae (.agg (modL M 24).toArray) rfl (ao 0 (modL M 24) (st.mem.get 2 rfl) rfl _ ax rfl 72 sz_mdl (Nat.le_of_eq (modL24 _).symm) (by rw [List.drop_zero,List.take_of_length_le (Nat.le_of_eq (modL24 _))])) ?_))
            | ((with_reducible refine aa none (.store 32 (.tmp 11) (.tmp 173)) ?_);go_must (refine aw (modL M 24) (st.mem.get 0 rfl) rfl rfl 72 sz_mdl (modL24 _) (modL24 _) (aH _ _) ?_);intro wb hub hrb;replace st:=st.updR 0 rfl hub hrb;clear hub hrb)
            | ((with_reducible refine aa (some 203) (.load 3 (.tmp 202)) ?_);go_must (refine ae (.int .i64 3) rfl (ah 0 (.int .i64 3) (st.mem.get 1 rfl) rfl ak rfl) ?_))
            | (go_at_call 7;go_must (refine (aN st 0 (by omega) (by omega) true (by decide)).mono ?_);rintro e wq ⟨rfl,st9⟩;replace st:=st9;clear st9)
            | ((with_reducible refine aa (some 249) (.load 32 (.tmp 6)) ?_);go_must (refine ae (.agg (modL M 24).toArray) rfl (ao 0 (modL M 24) (st.mem.get 2 rfl) rfl _ ax rfl 72 sz_mdl (Nat.le_of_eq (modL24 _).symm) (by rw [List.drop_zero,List.take_of_length_le (Nat.le_of_eq (modL24 _))])) ?_))
            | (go_at_call 15;go_must (refine (aV st HT.out HQT.out HMX.out).mono ?_);rintro e wq ⟨rfl,st9⟩;replace st:=st9;clear st9))
           go_roundw
           case rel=>exact ⟨i+1,sb,hb,t,M,by omega,by go_num,rfl,(st.tail.tail).more (by omega),HPX.out,HMX.out⟩
           case measure=>simp [intOf];omega
         ·have W6:(wh==3)=false:=by simpa using hw3
          by_cases hw4:wh=4
          ·subst hw4
           clear hw2 hw3 W1 W6
           obtain ⟨Z,hZ0⟩:∃Z,Z=zero32:=⟨_,rfl⟩
           have HZ:Hid (∀_:Unit,getV t.held ix (keyB x)=(Z,70)):=fun _=>by rw [hZ0];exact iG HOK.out _
           have HZL:Hid (∀_:Unit,Z.length=32):=fun _=>by rw [hZ0];rfl
           clear hZ0
           as_aux_lemma =>
            have HMX:Hid (MB M):=HMB.out
            have HPX:Hid (t.puts≤i+1):=(show t.puts≤i+1 by have:=HPU.out;omega)
            go_wp2_with (first
             | ((with_reducible refine aa (some 65) (.load 3 (.tmp 64)) ?_);go_must (refine ae (.int .i64 4) rfl (ah 0 (.int .i64 4) (st.mem.get 1 rfl) rfl ak rfl) ?_))
             | ((with_reducible refine aa (some 86) (.load 3 (.tmp 85)) ?_);go_must (refine ae (.int .i64 4) rfl (ah 0 (.int .i64 4) (st.mem.get 1 rfl) rfl ak rfl) ?_))
             | ((with_reducible refine aa (some 97) (.load 3 (.tmp 96)) ?_);go_must (refine ae (.int .i64 4) rfl (ah 0 (.int .i64 4) (st.mem.get 1 rfl) rfl ak rfl) ?_))
             | ((with_reducible refine aa (some 103) (.load 5 (.tmp 102)) ?_);go_must (refine ae (.int .u8 x) rfl (ah 2 (.int .u8 x) (st.mem.get 1 rfl) rfl aY rfl) ?_))
             | (go_at_call 9;refine (aZ _ _).mono ?_;rintro e wk ⟨rfl,hbk⟩;replace st:=st.below hbk;clear hbk)
             | (go_at_call 11;go_must (refine (eu st HT.out HQT.out ix x HXB.out Z 70 (HZ.out ())).mono ?_);rintro e wp ⟨rfl,st9⟩;replace st:=st9;clear st9)
             | ((with_reducible refine aa (some 13) (.alloc 39) ?_);go_must (refine aC _ bd ?_);intro wa q13 hba hqa hra;replace st:=st.add hba hra hqa;clear hba hqa hra)
             | ((with_reducible refine aa none (.store 39 (.tmp 13) (.tmp 106)) ?_);go_must (refine aw (u8s Z) (st.mem.get 0 rfl) rfl rfl 32 az (by simp [ab]) (by rw [ab,HZL.out ()]) (aq _) ?_);intro wb hub hrb;replace st:=st.updR 0 rfl hub hrb;clear hub hrb))
            refine au ?_
            refine av (T:=fun W=>(Row W q13 (u8s Z) 39∧Row W q8 [.int .i64 4,.int .i64 ix,.int .u8 x,.int .u8 y,.int .i64 pw,.slice p5 n5 c5] 35∧Row W q6 (modL M 24) 32)) (by kernel_rfl) st.mem ?_
            intro wz hbz hmz
            replace st:=st.below hbz
            have HTW:Hid (Row wz q13 (u8s Z) 39∧Row wz q8 [.int .i64 4,.int .i64 ix,.int .u8 x,.int .u8 y,.int .i64 pw,.slice p5 n5 c5] 35∧Row wz q6 (modL M 24) 32):=⟨st.mem.get 0 rfl,st.mem.get 2 rfl,st.mem.get 3 rfl⟩
            clear hbz hmz
            refine aT 0 (v:=.bool false) rfl (by kernel_rfl) rfl (fun W _=>by go_simp) HTW.out ?_
            go_simp
            refine aT 1 (v:=.bool false) rfl (by kernel_rfl) rfl (fun W _=>by go_simp) HTW.out ?_
            go_simp
            refine ai 2 rfl (by kernel_rfl) (by kernel_rfl) (by kernel_rfl) rfl HTW.out ?_
            go_simp
            refine ai 3 rfl (by kernel_rfl) (by kernel_rfl) (by kernel_rfl) rfl HTW.out ?_
            go_simp
            refine ai 4 rfl (by kernel_rfl) (by kernel_rfl) (by kernel_rfl) rfl HTW.out ?_
            go_simp
            refine ai 5 rfl (by kernel_rfl) (by kernel_rfl) (by kernel_rfl) rfl HTW.out ?_
            go_simp
            refine aT 6 (v:=.bool false) rfl (by kernel_rfl) rfl (fun W _=>by go_simp) HTW.out ?_
            go_simp
            refine aT 7 (v:=.bool false) rfl (by kernel_rfl) rfl (fun W _=>by go_simp) HTW.out ?_
            go_simp
            refine ai 8 rfl (by kernel_rfl) (by kernel_rfl) (by kernel_rfl) rfl HTW.out ?_
            go_simp
            refine ai 9 rfl (by kernel_rfl) (by kernel_rfl) (by kernel_rfl) rfl HTW.out ?_
            go_simp
            refine ai 10 rfl (by kernel_rfl) (by kernel_rfl) (by kernel_rfl) rfl HTW.out ?_
            go_simp
            refine ai 11 rfl (by kernel_rfl) (by kernel_rfl) (by kernel_rfl) rfl HTW.out ?_
            go_simp
            refine ai 12 rfl (by kernel_rfl) (by kernel_rfl) (by kernel_rfl) rfl HTW.out ?_
            go_simp
            refine ai 13 rfl (by kernel_rfl) (by kernel_rfl) (by kernel_rfl) rfl HTW.out ?_
            go_simp
            refine ai 14 rfl (by kernel_rfl) (by kernel_rfl) (by kernel_rfl) rfl HTW.out ?_
            go_simp
            refine aT 15 (v:=.bool false) rfl (by kernel_rfl) rfl (fun W _=>by go_simp) HTW.out ?_
            go_simp
            refine aT 16 (v:=.bool false) rfl (by kernel_rfl) rfl (fun W _=>by go_simp) HTW.out ?_
            go_simp
            refine wpAnyH_done (by kernel_rfl) ?_ _
            simp only [endsIn]
            clear HTW
            go_wp2_with fail
            refine au ?_
            refine av (T:=fun W=>(Row W q13 (u8s Z) 39∧Row W q8 [.int .i64 4,.int .i64 ix,.int .u8 x,.int .u8 y,.int .i64 pw,.slice p5 n5 c5] 35∧Row W q6 (modL M 24) 32)) (by kernel_rfl) st.mem ?_
            intro wz hbz hmz
            replace st:=st.below hbz
            have HTW:Hid (Row wz q13 (u8s Z) 39∧Row wz q8 [.int .i64 4,.int .i64 ix,.int .u8 x,.int .u8 y,.int .i64 pw,.slice p5 n5 c5] 35∧Row wz q6 (modL M 24) 32):=⟨st.mem.get 0 rfl,st.mem.get 2 rfl,st.mem.get 3 rfl⟩
            clear hbz hmz
            refine aT 0 (v:=.bool false) rfl (by kernel_rfl) rfl (fun W _=>by go_simp) HTW.out ?_
            go_simp
            refine aT 1 (v:=.bool false) rfl (by kernel_rfl) rfl (fun W _=>by go_simp) HTW.out ?_
            go_simp
            refine ai 2 rfl (by kernel_rfl) (by kernel_rfl) (by kernel_rfl) rfl HTW.out ?_
            go_simp
            refine ai 3 rfl (by kernel_rfl) (by kernel_rfl) (by kernel_rfl) rfl HTW.out ?_
            go_simp
            refine ai 4 rfl (by kernel_rfl) (by kernel_rfl) (by kernel_rfl) rfl HTW.out ?_
            go_simp
            refine ai 5 rfl (by kernel_rfl) (by kernel_rfl) (by kernel_rfl) rfl HTW.out ?_
            go_simp
            refine ai 6 rfl (by kernel_rfl) (by kernel_rfl) (by kernel_rfl) rfl HTW.out ?_
            go_simp
            refine ai 7 rfl (by kernel_rfl) (by kernel_rfl) (by kernel_rfl) rfl HTW.out ?_
            go_simp
            refine ai 8 rfl (by kernel_rfl) (by kernel_rfl) (by kernel_rfl) rfl HTW.out ?_
            go_simp
            refine ai 9 rfl (by kernel_rfl) (by kernel_rfl) (by kernel_rfl) rfl HTW.out ?_
            go_simp
            refine ai 10 rfl (by kernel_rfl) (by kernel_rfl) (by kernel_rfl) rfl HTW.out ?_
            go_simp
            refine ai 11 rfl (by kernel_rfl) (by kernel_rfl) (by kernel_rfl) rfl HTW.out ?_
            go_simp
            refine ai 12 rfl (by kernel_rfl) (by kernel_rfl) (by kernel_rfl) rfl HTW.out ?_
            go_simp
            refine aT 13 (v:=.bool false) rfl (by kernel_rfl) rfl (fun W _=>by go_simp) HTW.out ?_
            go_simp
            refine aT 14 (v:=.bool false) rfl (by kernel_rfl) rfl (fun W _=>by go_simp) HTW.out ?_
            go_simp
            refine aG 15 (v:=.bool false) rfl (by kernel_rfl) rfl (fun W _=>by go_simp) HTW.out ?_
            go_simp
            refine aG 16 (v:=.bool false) rfl (by kernel_rfl) rfl (fun W _=>by go_simp) HTW.out ?_
            go_simp
            refine ai 17 rfl (by kernel_rfl) (by kernel_rfl) (by kernel_rfl) rfl HTW.out ?_
            go_simp
            refine ai 18 rfl (by kernel_rfl) (by kernel_rfl) (by kernel_rfl) rfl HTW.out ?_
            go_simp
            refine ai 19 rfl (by kernel_rfl) (by kernel_rfl) (by kernel_rfl) rfl HTW.out ?_
            go_simp
            refine ai 20 rfl (by kernel_rfl) (by kernel_rfl) (by kernel_rfl) rfl HTW.out ?_
            go_simp
            refine ai 21 rfl (by kernel_rfl) (by kernel_rfl) (by kernel_rfl) rfl HTW.out ?_
            go_simp
            refine aG 22 (v:=.bool false) rfl (by kernel_rfl) rfl (fun W _=>by go_simp) HTW.out ?_
            go_simp
            refine aG 23 (v:=.bool false) rfl (by kernel_rfl) rfl (fun W _=>by go_simp) HTW.out ?_
            go_simp
            refine ai 24 rfl (by kernel_rfl) (by kernel_rfl) (by kernel_rfl) rfl HTW.out ?_
            go_simp
            refine ai 25 rfl (by kernel_rfl) (by kernel_rfl) (by kernel_rfl) rfl HTW.out ?_
            go_simp
            refine aG 26 (v:=.bool false) rfl (by kernel_rfl) rfl (fun W _=>by go_simp) HTW.out ?_
            go_simp
            refine aT 27 (v:=.bool false) rfl (by kernel_rfl) rfl (fun W _=>by go_simp) HTW.out ?_
            go_simp
            refine aT 28 (v:=.bool false) rfl (by kernel_rfl) rfl (fun W _=>by go_simp) HTW.out ?_
            go_simp
            refine aG 29 (v:=.bool false) rfl (by kernel_rfl) rfl (fun W _=>by go_simp) HTW.out ?_
            go_simp
            refine aG 30 (v:=.bool true) rfl (by kernel_rfl) rfl (fun W _=>by go_simp) HTW.out ?_
            go_simp
            refine aG 31 (v:=.bool true) rfl (by kernel_rfl) rfl (fun W _=>by go_simp) HTW.out ?_
            go_simp
            refine aG 32 (v:=.int .i64 70) rfl (by kernel_rfl) rfl (fun W _=>by go_simp) HTW.out ?_
            go_simp
            refine aG 33 (v:=.bool false) rfl (by kernel_rfl) rfl (fun W _=>by go_simp) HTW.out ?_
            go_simp
            refine aG 34 (v:=.bool false) rfl (by kernel_rfl) rfl (fun W _=>by go_simp) HTW.out ?_
            go_simp
            refine aT 35 (v:=.bool false) rfl (by kernel_rfl) rfl (fun W _=>by go_simp) HTW.out ?_
            go_simp
            refine wpAnyH_done (by kernel_rfl) ?_ _
            simp only [endsIn]
            clear HTW
            go_wp2_with (first
             | ((with_reducible refine aa (some 161) (.load 3 (.tmp 160)) ?_);go_must (refine ae (.int .i64 4) rfl (ah 0 (.int .i64 4) (st.mem.get 2 rfl) rfl ak rfl) ?_))
             | ((with_reducible refine aa (some 187) (.load 32 (.tmp 11)) ?_);go_must (refine ae (.agg (modL M 24).toArray) rfl (ao 0 (modL M 24) (st.mem.get 1 rfl) rfl _ ax rfl 72 sz_mdl (Nat.le_of_eq (modL24 _).symm) (by rw [List.drop_zero,List.take_of_length_le (Nat.le_of_eq (modL24 _))])) ?_))
             | ((with_reducible refine aa none (.store 32 (.tmp 6) (.tmp 187)) ?_);go_must (refine aw (modL M 24) (st.mem.get 3 rfl) rfl rfl 72 sz_mdl (modL24 _) (modL24 _) (aH _ _) ?_);intro wb hub hrb;replace st:=st.updR 3 rfl hub hrb;clear hub hrb)
             | ((with_reducible refine aa (some 203) (.load 3 (.tmp 202)) ?_);go_must (refine ae (.int .i64 4) rfl (ah 0 (.int .i64 4) (st.mem.get 2 rfl) rfl ak rfl) ?_))
             | (go_at_call 7;go_must (refine (aN st 0 (by omega) (by omega) true (by decide)).mono ?_);rintro e wq ⟨rfl,st9⟩;replace st:=st9;clear st9)
             | ((with_reducible refine aa (some 249) (.load 32 (.tmp 6)) ?_);go_must (refine ae (.agg (modL M 24).toArray) rfl (ao 0 (modL M 24) (st.mem.get 3 rfl) rfl _ ax rfl 72 sz_mdl (Nat.le_of_eq (modL24 _).symm) (by rw [List.drop_zero,List.take_of_length_le (Nat.le_of_eq (modL24 _))])) ?_))
             | (go_at_call 15;go_must (refine (aV st HT.out HQT.out HMX.out).mono ?_);rintro e wq ⟨rfl,st9⟩;replace st:=st9;clear st9))
            go_roundw
            case rel=>exact ⟨i+1,sb,hb,t,M,by omega,by go_num,rfl,(st.tail.tail.tail).more (by omega),HPX.out,HMX.out⟩
            case measure=>simp [intOf];omega
          ·have W7:(wh==4)=false:=by simpa using hw4
           have W2:decide (wh≤3)=false:=decide_eq_false (by omega)
           by_cases hw5:5≤wh
           ·have W3:decide (5≤wh)=true:=decide_eq_true hw5
            have W4:¬wh≤3:=by omega
            as_aux_lemma =>
             have HMX:Hid (MB M):=HMB.out
             have HPX:Hid (t.puts≤i+1):=(show t.puts≤i+1 by have:=HPU.out;omega)
             go_wp2_with (first
              | ((with_reducible refine aa (some 65) (.load 3 (.tmp 64)) ?_);go_must (refine ae (.int .i64 wh) rfl (ah 0 (.int .i64 wh) (st.mem.get 1 rfl) rfl ak rfl) ?_))
              | ((with_reducible refine aa (some 86) (.load 3 (.tmp 85)) ?_);go_must (refine ae (.int .i64 wh) rfl (ah 0 (.int .i64 wh) (st.mem.get 1 rfl) rfl ak rfl) ?_))
              | ((with_reducible refine aa (some 97) (.load 3 (.tmp 96)) ?_);go_must (refine ae (.int .i64 wh) rfl (ah 0 (.int .i64 wh) (st.mem.get 1 rfl) rfl ak rfl) ?_))
              | ((with_reducible refine aa (some 161) (.load 3 (.tmp 160)) ?_);go_must (refine ae (.int .i64 wh) rfl (ah 0 (.int .i64 wh) (st.mem.get 1 rfl) rfl ak rfl) ?_))
              | ((with_reducible refine aa (some 187) (.load 32 (.tmp 11)) ?_);go_must (refine ae (.agg (modL M 24).toArray) rfl (ao 0 (modL M 24) (st.mem.get 0 rfl) rfl _ ax rfl 72 sz_mdl (Nat.le_of_eq (modL24 _).symm) (by rw [List.drop_zero,List.take_of_length_le (Nat.le_of_eq (modL24 _))])) ?_))
              | ((with_reducible refine aa none (.store 32 (.tmp 6) (.tmp 187)) ?_);go_must (refine aw (modL M 24) (st.mem.get 2 rfl) rfl rfl 72 sz_mdl (modL24 _) (modL24 _) (aH _ _) ?_);intro wb hub hrb;replace st:=st.updR 2 rfl hub hrb;clear hub hrb)
              | ((with_reducible refine aa (some 203) (.load 3 (.tmp 202)) ?_);go_must (refine ae (.int .i64 wh) rfl (ah 0 (.int .i64 wh) (st.mem.get 1 rfl) rfl ak rfl) ?_))
              | ((with_reducible refine aa (some 211) (.load 33 (.tmp 210)) ?_);go_must (refine ae (.slice p5 n5 c5) rfl (ah 5 (.slice p5 n5 c5) (st.mem.get 1 rfl) rfl ag_bsS rfl) ?_))
              | (go_at_call 13;go_must (refine (ez st ch _ HCB.out HCS.out).mono ?_);rintro e wq ⟨rfl,st9⟩;clear st;have st:=st9;clear st9)
              | (go_at_call 14;go_must (refine (fI st HT.out (by omega)).mono ?_);rintro e wo ⟨s2,h2,rfl,st9⟩;clear st;have st:=st9;clear st9)
              | (go_at_call 7;go_must (refine (aN st 0 (by omega) (by omega) true (by decide)).mono ?_);rintro e wq ⟨rfl,st9⟩;replace st:=st9;clear st9)
              | ((with_reducible refine aa (some 249) (.load 32 (.tmp 6)) ?_);go_must (refine ae (.agg (modL M 24).toArray) rfl (ao 0 (modL M 24) (st.mem.get 2 rfl) rfl _ ax rfl 72 sz_mdl (Nat.le_of_eq (modL24 _).symm) (by rw [List.drop_zero,List.take_of_length_le (Nat.le_of_eq (modL24 _))])) ?_))
              | (go_at_call 15;go_must (refine (aV st HT.out HQT.out HMX.out).mono ?_);rintro e wq ⟨rfl,st9⟩;replace st:=st9;clear st9))
             go_roundw
             case rel=>exact ⟨i+1,s2,h2,t,M,by omega,by go_num,rfl,(st.tail.tail).more (by omega),HPX.out,HMX.out⟩
             case measure=>simp [intOf];omega
           ·omega
   ·have hli:¬(i:Int)<(n:Int):=by omega
    go_wp2_with fail
    go_ret
    exact ⟨rfl,st.mem.below⟩
end Go.Proofs.YtnllomcajijbjaaGreatDoor
