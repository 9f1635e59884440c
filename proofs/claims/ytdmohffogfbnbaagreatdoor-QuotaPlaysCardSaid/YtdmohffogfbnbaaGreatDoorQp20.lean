import Derived.Test.YtdmohffogfbnbaaGreatDoorQp18
import Derived.Test.YtdmohffogfbnbaaGreatDoorQp19
import Derived.Test.YtdmohffogfbnbaaGreatDoorQp16
import Derived.Test.YtdmohffogfbnbaaGreatDoorQp08
set_option maxRecDepth 100000
set_option maxHeartbeats 4000000
namespace Go.Proofs.YtdmohffogfbnbaaGreatDoor
open Go Go.RowKit Go.Maps
theorem qplays_walk (bb ee:Int) (pp:Option Addr) (n cap b o:Nat) (X:Nat→Stp) (w:World) (hp:0<n→pp=some ⟨b,o,none⟩) (hX:∀i,i<n→∀j u,(X i).row[j]?=some u→w.cell? ⟨b,o+i * 4+j,none⟩=some u) (hM:MaxL w) :
  Calls Tryz.prog 3 #[.int .i64 bb,.int .i64 ee,.slice pp n cap] w fun e w'=>e=.returned (.bool true)∧Below w.heap.size w w':=by
 have hm:=Mem.start w
 have HM:Hid (MaxL w):=hM
 have h00:0<w.heap.size:=hM.lt0
 have HX:Hid (∀i,i<n→∀j u,(X i).row[j]?=some u→b<w.heap.size∧w.cell? ⟨b,o+i * 4+j,none⟩=some u):=fun i hi j u hu=>by
  have h1:=hX i hi j u hu
  exact ⟨block_lt_of_cell h1,h1⟩
 clear hM hX
 by_cases hn:40<n
 ·have hni:(40:Int)<(n:Int):=by omega
  clear hp HX
  go_enter Tryz.func3,Tryz.ntmps3
  go_wp2_with (first
   | (go_at_call 6;refine (eo _ (HM.out.below hm.below)).mono ?_;rintro e w1 ⟨he,hb⟩;subst he;replace hm:=hm.call hb;clear hb))
  go_ret
  exact ⟨rfl,hm.below⟩
 ·have hni:¬(40:Int)<(n:Int):=by omega
  have hn4:n≤40:=by omega
  clear hn
  go_enter Tryz.func3,Tryz.ntmps3
  go_wp2_with (first
   | (go_at_call 6;refine (eo _ (HM.out.below hm.below)).mono ?_;rintro e w1 ⟨he,hb⟩;subst he;replace hm:=hm.call hb;clear hb)
   | (go_at_call 8;refine (new_n (bb) (ee) _).mono ?_;rintro e w2 ⟨nb,m,he,hwn,hwm,hn,hb⟩;subst he;have HB:Hid (Below w.heap.size w w2):=hm.below.trans (hb.mono hm.size);replace hwm:w.heap.size≤m:=Nat.le_trans hm.size hwm;have hm0:0<m:=Nat.lt_of_lt_of_le HM.out.lt0 hwm;have HN:Hid (NmAt w2 nb m 1 (newN (bb) (ee))):=hn;have HM2:Hid (MaxL w2):=HM.out.below HB.out;clear hm;have hm:=Mem.start w2;clear hn hb hwn)
   | (go_at_call 7;refine (newL_s _ HN.out (QtOk.new bb ee) HM2.out hm0).mono ?_;rintro e w3 ⟨lb,he,hs,hb⟩;subst he;have HL:Hid (QtS w3 lb nb m 1 (newN bb ee) (fun _=>0) (fun _=>0)):=hs;replace HB:Hid (Below w.heap.size w w3):=aD HB.out HB.out.size hb;clear hm HN HM2 hb hs)
   | (go_at_call 9;refine (newR_n bb ee _).mono ?_;rintro e w4 ⟨rb,he,hwr,hr,hb⟩;subst he;replace hwr:w.heap.size≤rb:=Nat.le_trans HB.out.size hwr;have HS0:Hid (Below w.heap.size w w4∧QtS w4 lb nb m (0+1) (newN bb ee) (fun _=>0) (fun _=>0)∧RfAt w.heap.size w4 rb (newN bb ee)∧((newN bb ee)).length≤0+1):=⟨aD HB.out HB.out.size hb,HL.out.below hb,hr.base HB.out.size,Nat.le_refl _⟩;clear HB HL hb hr))
  go_loopw [9] (fun vi wr=>∃i:Nat,i≤n∧vi=.int .i64 (i:Int)∧∃(p:Nms) (oB oE:List ByteArray→Int),Hid (Below w.heap.size w wr∧QtS wr lb nb m (i+1) p oB oE∧RfAt w.heap.size wr rb p∧(p).length≤i+1)) (fun vi _=>match vi with | .int _ q=>n - q.toNat|_=>0)
  case atStart=>exact ⟨0,by omega,rfl,_,_,_,HS0⟩
  case round =>
   clear HS0
   obtain ⟨i,hi,rfl,p,oB,oE,HS0⟩:=hrel
   by_cases hlt:i<n
   ·have hki:(i:Int)<(n:Int):=by omega
    have hw:IntKind.i64.wrap ((i:Int)+1)=(i:Int)+1:=bO _ (by omega) (by omega)
    have hpp:=hp (by omega)
    subst hpp
    have hm:=Mem.start wr
    obtain ⟨R,hR⟩:∃R,R=(X i).row:=⟨_,rfl⟩
    obtain ⟨wh,hwh⟩:∃x,x=(X i).wh:=⟨_,rfl⟩
    obtain ⟨s,hs⟩:∃x,x=(X i).path:=⟨_,rfl⟩
    obtain ⟨lb2,hlb⟩:∃x,x=(X i).b:=⟨_,rfl⟩
    obtain ⟨le,hle⟩:∃x,x=(X i).e:=⟨_,rfl⟩
    have HR0:Hid (R[0]?=some (.int .i64 wh)):=by show R[0]?=some (.int .i64 wh);rw [hR,hwh];rfl
    have HR1:Hid (R[1]?=some (.string s)):=by show R[1]?=some (.string s);rw [hR,hs];rfl
    have HR2:Hid (R[2]?=some (.int .i64 lb2)):=by show R[2]?=some (.int .i64 lb2);rw [hR,hlb];rfl
    have HR3:Hid (R[3]?=some (.int .i64 le)):=by show R[3]?=some (.int .i64 le);rw [hR,hle];rfl
    have HRL:Hid (R.length=4):=by show R.length=4;rw [hR];rfl
    have HRO:Hid (∀v∈R,v.oneCell'=true):=by show ∀v∈R,v.oneCell'=true;rw [hR];exact Stp.one _
    have HRC:Hid (∀j u,R[j]?=some u→wr.cell? ⟨b,o+i * 4+j,none⟩=some u):=fun j u hu=>by
     have h1:=HX.out i hlt j u (by rw [←hR];exact hu)
     exact (HS0.out.1.cell (p:=⟨b,o+i * 4+j,none⟩) h1.1).trans h1.2
    clear hR hwh hs hlb hle
    by_cases h60:60<s.size
    ·have h60i:(60:Int)<(s.size:Int):=by omega
     clear h60
     go_wp2_with (first
      | ((with_reducible refine ab (some 41) (.indexAddr 22 (.tmp 39) (.tmp 40)) ?_);go_must (refine aa (.pointer (some ⟨b,o+i * 4,none⟩)) rfl (cJ 4 i dl cg rfl rfl rfl hlt) ?_))
      | ((with_reducible refine ab (some 42) (.load 31 (.tmp 41)) ?_);go_must (refine aa (.agg R.toArray) rfl (aA (o+i * 4) 4 R _ rfl HRC.out eH rfl cg HRL.out) ?_))
      | ((with_reducible refine ab (some 10) (.alloc 31) ?_);refine ae _ dO hm ?_;clear hm;intro w3 g10 hm)
      | ((with_reducible refine ab none (.store 31 (.tmp 10) (.tmp 42)) ?_);refine af 0 R hm rfl rfl rfl 4 cg rfl HRL.out HRO.out ?_;clear hm;intro w4 hm;have HS:Hid (QpS w w4 lb nb m rb (i+1) g10 p oB oE p R):=⟨aD HS0.out.1 HS0.out.1.size hm.below,HS0.out.2.1.below hm.below,HS0.out.2.2.1.below hm.below,hm.get 0 rfl,hwm,hwr,h00⟩;clear hm)
      | ((with_reducible refine ab (some 44) (.load 9 (.tmp 43)) ?_);go_must (refine aa (.string s) rfl (ad 1 (.string s) HS.out.row rfl aj HR1.out) ?_)))
     go_ret
     exact ⟨rfl,HS.out.bel⟩
    ·have h60i:¬(60:Int)<(s.size:Int):=by omega
     have HSZ:Hid (s.size≤1000):=by show s.size≤1000;omega
     clear h60
     obtain ⟨r0,hr0⟩:∃r,r=canE p oB oE s lb2 le:=⟨_,rfl⟩
     obtain ⟨q9,hq9⟩:∃q,(r0==0)=q:=⟨_,rfl⟩
     have HCE:Hid (r0=canE p oB oE s lb2 le):=hr0
     have HPL0:Hid (p.length≤41):=by have h9:p.length≤41:=(by have:=HS0.out.2.2.2;omega);exact h9
     have HQ0:Hid (QtOk p oB oE):=HS0.out.2.1.qt
     have HQD:Hid (q9=decide (r0=0)):=by
      have h9:q9=decide (r0=0):=by rw [←hq9];rfl
      exact h9
     have HCA:Hid (∀W,QtS W lb nb m (i+1) p oB oE→Calls Tryz.prog 10 #[.pointer (some ⟨lb,0,none⟩),.string s,.int .i64 lb2,.int .i64 le] W fun e w'=>e=.returned (.bool q9)∧Below W.heap.size W w'):=fun W h1=>can_l h1.lg h1.mx h1.qt s lb2 le r0 HCE.out q9 HQD.out
     have HCB:Hid (∀W,RfAt w.heap.size W rb p→Calls Tryz.prog 11 #[.pointer (some ⟨rb,0,none⟩),.string s,.int .i64 lb2,.int .i64 le] W fun e w'=>e=.returned (.int .i64 r0)∧Below W.heap.size W w'):=fun W h1=>canR_n h1 HQ0.out (by have:=HPL0.out;omega) s HSZ.out lb2 le r0 HCE.out
     have hqq:(q9 != q9)=false:=by simp
     clear hr0
     by_cases h3:wh≤3
     ·obtain ⟨⟨p',oB',oE'⟩,hp'⟩:∃t,(if r0=0 then (chgN p (segsB s) (heldC lb2) (heldC le),upO oB (segsB s) (heldC lb2),upO oE (segsB s) (heldC le)) else (p,oB,oE))=t:=⟨_,rfl⟩
      have HPP:Hid ((if r0=0 then chgN p (segsB s) (heldC lb2) (heldC le) else p)=p'∧p'.length≤i+1+1):=by
       have h9:(if r0=0 then chgN p (segsB s) (heldC lb2) (heldC le) else p)=p'∧p'.length≤i+1+1:=by
        have h7:=HS0.out.2.2.2
        by_cases h8:r0=0
        ·rw [if_pos h8] at hp' ⊢
         simp only [Prod.mk.injEq] at hp'
         refine ⟨hp'.1,?_⟩
         rw [←hp'.1,chgN_len]
         omega
        ·rw [if_neg h8] at hp' ⊢
         simp only [Prod.mk.injEq] at hp'
         refine ⟨hp'.1,?_⟩
         rw [←hp'.1]
         omega
       exact h9
      have HPL2:Hid (p'.length≤i+1+1):=HPP.out.2
      have HC1:Hid (∀W,QtS W lb nb m (i+1) p oB oE→Calls Tryz.prog 12 #[.pointer (some ⟨lb,0,none⟩),.string s,.int .i64 lb2,.int .i64 le] W fun e w'=>e=.returned (.int .i64 r0)∧QtS w' lb nb m (i+1+1) p' oB' oE'∧Upd m W w'):=fun W h1=>by
       refine (cr h1 (by omega) s lb2 le r0 HCE.out.symm p' oB' oE' hp').mono ?_
       rintro e w' ⟨h2,h3,h4⟩
       exact ⟨h2,h3.mono (by omega),h4⟩
      have HC2:Hid (∀W,RfAt w.heap.size W rb p→Calls Tryz.prog 13 #[.pointer (some ⟨rb,0,none⟩),.string s,.int .i64 lb2,.int .i64 le] W fun e w'=>e=.returned (.int .i64 r0)∧RfAt w.heap.size w' rb p'∧RfTurn w.heap.size W w'):=fun W h1=>by
       have h9:=chargeR_n h1 HQ0.out (by have:=HPL0.out;omega) s HSZ.out lb2 le r0 HCE.out
       rw [HPP.out.1] at h9
       exact h9
      have hrr:(r0 != r0)=false:=by simp
      clear hp'
      obtain ⟨a9,ha9⟩:∃k,k=owV oB' p' s:=⟨_,rfl⟩
      obtain ⟨b9,hb9⟩:∃k,k=owV oE' p' s:=⟨_,rfl⟩
      obtain ⟨g9,hg9⟩:∃k,k=getB p' s:=⟨_,rfl⟩
      have hl9:p'.length≤42:=by have:=HPL2.out;omega
      have HPL:Hid (p'.length≤42):=hl9
      have HOA:Hid (∀W,QtS W lb nb m (i+1+1) p' oB' oE'→Calls Tryz.prog 20 #[.pointer (some ⟨lb,0,none⟩),.string s] W fun e w'=>e=.returned (.tuple #[.int .i64 a9,.int .i64 b9,.bool g9])∧Below W.heap.size W w'):=fun W h1=>by rw [ha9,hb9,hg9];exact ownF_l h1.lg h1.qt s
      have HOB:Hid (∀W,RfAt w.heap.size W rb p'→QtOk p' oB' oE'→Calls Tryz.prog 21 #[.pointer (some ⟨rb,0,none⟩),.string s] W fun e w'=>e=.returned (.tuple #[.int .i64 a9,.int .i64 b9,.bool g9])∧Below W.heap.size W w'):=fun W h1 h2=>by rw [ha9,hb9,hg9];exact ownR_n h1 h2 (by have:=HPL.out;omega) s
      have HAL:Hid (∀W,QtS W lb nb m (i+1+1) p' oB' oE'→Calls Tryz.prog 23 #[.pointer (some ⟨nb,0,none⟩)] W fun e w'=>∃v,e=.returned v∧SpN W.heap.size w' v p'∧Below W.heap.size W w'):=fun W h1=>all_n h1.lg.nm (by omega) (by have:=HPL.out;omega) h1.mx
      have HSM:Hid (∀W B va,RfAt w.heap.size W rb p'→QtOk p' oB' oE'→SpN B W va p'→Calls Tryz.prog 22 #[.pointer (some ⟨rb,0,none⟩),va] W fun e w'=>e=.returned (.bool true)∧Below W.heap.size W w'):=fun W B va h1 h3 h2=>sameR_n h1 (by have:=HPL.out;omega) h3.tr.pos h2
      have HCK:Hid (∀W,QtS W lb nb m (i+1+1) p' oB' oE'→Calls Tryz.prog 24 #[.pointer (some ⟨lb,0,none⟩)] W fun e w'=>e=.returned (.bool true)∧Below W.heap.size W w'):=fun W h1=>eO h1.lg (by omega) h1.mx h1.qt (by have:=HPL.out;omega)
      have haa:(a9 != a9)=false:=by simp
      have hbb:(b9 != b9)=false:=by simp
      have hgg:(g9 != g9)=false:=by simp
      clear ha9 hb9 hg9 hl9
      go_wp2_with (first
       | ((with_reducible refine ab (some 41) (.indexAddr 22 (.tmp 39) (.tmp 40)) ?_);go_must (refine aa (.pointer (some ⟨b,o+i * 4,none⟩)) rfl (cJ 4 i dl cg rfl rfl rfl hlt) ?_))
       | ((with_reducible refine ab (some 42) (.load 31 (.tmp 41)) ?_);go_must (refine aa (.agg R.toArray) rfl (aA (o+i * 4) 4 R _ rfl HRC.out eH rfl cg HRL.out) ?_))
       | ((with_reducible refine ab (some 10) (.alloc 31) ?_);refine ae _ dO hm ?_;clear hm;intro w3 g10 hm)
       | ((with_reducible refine ab none (.store 31 (.tmp 10) (.tmp 42)) ?_);refine af 0 R hm rfl rfl rfl 4 cg rfl HRL.out HRO.out ?_;clear hm;intro w4 hm;have HS:Hid (QpS w w4 lb nb m rb (i+1) g10 p oB oE p R):=⟨aD HS0.out.1 HS0.out.1.size hm.below,HS0.out.2.1.below hm.below,HS0.out.2.2.1.below hm.below,hm.get 0 rfl,hwm,hwr,h00⟩;clear hm)
       | ((with_reducible refine ab (some 44) (.load 9 (.tmp 43)) ?_);go_must (refine aa (.string s) rfl (ad 1 (.string s) HS.out.row rfl aj HR1.out) ?_)))
      refine am ?_
      refine ag (T:=fun W=>Row W g10 R 31) (by kernel_rfl) (Mem.start _) ?_
      intro wc hbw _
      replace HS:Hid (QpS w wc lb nb m rb (i+1) g10 p oB oE p R):=HS.out.below hbw
      clear hbw
      refine aT 0 (v:=.pointer (some ⟨lb,0,none⟩)) rfl (by kernel_rfl) rfl (fun W _=>by go_simp) HS.out.row ?_
      go_simp
      refine aT 1 (v:=.pointer (some ⟨g10,1,none⟩)) rfl (by kernel_rfl) rfl (fun W _=>by go_simp) HS.out.row ?_
      go_simp
      refine aT 2 (v:=.string s) rfl (by kernel_rfl) rfl (fun W hW=>ad 1 (.string s) hW rfl aj HR1.out) HS.out.row ?_
      go_simp
      refine aT 3 (v:=.pointer (some ⟨g10,2,none⟩)) rfl (by kernel_rfl) rfl (fun W _=>by go_simp) HS.out.row ?_
      go_simp
      refine aT 4 (v:=.int .i64 lb2) rfl (by kernel_rfl) rfl (fun W hW=>ad 2 (.int .i64 lb2) hW rfl ah HR2.out) HS.out.row ?_
      go_simp
      refine aT 5 (v:=.pointer (some ⟨g10,3,none⟩)) rfl (by kernel_rfl) rfl (fun W _=>by go_simp) HS.out.row ?_
      go_simp
      refine aT 6 (v:=.int .i64 le) rfl (by kernel_rfl) rfl (fun W hW=>ad 3 (.int .i64 le) hW rfl ah HR3.out) HS.out.row ?_
      go_simp
      refine aT 8 (v:=.pointer (some ⟨rb,0,none⟩)) rfl (by kernel_rfl) rfl (fun W _=>by go_simp) HS.out.row ?_
      go_simp
      refine aT 9 (v:=.pointer (some ⟨g10,1,none⟩)) rfl (by kernel_rfl) rfl (fun W _=>by go_simp) HS.out.row ?_
      go_simp
      refine aT 10 (v:=.string s) rfl (by kernel_rfl) rfl (fun W hW=>ad 1 (.string s) hW rfl aj HR1.out) HS.out.row ?_
      go_simp
      refine aT 11 (v:=.pointer (some ⟨g10,2,none⟩)) rfl (by kernel_rfl) rfl (fun W _=>by go_simp) HS.out.row ?_
      go_simp
      refine aT 12 (v:=.int .i64 lb2) rfl (by kernel_rfl) rfl (fun W hW=>ad 2 (.int .i64 lb2) hW rfl ah HR2.out) HS.out.row ?_
      go_simp
      refine aT 13 (v:=.pointer (some ⟨g10,3,none⟩)) rfl (by kernel_rfl) rfl (fun W _=>by go_simp) HS.out.row ?_
      go_simp
      refine aT 14 (v:=.int .i64 le) rfl (by kernel_rfl) rfl (fun W hW=>ad 3 (.int .i64 le) hW rfl ah HR3.out) HS.out.row ?_
      go_simp
      refine aO 7 (by kernel_rfl) rfl rfl ?_
      intro K hK
      go_wp2_with (go_at_call 10;refine (HCA.out _ HS.out.st).mono ?_;rintro e w5 ⟨he,hb⟩;subst he;replace HS:Hid (QpS w w5 lb nb m rb (i+1) g10 p oB oE p R):=HS.out.below hb;clear hb)
      refine hK _ _ HS.out.row ?_
      clear hK K
      go_simp
      refine aO 15 (by kernel_rfl) rfl rfl ?_
      intro K hK
      go_wp2_with (go_at_call 11;refine (HCB.out _ HS.out.ref).mono ?_;rintro e w6 ⟨he,hb⟩;subst he;replace HS:Hid (QpS w w6 lb nb m rb (i+1) g10 p oB oE p R):=HS.out.below hb;clear hb)
      refine hK _ _ HS.out.row ?_
      clear hK K
      go_simp
      refine aT 16 (v:=.bool q9) rfl (by kernel_rfl) rfl (fun W _=>by go_simp<;>exact hq9) HS.out.row ?_
      go_simp
      refine aT 17 (v:=.bool false) rfl (by kernel_rfl) rfl (fun W _=>by go_simp) HS.out.row ?_
      go_simp
      refine wpAnyH_done (by kernel_rfl) ?_ _
      simp only [endsIn]
      go_wp2_with (first
       | ((with_reducible refine ab (some 90) (.load 3 (.tmp 89)) ?_);go_must (refine aa (.int .i64 wh) rfl (ad 0 (.int .i64 wh) HS.out.row rfl ah HR0.out) ?_)))
      refine am ?_
      refine ag (T:=fun W=>Row W g10 R 31) (by kernel_rfl) (Mem.start _) ?_
      intro wc hbw _
      replace HS:Hid (QpS w wc lb nb m rb (i+1) g10 p oB oE p R):=HS.out.below hbw
      clear hbw
      refine aT 0 (v:=.pointer (some ⟨lb,0,none⟩)) rfl (by kernel_rfl) rfl (fun W _=>by go_simp) HS.out.row ?_
      go_simp
      refine aT 1 (v:=.pointer (some ⟨g10,1,none⟩)) rfl (by kernel_rfl) rfl (fun W _=>by go_simp) HS.out.row ?_
      go_simp
      refine aT 2 (v:=.string s) rfl (by kernel_rfl) rfl (fun W hW=>ad 1 (.string s) hW rfl aj HR1.out) HS.out.row ?_
      go_simp
      refine aT 3 (v:=.pointer (some ⟨g10,2,none⟩)) rfl (by kernel_rfl) rfl (fun W _=>by go_simp) HS.out.row ?_
      go_simp
      refine aT 4 (v:=.int .i64 lb2) rfl (by kernel_rfl) rfl (fun W hW=>ad 2 (.int .i64 lb2) hW rfl ah HR2.out) HS.out.row ?_
      go_simp
      refine aT 5 (v:=.pointer (some ⟨g10,3,none⟩)) rfl (by kernel_rfl) rfl (fun W _=>by go_simp) HS.out.row ?_
      go_simp
      refine aT 6 (v:=.int .i64 le) rfl (by kernel_rfl) rfl (fun W hW=>ad 3 (.int .i64 le) hW rfl ah HR3.out) HS.out.row ?_
      go_simp
      refine aT 8 (v:=.pointer (some ⟨rb,0,none⟩)) rfl (by kernel_rfl) rfl (fun W _=>by go_simp) HS.out.row ?_
      go_simp
      refine aT 9 (v:=.pointer (some ⟨g10,1,none⟩)) rfl (by kernel_rfl) rfl (fun W _=>by go_simp) HS.out.row ?_
      go_simp
      refine aT 10 (v:=.string s) rfl (by kernel_rfl) rfl (fun W hW=>ad 1 (.string s) hW rfl aj HR1.out) HS.out.row ?_
      go_simp
      refine aT 11 (v:=.pointer (some ⟨g10,2,none⟩)) rfl (by kernel_rfl) rfl (fun W _=>by go_simp) HS.out.row ?_
      go_simp
      refine aT 12 (v:=.int .i64 lb2) rfl (by kernel_rfl) rfl (fun W hW=>ad 2 (.int .i64 lb2) hW rfl ah HR2.out) HS.out.row ?_
      go_simp
      refine aT 13 (v:=.pointer (some ⟨g10,3,none⟩)) rfl (by kernel_rfl) rfl (fun W _=>by go_simp) HS.out.row ?_
      go_simp
      refine aT 14 (v:=.int .i64 le) rfl (by kernel_rfl) rfl (fun W hW=>ad 3 (.int .i64 le) hW rfl ah HR3.out) HS.out.row ?_
      go_simp
      refine aO 7 (by kernel_rfl) rfl rfl ?_
      intro K hK
      go_wp2_with (go_at_call 12;refine (HC1.out _ HS.out.st).mono ?_;rintro e w5 ⟨he,hn,hu⟩;subst he;replace HS:Hid (QpS w w5 lb nb m rb (i+1+1) g10 p' oB' oE' p R):=HS.out.updM hn hu;clear hn hu)
      refine hK _ _ HS.out.row ?_
      clear hK K
      go_simp
      refine aO 15 (by kernel_rfl) rfl rfl ?_
      intro K hK
      go_wp2_with (go_at_call 13;refine (HC2.out _ HS.out.ref).mono ?_;rintro e w6 ⟨he,hn,bk,lk,hbk,hrk,hu⟩;subst he;replace HS:Hid (QpS w w6 lb nb m rb (i+1+1) g10 p' oB' oE' p' R):=HS.out.updB hn hbk hrk hu;clear hn hbk hrk hu)
      refine hK _ _ HS.out.row ?_
      clear hK K
      go_simp
      refine aT 16 (v:=.bool false) rfl (by kernel_rfl) rfl (fun W _=>by go_simp) HS.out.row ?_
      go_simp
      refine wpAnyH_done (by kernel_rfl) ?_ _
      simp only [endsIn]
      go_wp2_with (first
       | ((with_reducible refine ab (some 134) (.load 9 (.tmp 133)) ?_);go_must (refine aa (.string s) rfl (ad 1 (.string s) HS.out.row rfl aj HR1.out) ?_))
       | (go_at_call 20;refine (HOA.out _ HS.out.st).mono ?_;rintro e wa ⟨he,hb⟩;subst he;replace HS:Hid (QpS w wa lb nb m rb (i+1+1) g10 p' oB' oE' p' R):=HS.out.below hb;clear hb)
       | ((with_reducible refine ab (some 142) (.load 9 (.tmp 141)) ?_);go_must (refine aa (.string s) rfl (ad 1 (.string s) HS.out.row rfl aj HR1.out) ?_))
       | (go_at_call 21;refine (HOB.out _ HS.out.ref HS.out.st.qt).mono ?_;rintro e wb ⟨he,hb⟩;subst he;replace HS:Hid (QpS w wb lb nb m rb (i+1+1) g10 p' oB' oE' p' R):=HS.out.below hb;clear hb)
       | (go_at_call 14;refine (d6 _ HS.out.st.lg).mono ?_;rintro e wd ⟨he,hb⟩;subst he;replace HS:Hid (QpS w wd lb nb m rb (i+1+1) g10 p' oB' oE' p' R):=HS.out.below hb;clear hb)
       | (go_at_call 23;refine (HAL.out _ HS.out.st).mono ?_;rintro e we ⟨va,he,hsp,hb⟩;subst he;replace HS:Hid (QpS w we lb nb m rb (i+1+1) g10 p' oB' oE' p' R):=HS.out.below hb;have HSP:Hid (SpN _ we va p'):=hsp;clear hb hsp)
       | (go_at_call 22;refine (HSM.out _ _ _ HS.out.ref HS.out.st.qt HSP.out).mono ?_;rintro e wf ⟨he,hb⟩;subst he;replace HS:Hid (QpS w wf lb nb m rb (i+1+1) g10 p' oB' oE' p' R):=HS.out.below hb;clear hb)
       | (go_at_call 24;refine (HCK.out _ HS.out.st).mono ?_;rintro e wg ⟨he,hb⟩;subst he;replace HS:Hid (QpS w wg lb nb m rb (i+1+1) g10 p' oB' oE' p' R):=HS.out.below hb;clear hb))
      go_roundw
      case rel=>exact ⟨i+1,by omega,by go_num,p',oB',oE',⟨HS.out.bel,HS.out.st,HS.out.ref,HPL2.out⟩⟩
      case measure=>show n - ((i:Int)+1).toNat<n - (i:Int).toNat;omega
     ·by_cases h4:wh=4
      ·subst h4
       obtain ⟨e0,he0⟩:∃z,z=addE p s lb2 le:=⟨_,rfl⟩
       obtain ⟨p',hp'⟩:∃p',(if e0=0 then addN p (segsB s,lb2,le,0,0,0,0) else p)=p':=⟨_,rfl⟩
       obtain ⟨oB',hoB⟩:∃f,f=oB:=⟨_,rfl⟩
       obtain ⟨oE',hoE⟩:∃f,f=oE:=⟨_,rfl⟩
       have HPL2:Hid (p'.length≤i+1+1):=by
        have h9:p'.length≤i+1+1:=by
         rw [←hp',he0]
         exact Nat.le_trans (addIf_len p s lb2 le) (by have:=HS0.out.2.2.2;omega)
        exact h9
       have HC1:Hid (∀W,QtS W lb nb m (i+1) p oB oE→Calls Tryz.prog 15 #[.pointer (some ⟨nb,0,none⟩),.string s,.int .i64 lb2,.int .i64 le] W fun e w'=>e=.returned (.int .i64 e0)∧QtS w' lb nb m (i+1+1) p' oB' oE'∧Upd m W w'):=fun W h1=>by
        rw [hoB,hoE]
        exact add_s h1 (by omega) s HSZ.out lb2 le e0 he0.symm p' hp'
       have HC2:Hid (∀W,RfAt w.heap.size W rb p→w.heap.size≤W.heap.size→Calls Tryz.prog 16 #[.pointer (some ⟨rb,0,none⟩),.string s,.int .i64 lb2,.int .i64 le] W fun e w'=>e=.returned (.int .i64 e0)∧RfAt w.heap.size w' rb p'∧Upd rb W w'):=fun W h1 h2=>by
        have h9:=addR_n h1 h2 HQ0.out.tr.ok (by have:=HPL0.out;omega) s HSZ.out lb2 le e0 he0
        rw [hp'] at h9
        exact h9
       have hrr:(e0 != e0)=false:=by simp
       clear hp' he0 hoB hoE
       obtain ⟨a9,ha9⟩:∃k,k=owV oB' p' s:=⟨_,rfl⟩
       obtain ⟨b9,hb9⟩:∃k,k=owV oE' p' s:=⟨_,rfl⟩
       obtain ⟨g9,hg9⟩:∃k,k=getB p' s:=⟨_,rfl⟩
       have hl9:p'.length≤42:=by have:=HPL2.out;omega
       have HPL:Hid (p'.length≤42):=hl9
       have HOA:Hid (∀W,QtS W lb nb m (i+1+1) p' oB' oE'→Calls Tryz.prog 20 #[.pointer (some ⟨lb,0,none⟩),.string s] W fun e w'=>e=.returned (.tuple #[.int .i64 a9,.int .i64 b9,.bool g9])∧Below W.heap.size W w'):=fun W h1=>by rw [ha9,hb9,hg9];exact ownF_l h1.lg h1.qt s
       have HOB:Hid (∀W,RfAt w.heap.size W rb p'→QtOk p' oB' oE'→Calls Tryz.prog 21 #[.pointer (some ⟨rb,0,none⟩),.string s] W fun e w'=>e=.returned (.tuple #[.int .i64 a9,.int .i64 b9,.bool g9])∧Below W.heap.size W w'):=fun W h1 h2=>by rw [ha9,hb9,hg9];exact ownR_n h1 h2 (by have:=HPL.out;omega) s
       have HAL:Hid (∀W,QtS W lb nb m (i+1+1) p' oB' oE'→Calls Tryz.prog 23 #[.pointer (some ⟨nb,0,none⟩)] W fun e w'=>∃v,e=.returned v∧SpN W.heap.size w' v p'∧Below W.heap.size W w'):=fun W h1=>all_n h1.lg.nm (by omega) (by have:=HPL.out;omega) h1.mx
       have HSM:Hid (∀W B va,RfAt w.heap.size W rb p'→QtOk p' oB' oE'→SpN B W va p'→Calls Tryz.prog 22 #[.pointer (some ⟨rb,0,none⟩),va] W fun e w'=>e=.returned (.bool true)∧Below W.heap.size W w'):=fun W B va h1 h3 h2=>sameR_n h1 (by have:=HPL.out;omega) h3.tr.pos h2
       have HCK:Hid (∀W,QtS W lb nb m (i+1+1) p' oB' oE'→Calls Tryz.prog 24 #[.pointer (some ⟨lb,0,none⟩)] W fun e w'=>e=.returned (.bool true)∧Below W.heap.size W w'):=fun W h1=>eO h1.lg (by omega) h1.mx h1.qt (by have:=HPL.out;omega)
       have haa:(a9 != a9)=false:=by simp
       have hbb:(b9 != b9)=false:=by simp
       have hgg:(g9 != g9)=false:=by simp
       clear ha9 hb9 hg9 hl9
       go_wp2_with (first
        | ((with_reducible refine ab (some 41) (.indexAddr 22 (.tmp 39) (.tmp 40)) ?_);go_must (refine aa (.pointer (some ⟨b,o+i * 4,none⟩)) rfl (cJ 4 i dl cg rfl rfl rfl hlt) ?_))
        | ((with_reducible refine ab (some 42) (.load 31 (.tmp 41)) ?_);go_must (refine aa (.agg R.toArray) rfl (aA (o+i * 4) 4 R _ rfl HRC.out eH rfl cg HRL.out) ?_))
        | ((with_reducible refine ab (some 10) (.alloc 31) ?_);refine ae _ dO hm ?_;clear hm;intro w3 g10 hm)
        | ((with_reducible refine ab none (.store 31 (.tmp 10) (.tmp 42)) ?_);refine af 0 R hm rfl rfl rfl 4 cg rfl HRL.out HRO.out ?_;clear hm;intro w4 hm;have HS:Hid (QpS w w4 lb nb m rb (i+1) g10 p oB oE p R):=⟨aD HS0.out.1 HS0.out.1.size hm.below,HS0.out.2.1.below hm.below,HS0.out.2.2.1.below hm.below,hm.get 0 rfl,hwm,hwr,h00⟩;clear hm)
        | ((with_reducible refine ab (some 44) (.load 9 (.tmp 43)) ?_);go_must (refine aa (.string s) rfl (ad 1 (.string s) HS.out.row rfl aj HR1.out) ?_)))
       refine am ?_
       refine ag (T:=fun W=>Row W g10 R 31) (by kernel_rfl) (Mem.start _) ?_
       intro wc hbw _
       replace HS:Hid (QpS w wc lb nb m rb (i+1) g10 p oB oE p R):=HS.out.below hbw
       clear hbw
       refine aT 0 (v:=.pointer (some ⟨lb,0,none⟩)) rfl (by kernel_rfl) rfl (fun W _=>by go_simp) HS.out.row ?_
       go_simp
       refine aT 1 (v:=.pointer (some ⟨g10,1,none⟩)) rfl (by kernel_rfl) rfl (fun W _=>by go_simp) HS.out.row ?_
       go_simp
       refine aT 2 (v:=.string s) rfl (by kernel_rfl) rfl (fun W hW=>ad 1 (.string s) hW rfl aj HR1.out) HS.out.row ?_
       go_simp
       refine aT 3 (v:=.pointer (some ⟨g10,2,none⟩)) rfl (by kernel_rfl) rfl (fun W _=>by go_simp) HS.out.row ?_
       go_simp
       refine aT 4 (v:=.int .i64 lb2) rfl (by kernel_rfl) rfl (fun W hW=>ad 2 (.int .i64 lb2) hW rfl ah HR2.out) HS.out.row ?_
       go_simp
       refine aT 5 (v:=.pointer (some ⟨g10,3,none⟩)) rfl (by kernel_rfl) rfl (fun W _=>by go_simp) HS.out.row ?_
       go_simp
       refine aT 6 (v:=.int .i64 le) rfl (by kernel_rfl) rfl (fun W hW=>ad 3 (.int .i64 le) hW rfl ah HR3.out) HS.out.row ?_
       go_simp
       refine aT 8 (v:=.pointer (some ⟨rb,0,none⟩)) rfl (by kernel_rfl) rfl (fun W _=>by go_simp) HS.out.row ?_
       go_simp
       refine aT 9 (v:=.pointer (some ⟨g10,1,none⟩)) rfl (by kernel_rfl) rfl (fun W _=>by go_simp) HS.out.row ?_
       go_simp
       refine aT 10 (v:=.string s) rfl (by kernel_rfl) rfl (fun W hW=>ad 1 (.string s) hW rfl aj HR1.out) HS.out.row ?_
       go_simp
       refine aT 11 (v:=.pointer (some ⟨g10,2,none⟩)) rfl (by kernel_rfl) rfl (fun W _=>by go_simp) HS.out.row ?_
       go_simp
       refine aT 12 (v:=.int .i64 lb2) rfl (by kernel_rfl) rfl (fun W hW=>ad 2 (.int .i64 lb2) hW rfl ah HR2.out) HS.out.row ?_
       go_simp
       refine aT 13 (v:=.pointer (some ⟨g10,3,none⟩)) rfl (by kernel_rfl) rfl (fun W _=>by go_simp) HS.out.row ?_
       go_simp
       refine aT 14 (v:=.int .i64 le) rfl (by kernel_rfl) rfl (fun W hW=>ad 3 (.int .i64 le) hW rfl ah HR3.out) HS.out.row ?_
       go_simp
       refine aO 7 (by kernel_rfl) rfl rfl ?_
       intro K hK
       go_wp2_with (go_at_call 10;refine (HCA.out _ HS.out.st).mono ?_;rintro e w5 ⟨he,hb⟩;subst he;replace HS:Hid (QpS w w5 lb nb m rb (i+1) g10 p oB oE p R):=HS.out.below hb;clear hb)
       refine hK _ _ HS.out.row ?_
       clear hK K
       go_simp
       refine aO 15 (by kernel_rfl) rfl rfl ?_
       intro K hK
       go_wp2_with (go_at_call 11;refine (HCB.out _ HS.out.ref).mono ?_;rintro e w6 ⟨he,hb⟩;subst he;replace HS:Hid (QpS w w6 lb nb m rb (i+1) g10 p oB oE p R):=HS.out.below hb;clear hb)
       refine hK _ _ HS.out.row ?_
       clear hK K
       go_simp
       refine aT 16 (v:=.bool q9) rfl (by kernel_rfl) rfl (fun W _=>by go_simp<;>exact hq9) HS.out.row ?_
       go_simp
       refine aT 17 (v:=.bool false) rfl (by kernel_rfl) rfl (fun W _=>by go_simp) HS.out.row ?_
       go_simp
       refine wpAnyH_done (by kernel_rfl) ?_ _
       simp only [endsIn]
       go_wp2_with (first
        | ((with_reducible refine ab (some 90) (.load 3 (.tmp 89)) ?_);go_must (refine aa (.int .i64 4) rfl (ad 0 (.int .i64 4) HS.out.row rfl ah HR0.out) ?_))
        | ((with_reducible refine ab (some 111) (.load 3 (.tmp 110)) ?_);go_must (refine aa (.int .i64 4) rfl (ad 0 (.int .i64 4) HS.out.row rfl ah HR0.out) ?_)))
       refine am ?_
       refine ag (T:=fun W=>Row W g10 R 31) (by kernel_rfl) (Mem.start _) ?_
       intro wc hbw _
       replace HS:Hid (QpS w wc lb nb m rb (i+1) g10 p oB oE p R):=HS.out.below hbw
       clear hbw
       refine aT 0 (v:=.pointer (some ⟨lb,0,none⟩)) rfl (by kernel_rfl) rfl (fun W _=>by go_simp) HS.out.row ?_
       go_simp
       refine aT 2 (v:=.pointer (some ⟨g10,1,none⟩)) rfl (by kernel_rfl) rfl (fun W _=>by go_simp) HS.out.row ?_
       go_simp
       refine aT 3 (v:=.string s) rfl (by kernel_rfl) rfl (fun W hW=>ad 1 (.string s) hW rfl aj HR1.out) HS.out.row ?_
       go_simp
       refine aT 4 (v:=.pointer (some ⟨g10,2,none⟩)) rfl (by kernel_rfl) rfl (fun W _=>by go_simp) HS.out.row ?_
       go_simp
       refine aT 5 (v:=.int .i64 lb2) rfl (by kernel_rfl) rfl (fun W hW=>ad 2 (.int .i64 lb2) hW rfl ah HR2.out) HS.out.row ?_
       go_simp
       refine aT 6 (v:=.pointer (some ⟨g10,3,none⟩)) rfl (by kernel_rfl) rfl (fun W _=>by go_simp) HS.out.row ?_
       go_simp
       refine aT 7 (v:=.int .i64 le) rfl (by kernel_rfl) rfl (fun W hW=>ad 3 (.int .i64 le) hW rfl ah HR3.out) HS.out.row ?_
       go_simp
       refine aT 9 (v:=.pointer (some ⟨rb,0,none⟩)) rfl (by kernel_rfl) rfl (fun W _=>by go_simp) HS.out.row ?_
       go_simp
       refine aT 10 (v:=.pointer (some ⟨g10,1,none⟩)) rfl (by kernel_rfl) rfl (fun W _=>by go_simp) HS.out.row ?_
       go_simp
       refine aT 11 (v:=.string s) rfl (by kernel_rfl) rfl (fun W hW=>ad 1 (.string s) hW rfl aj HR1.out) HS.out.row ?_
       go_simp
       refine aT 12 (v:=.pointer (some ⟨g10,2,none⟩)) rfl (by kernel_rfl) rfl (fun W _=>by go_simp) HS.out.row ?_
       go_simp
       refine aT 13 (v:=.int .i64 lb2) rfl (by kernel_rfl) rfl (fun W hW=>ad 2 (.int .i64 lb2) hW rfl ah HR2.out) HS.out.row ?_
       go_simp
       refine aT 14 (v:=.pointer (some ⟨g10,3,none⟩)) rfl (by kernel_rfl) rfl (fun W _=>by go_simp) HS.out.row ?_
       go_simp
       refine aT 15 (v:=.int .i64 le) rfl (by kernel_rfl) rfl (fun W hW=>ad 3 (.int .i64 le) hW rfl ah HR3.out) HS.out.row ?_
       go_simp
       refine aO 1 (by kernel_rfl) rfl rfl ?_
       intro K hK
       go_wp2_with (go_at_call 14;refine (d6 _ HS.out.st.lg).mono ?_;rintro e w5 ⟨he,hb⟩;subst he;replace HS:Hid (QpS w w5 lb nb m rb (i+1) g10 p oB oE p R):=HS.out.below hb;clear hb)
       refine hK _ _ HS.out.row ?_
       clear hK K
       go_simp
       refine aO 8 (by kernel_rfl) rfl rfl ?_
       intro K hK
       go_wp2_with (go_at_call 15;refine (HC1.out _ HS.out.st).mono ?_;rintro e w6 ⟨he,hn,hu⟩;subst he;replace HS:Hid (QpS w w6 lb nb m rb (i+1+1) g10 p' oB' oE' p R):=HS.out.updM hn hu;clear hn hu)
       refine hK _ _ HS.out.row ?_
       clear hK K
       go_simp
       refine aO 16 (by kernel_rfl) rfl rfl ?_
       intro K hK
       go_wp2_with (go_at_call 16;refine (HC2.out _ HS.out.ref HS.out.bel.size).mono ?_;rintro e w7 ⟨he,hn,hu⟩;subst he;replace HS:Hid (QpS w w7 lb nb m rb (i+1+1) g10 p' oB' oE' p' R):=HS.out.updR hn hu;clear hn hu)
       refine hK _ _ HS.out.row ?_
       clear hK K
       go_simp
       refine aT 17 (v:=.bool false) rfl (by kernel_rfl) rfl (fun W _=>by go_simp) HS.out.row ?_
       go_simp
       refine wpAnyH_done (by kernel_rfl) ?_ _
       simp only [endsIn]
       go_wp2_with (first
        | ((with_reducible refine ab (some 134) (.load 9 (.tmp 133)) ?_);go_must (refine aa (.string s) rfl (ad 1 (.string s) HS.out.row rfl aj HR1.out) ?_))
        | (go_at_call 20;refine (HOA.out _ HS.out.st).mono ?_;rintro e wa ⟨he,hb⟩;subst he;replace HS:Hid (QpS w wa lb nb m rb (i+1+1) g10 p' oB' oE' p' R):=HS.out.below hb;clear hb)
        | ((with_reducible refine ab (some 142) (.load 9 (.tmp 141)) ?_);go_must (refine aa (.string s) rfl (ad 1 (.string s) HS.out.row rfl aj HR1.out) ?_))
        | (go_at_call 21;refine (HOB.out _ HS.out.ref HS.out.st.qt).mono ?_;rintro e wb ⟨he,hb⟩;subst he;replace HS:Hid (QpS w wb lb nb m rb (i+1+1) g10 p' oB' oE' p' R):=HS.out.below hb;clear hb)
        | (go_at_call 14;refine (d6 _ HS.out.st.lg).mono ?_;rintro e wd ⟨he,hb⟩;subst he;replace HS:Hid (QpS w wd lb nb m rb (i+1+1) g10 p' oB' oE' p' R):=HS.out.below hb;clear hb)
        | (go_at_call 23;refine (HAL.out _ HS.out.st).mono ?_;rintro e we ⟨va,he,hsp,hb⟩;subst he;replace HS:Hid (QpS w we lb nb m rb (i+1+1) g10 p' oB' oE' p' R):=HS.out.below hb;have HSP:Hid (SpN _ we va p'):=hsp;clear hb hsp)
        | (go_at_call 22;refine (HSM.out _ _ _ HS.out.ref HS.out.st.qt HSP.out).mono ?_;rintro e wf ⟨he,hb⟩;subst he;replace HS:Hid (QpS w wf lb nb m rb (i+1+1) g10 p' oB' oE' p' R):=HS.out.below hb;clear hb)
        | (go_at_call 24;refine (HCK.out _ HS.out.st).mono ?_;rintro e wg ⟨he,hb⟩;subst he;replace HS:Hid (QpS w wg lb nb m rb (i+1+1) g10 p' oB' oE' p' R):=HS.out.below hb;clear hb))
       go_roundw
       case rel=>exact ⟨i+1,by omega,by go_num,p',oB',oE',⟨HS.out.bel,HS.out.st,HS.out.ref,HPL2.out⟩⟩
       case measure=>show n - ((i:Int)+1).toNat<n - (i:Int).toNat;omega
      ·have h4b:(wh==4)=false:=by rw [beq_eq_false_iff_ne];exact h4
       obtain ⟨e0,he0⟩:∃z,z=remE p s:=⟨_,rfl⟩
       obtain ⟨⟨p',oB',oE'⟩,hp'⟩:∃t,(if e0=0 then (dropP p (segsB s),dropO oB p (segsB s),dropO oE p (segsB s)) else (p,oB,oE))=t:=⟨_,rfl⟩
       have HPP:Hid ((if e0=0 then dropP p (segsB s) else p)=p'∧p'.length≤i+1+1):=by
        have h9:(if e0=0 then dropP p (segsB s) else p)=p'∧p'.length≤i+1+1:=by
         have h7:=HS0.out.2.2.2
         by_cases h8:e0=0
         ·rw [if_pos h8] at hp' ⊢
          simp only [Prod.mk.injEq] at hp'
          refine ⟨hp'.1,?_⟩
          rw [←hp'.1]
          have:=dropP_len p (segsB s)
          omega
         ·rw [if_neg h8] at hp' ⊢
          simp only [Prod.mk.injEq] at hp'
          refine ⟨hp'.1,?_⟩
          rw [←hp'.1]
          omega
        exact h9
       have HPL2:Hid (p'.length≤i+1+1):=HPP.out.2
       obtain ⟨L,hL⟩:∃L,L=remL p s e0:=⟨_,rfl⟩
       have HLL:Hid (L.length≤90000):=by
        have h9:L.length≤90000:=by
         rw [hL]
         unfold remL
         split
         ·rw [List.length_map]
          have h8:(undN p (segsB s)).length≤p.length:=List.length_filter_le _ _
          have:=HPL0.out
          omega
         ·exact Nat.zero_le _
        exact h9
       have HC1:Hid (∀W,QtS W lb nb m (i+1) p oB oE→Calls Tryz.prog 17 #[.pointer (some ⟨lb,0,none⟩),.string s] W fun e w'=>∃v,e=.returned (.tuple #[v,.int .i64 e0])∧StN W.heap.size w' v L∧QtS w' lb nb m (i+1+1) p' oB' oE'∧Upd m W w'):=fun W h1=>by
        refine (remove_s h1 (by omega) (by have:=HPL0.out;omega) s HSZ.out e0 he0.symm p' oB' oE' hp').mono ?_
        rintro e w' ⟨v,h2,h5,h3,h4⟩
        exact ⟨v,h2,by rw [hL];exact h5,h3.mono (by omega),h4⟩
       have HC2:Hid (∀W,RfAt w.heap.size W rb p→w.heap.size≤W.heap.size→Calls Tryz.prog 18 #[.pointer (some ⟨rb,0,none⟩),.string s] W fun e w'=>∃v,e=.returned (.tuple #[v,.int .i64 e0])∧StN W.heap.size w' v L∧RfAt w.heap.size w' rb p'∧Upd rb W w'):=fun W h1 h2=>by
        have h9:=dropR_n h1 h2 HQ0.out (by have:=HPL0.out;omega) s HSZ.out e0 he0
        rw [HPP.out.1,←hL] at h9
        exact h9
       have hrr:(e0 != e0)=false:=by simp
       clear hp' he0 hL h4
       obtain ⟨a9,ha9⟩:∃k,k=owV oB' p' s:=⟨_,rfl⟩
       obtain ⟨b9,hb9⟩:∃k,k=owV oE' p' s:=⟨_,rfl⟩
       obtain ⟨g9,hg9⟩:∃k,k=getB p' s:=⟨_,rfl⟩
       have hl9:p'.length≤42:=by have:=HPL2.out;omega
       have HPL:Hid (p'.length≤42):=hl9
       have HOA:Hid (∀W,QtS W lb nb m (i+1+1) p' oB' oE'→Calls Tryz.prog 20 #[.pointer (some ⟨lb,0,none⟩),.string s] W fun e w'=>e=.returned (.tuple #[.int .i64 a9,.int .i64 b9,.bool g9])∧Below W.heap.size W w'):=fun W h1=>by rw [ha9,hb9,hg9];exact ownF_l h1.lg h1.qt s
       have HOB:Hid (∀W,RfAt w.heap.size W rb p'→QtOk p' oB' oE'→Calls Tryz.prog 21 #[.pointer (some ⟨rb,0,none⟩),.string s] W fun e w'=>e=.returned (.tuple #[.int .i64 a9,.int .i64 b9,.bool g9])∧Below W.heap.size W w'):=fun W h1 h2=>by rw [ha9,hb9,hg9];exact ownR_n h1 h2 (by have:=HPL.out;omega) s
       have HAL:Hid (∀W,QtS W lb nb m (i+1+1) p' oB' oE'→Calls Tryz.prog 23 #[.pointer (some ⟨nb,0,none⟩)] W fun e w'=>∃v,e=.returned v∧SpN W.heap.size w' v p'∧Below W.heap.size W w'):=fun W h1=>all_n h1.lg.nm (by omega) (by have:=HPL.out;omega) h1.mx
       have HSM:Hid (∀W B va,RfAt w.heap.size W rb p'→QtOk p' oB' oE'→SpN B W va p'→Calls Tryz.prog 22 #[.pointer (some ⟨rb,0,none⟩),va] W fun e w'=>e=.returned (.bool true)∧Below W.heap.size W w'):=fun W B va h1 h3 h2=>sameR_n h1 (by have:=HPL.out;omega) h3.tr.pos h2
       have HCK:Hid (∀W,QtS W lb nb m (i+1+1) p' oB' oE'→Calls Tryz.prog 24 #[.pointer (some ⟨lb,0,none⟩)] W fun e w'=>e=.returned (.bool true)∧Below W.heap.size W w'):=fun W h1=>eO h1.lg (by omega) h1.mx h1.qt (by have:=HPL.out;omega)
       have haa:(a9 != a9)=false:=by simp
       have hbb:(b9 != b9)=false:=by simp
       have hgg:(g9 != g9)=false:=by simp
       clear ha9 hb9 hg9 hl9
       go_wp2_with (first
        | ((with_reducible refine ab (some 41) (.indexAddr 22 (.tmp 39) (.tmp 40)) ?_);go_must (refine aa (.pointer (some ⟨b,o+i * 4,none⟩)) rfl (cJ 4 i dl cg rfl rfl rfl hlt) ?_))
        | ((with_reducible refine ab (some 42) (.load 31 (.tmp 41)) ?_);go_must (refine aa (.agg R.toArray) rfl (aA (o+i * 4) 4 R _ rfl HRC.out eH rfl cg HRL.out) ?_))
        | ((with_reducible refine ab (some 10) (.alloc 31) ?_);refine ae _ dO hm ?_;clear hm;intro w3 g10 hm)
        | ((with_reducible refine ab none (.store 31 (.tmp 10) (.tmp 42)) ?_);refine af 0 R hm rfl rfl rfl 4 cg rfl HRL.out HRO.out ?_;clear hm;intro w4 hm;have HS:Hid (QpS w w4 lb nb m rb (i+1) g10 p oB oE p R):=⟨aD HS0.out.1 HS0.out.1.size hm.below,HS0.out.2.1.below hm.below,HS0.out.2.2.1.below hm.below,hm.get 0 rfl,hwm,hwr,h00⟩;clear hm)
        | ((with_reducible refine ab (some 44) (.load 9 (.tmp 43)) ?_);go_must (refine aa (.string s) rfl (ad 1 (.string s) HS.out.row rfl aj HR1.out) ?_)))
       refine am ?_
       refine ag (T:=fun W=>Row W g10 R 31) (by kernel_rfl) (Mem.start _) ?_
       intro wc hbw _
       replace HS:Hid (QpS w wc lb nb m rb (i+1) g10 p oB oE p R):=HS.out.below hbw
       clear hbw
       refine aT 0 (v:=.pointer (some ⟨lb,0,none⟩)) rfl (by kernel_rfl) rfl (fun W _=>by go_simp) HS.out.row ?_
       go_simp
       refine aT 1 (v:=.pointer (some ⟨g10,1,none⟩)) rfl (by kernel_rfl) rfl (fun W _=>by go_simp) HS.out.row ?_
       go_simp
       refine aT 2 (v:=.string s) rfl (by kernel_rfl) rfl (fun W hW=>ad 1 (.string s) hW rfl aj HR1.out) HS.out.row ?_
       go_simp
       refine aT 3 (v:=.pointer (some ⟨g10,2,none⟩)) rfl (by kernel_rfl) rfl (fun W _=>by go_simp) HS.out.row ?_
       go_simp
       refine aT 4 (v:=.int .i64 lb2) rfl (by kernel_rfl) rfl (fun W hW=>ad 2 (.int .i64 lb2) hW rfl ah HR2.out) HS.out.row ?_
       go_simp
       refine aT 5 (v:=.pointer (some ⟨g10,3,none⟩)) rfl (by kernel_rfl) rfl (fun W _=>by go_simp) HS.out.row ?_
       go_simp
       refine aT 6 (v:=.int .i64 le) rfl (by kernel_rfl) rfl (fun W hW=>ad 3 (.int .i64 le) hW rfl ah HR3.out) HS.out.row ?_
       go_simp
       refine aT 8 (v:=.pointer (some ⟨rb,0,none⟩)) rfl (by kernel_rfl) rfl (fun W _=>by go_simp) HS.out.row ?_
       go_simp
       refine aT 9 (v:=.pointer (some ⟨g10,1,none⟩)) rfl (by kernel_rfl) rfl (fun W _=>by go_simp) HS.out.row ?_
       go_simp
       refine aT 10 (v:=.string s) rfl (by kernel_rfl) rfl (fun W hW=>ad 1 (.string s) hW rfl aj HR1.out) HS.out.row ?_
       go_simp
       refine aT 11 (v:=.pointer (some ⟨g10,2,none⟩)) rfl (by kernel_rfl) rfl (fun W _=>by go_simp) HS.out.row ?_
       go_simp
       refine aT 12 (v:=.int .i64 lb2) rfl (by kernel_rfl) rfl (fun W hW=>ad 2 (.int .i64 lb2) hW rfl ah HR2.out) HS.out.row ?_
       go_simp
       refine aT 13 (v:=.pointer (some ⟨g10,3,none⟩)) rfl (by kernel_rfl) rfl (fun W _=>by go_simp) HS.out.row ?_
       go_simp
       refine aT 14 (v:=.int .i64 le) rfl (by kernel_rfl) rfl (fun W hW=>ad 3 (.int .i64 le) hW rfl ah HR3.out) HS.out.row ?_
       go_simp
       refine aO 7 (by kernel_rfl) rfl rfl ?_
       intro K hK
       go_wp2_with (go_at_call 10;refine (HCA.out _ HS.out.st).mono ?_;rintro e w5 ⟨he,hb⟩;subst he;replace HS:Hid (QpS w w5 lb nb m rb (i+1) g10 p oB oE p R):=HS.out.below hb;clear hb)
       refine hK _ _ HS.out.row ?_
       clear hK K
       go_simp
       refine aO 15 (by kernel_rfl) rfl rfl ?_
       intro K hK
       go_wp2_with (go_at_call 11;refine (HCB.out _ HS.out.ref).mono ?_;rintro e w6 ⟨he,hb⟩;subst he;replace HS:Hid (QpS w w6 lb nb m rb (i+1) g10 p oB oE p R):=HS.out.below hb;clear hb)
       refine hK _ _ HS.out.row ?_
       clear hK K
       go_simp
       refine aT 16 (v:=.bool q9) rfl (by kernel_rfl) rfl (fun W _=>by go_simp<;>exact hq9) HS.out.row ?_
       go_simp
       refine aT 17 (v:=.bool false) rfl (by kernel_rfl) rfl (fun W _=>by go_simp) HS.out.row ?_
       go_simp
       refine wpAnyH_done (by kernel_rfl) ?_ _
       simp only [endsIn]
       go_wp2_with (first
        | ((with_reducible refine ab (some 90) (.load 3 (.tmp 89)) ?_);go_must (refine aa (.int .i64 wh) rfl (ad 0 (.int .i64 wh) HS.out.row rfl ah HR0.out) ?_))
        | ((with_reducible refine ab (some 111) (.load 3 (.tmp 110)) ?_);go_must (refine aa (.int .i64 wh) rfl (ad 0 (.int .i64 wh) HS.out.row rfl ah HR0.out) ?_))
        | ((with_reducible refine ab (some 68) (.load 9 (.tmp 67)) ?_);go_must (refine aa (.string s) rfl (ad 1 (.string s) HS.out.row rfl aj HR1.out) ?_))
        | (go_at_call 17;refine (HC1.out _ HS.out.st).mono ?_;rintro e w5 ⟨v1,he,hst,hn,hu⟩;subst he;have HT1:Hid (StN _ w5 v1 L):=hst;have hrl:=HS.out.ref.lt;replace HS:Hid (QpS w w5 lb nb m rb (i+1+1) g10 p' oB' oE' p R):=HS.out.updM hn hu;clear hn hu hst)
        | ((with_reducible refine ab (some 75) (.load 9 (.tmp 74)) ?_);go_must (refine aa (.string s) rfl (ad 1 (.string s) HS.out.row rfl aj HR1.out) ?_))
        | (go_at_call 18;refine (HC2.out _ HS.out.ref HS.out.bel.size).mono ?_;rintro e w6 ⟨v2,he,hst,hn,hu⟩;subst he;replace HT1:Hid (StN _ w6 v1 L):=HT1.out.updL hu hrl;have HT2:Hid (StN _ w6 v2 L):=hst;replace HS:Hid (QpS w w6 lb nb m rb (i+1+1) g10 p' oB' oE' p' R):=HS.out.updR hn hu;clear hn hu hst hrl)
        | (go_at_call 19;refine (texts_n HT1.out HT2.out HLL.out).mono ?_;rintro e w7 ⟨he,hb⟩;subst he;replace HS:Hid (QpS w w7 lb nb m rb (i+1+1) g10 p' oB' oE' p' R):=HS.out.below hb;clear hb HT1 HT2)
        | ((with_reducible refine ab (some 134) (.load 9 (.tmp 133)) ?_);go_must (refine aa (.string s) rfl (ad 1 (.string s) HS.out.row rfl aj HR1.out) ?_))
        | (go_at_call 20;refine (HOA.out _ HS.out.st).mono ?_;rintro e wa ⟨he,hb⟩;subst he;replace HS:Hid (QpS w wa lb nb m rb (i+1+1) g10 p' oB' oE' p' R):=HS.out.below hb;clear hb)
        | ((with_reducible refine ab (some 142) (.load 9 (.tmp 141)) ?_);go_must (refine aa (.string s) rfl (ad 1 (.string s) HS.out.row rfl aj HR1.out) ?_))
        | (go_at_call 21;refine (HOB.out _ HS.out.ref HS.out.st.qt).mono ?_;rintro e wb ⟨he,hb⟩;subst he;replace HS:Hid (QpS w wb lb nb m rb (i+1+1) g10 p' oB' oE' p' R):=HS.out.below hb;clear hb)
        | (go_at_call 14;refine (d6 _ HS.out.st.lg).mono ?_;rintro e wd ⟨he,hb⟩;subst he;replace HS:Hid (QpS w wd lb nb m rb (i+1+1) g10 p' oB' oE' p' R):=HS.out.below hb;clear hb)
        | (go_at_call 23;refine (HAL.out _ HS.out.st).mono ?_;rintro e we ⟨va,he,hsp,hb⟩;subst he;replace HS:Hid (QpS w we lb nb m rb (i+1+1) g10 p' oB' oE' p' R):=HS.out.below hb;have HSP:Hid (SpN _ we va p'):=hsp;clear hb hsp)
        | (go_at_call 22;refine (HSM.out _ _ _ HS.out.ref HS.out.st.qt HSP.out).mono ?_;rintro e wf ⟨he,hb⟩;subst he;replace HS:Hid (QpS w wf lb nb m rb (i+1+1) g10 p' oB' oE' p' R):=HS.out.below hb;clear hb)
        | (go_at_call 24;refine (HCK.out _ HS.out.st).mono ?_;rintro e wg ⟨he,hb⟩;subst he;replace HS:Hid (QpS w wg lb nb m rb (i+1+1) g10 p' oB' oE' p' R):=HS.out.below hb;clear hb))
       go_roundw
       case rel=>exact ⟨i+1,by omega,by go_num,p',oB',oE',⟨HS.out.bel,HS.out.st,HS.out.ref,HPL2.out⟩⟩
       case measure=>show n - ((i:Int)+1).toNat<n - (i:Int).toNat;omega
   ·have hin:i=n:=by omega
    have hki:¬(i:Int)<(n:Int):=by omega
    go_wp2_with fail
    go_ret
    exact ⟨rfl,HS0.out.1⟩
end Go.Proofs.YtdmohffogfbnbaaGreatDoor
