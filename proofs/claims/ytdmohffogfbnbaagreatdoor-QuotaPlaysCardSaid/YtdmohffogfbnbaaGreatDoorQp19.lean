import Derived.Test.YtdmohffogfbnbaaGreatDoorQp14
import Derived.Test.YtdmohffogfbnbaaGreatDoorQp16
set_option maxRecDepth 100000
set_option maxHeartbeats 4000000
namespace Go.Proofs.YtdmohffogfbnbaaGreatDoor
open Go Go.RowKit Go.Maps
def oZ:List ByteArray→Int:=fun _=>0
def pK0:Nms:=newN 10 10
def pK1:Nms:=addN pK0 (segsB ⟨#[97]⟩,5,5,0,0,0,0)
def pK2:Nms:=chgN pK1 (segsB ⟨#[97]⟩) (heldC 5) (heldC 1)
def bK2:List ByteArray→Int:=upO oZ (segsB ⟨#[97]⟩) (heldC 5)
def eK2:List ByteArray→Int:=upO oZ (segsB ⟨#[97]⟩) (heldC 1)
def pK3:Nms:=chgN pK2 (segsB ⟨#[]⟩) (heldC 5) (heldC 0)
def bK3:List ByteArray→Int:=upO bK2 (segsB ⟨#[]⟩) (heldC 5)
def eK3:List ByteArray→Int:=upO eK2 (segsB ⟨#[]⟩) (heldC 0)
theorem kQ0:addE pK0 ⟨#[97]⟩ 5 5=0:=by decide +kernel
theorem kQ1:canE pK1 oZ oZ ⟨#[97]⟩ 6 1=170:=by decide +kernel
theorem kQ2:canE pK1 oZ oZ ⟨#[97]⟩ 5 1=0:=by decide +kernel
theorem kQ3:canE pK2 bK2 eK2 ⟨#[]⟩ 6 0=170:=by decide +kernel
theorem kQ4:canE pK2 bK2 eK2 ⟨#[]⟩ 5 0=0:=by decide +kernel
theorem kQ5:canE pK3 bK3 eK3 ⟨#[97]⟩ (-6) 0=12:=by decide +kernel
theorem kQ6:canE pK3 bK3 eK3 ⟨#[113]⟩ 1 1=100:=by decide +kernel
theorem kQ7:canE pK3 bK3 eK3 ⟨#[97]⟩ 1 0=170:=by decide +kernel
theorem kQ8:owV bK3 pK3 ⟨#[]⟩=5∧owV eK3 pK3 ⟨#[]⟩=0∧getB pK3 ⟨#[]⟩=true:=by decide +kernel
theorem kQ9:getV pK3 ⟨#[]⟩=[.string noStr,.int .i64 10,.int .i64 10,.int .i64 10,.int .i64 1]:=by kernel_rfl
theorem kQA:pK3.length=2:=by decide +kernel
theorem eo (w:World) (hM:MaxL w):Calls Tryz.prog 6 #[] w fun e w'=>e=.returned (.bool true)∧Below w.heap.size w w':=by
 have HM:Hid (MaxL w):=hM
 clear hM
 have tk0:Nat:=0
 have tk1:Nat:=0
 have tk2:Nat:=0
 have tk3:Nat:=0
 have tk4:Nat:=0
 go_enter Tryz.func6,Tryz.ntmps6
 go_wp2_with (first
  | (go_at_call 8;refine (new_n 10 10 _).mono ?_;rintro e w1 ⟨nb,m,he,hwn,hwm,hn,hb⟩;subst he;have hm0:0<m:=Nat.lt_of_lt_of_le HM.out.lt0 hwm;have HN:Hid (NmAt w1 nb m 1 pK0):=hn;have HB:Hid (Below w.heap.size w w1):=hb;clear hn hb)
  | (go_at_call 15;refine (add_k HN.out (by omega) ⟨#[97]⟩ (by decide) (HM.out.below HB.out) 5 5 0 pK1 kQ0 rfl).mono ?_;rintro e w2 ⟨he,hn,hu⟩;subst he;replace HN:Hid (NmAt w2 nb m 2 pK1):=hn;replace HB:Hid (Below w.heap.size w w2):=be HB.out hu hwm HB.out.size;clear hn hu)
  | (go_at_call 7;refine (newL_s _ HN.out ((QtOk.new 10 10).add kQ0) (HM.out.below HB.out) hm0).mono ?_;rintro e w3 ⟨lb,he,hs,hb⟩;subst he;have HS:Hid (QtS w3 lb nb m 2 pK1 oZ oZ):=hs;replace HB:Hid (Below w.heap.size w w3):=aD HB.out HB.out.size hb;clear hs hb HN)
  | (clear tk0;go_at_call 12;refine (cr HS.out (by omega) ⟨#[97]⟩ (6) (1) 170 kQ1 pK1 oZ oZ (by rw [if_neg (by decide)])).mono ?_;rintro e_ w' ⟨he_,hs_,hu_⟩;subst he_;replace HB:Hid (Below w.heap.size w w'):=be HB.out hu_ hwm HB.out.size;replace HS:Hid (QtS w' lb nb m 2 pK1 oZ oZ):=hs_;clear hs_ hu_)
  | (clear tk1;go_at_call 12;refine (cr HS.out (by omega) ⟨#[97]⟩ (5) (1) 0 kQ2 pK2 bK2 eK2 (by rw [if_pos rfl];rfl)).mono ?_;rintro e_ w' ⟨he_,hs_,hu_⟩;subst he_;replace HB:Hid (Below w.heap.size w w'):=be HB.out hu_ hwm HB.out.size;replace HS:Hid (QtS w' lb nb m 2 pK2 bK2 eK2):=hs_;clear hs_ hu_)
  | (clear tk2;go_at_call 12;refine (cr HS.out (by omega) ⟨#[]⟩ (6) (0) 170 kQ3 pK2 bK2 eK2 (by rw [if_neg (by decide)])).mono ?_;rintro e_ w' ⟨he_,hs_,hu_⟩;subst he_;replace HB:Hid (Below w.heap.size w w'):=be HB.out hu_ hwm HB.out.size;replace HS:Hid (QtS w' lb nb m 2 pK2 bK2 eK2):=hs_;clear hs_ hu_)
  | (clear tk3;go_at_call 12;refine (cr HS.out (by omega) ⟨#[]⟩ (5) (0) 0 kQ4 pK3 bK3 eK3 (by rw [if_pos rfl];rfl)).mono ?_;rintro e_ w' ⟨he_,hs_,hu_⟩;subst he_;replace HB:Hid (Below w.heap.size w w'):=be HB.out hu_ hwm HB.out.size;replace HS:Hid (QtS w' lb nb m 2 pK3 bK3 eK3):=hs_;clear hs_ hu_)
  | (go_at_call 20;refine (ownF_l HS.out.lg HS.out.qt ⟨#[]⟩).mono ?_;rintro e w4 ⟨he,hb⟩;rw [kQ8.1,kQ8.2.1,kQ8.2.2] at he;subst he;replace HS:Hid (QtS w4 lb nb m 2 pK3 bK3 eK3):=HS.out.below hb;replace HB:Hid (Below w.heap.size w w4):=aD HB.out HB.out.size hb;clear hb;have hm:=Mem.start w4)
  | (go_at_call 14;refine (d6 _ (HS.out.below hm.below).lg).mono ?_;rintro e w' ⟨he,hb⟩;subst he;replace hm:=hm.call hb;clear hb)
  | (go_at_call 26;refine (get_k (HS.out.below hm.below).lg.nm ⟨#[]⟩ (by decide) (HS.out.below hm.below).mx _ _ kQ9 kQ8.2.2).mono ?_;rintro e w' ⟨he,hb⟩;subst he;replace hm:=hm.call hb;clear hb)
  | ((with_reducible refine ab (some 10) (.alloc 50) ?_);refine ae _ aS hm ?_;clear hm;intro w5 g10 hm)
  | ((with_reducible refine ab none (.store 50 (.tmp 10) (.tmp 36)) ?_);refine af 0 [.string noStr,.int .i64 10,.int .i64 10,.int .i64 10,.int .i64 1] hm rfl rfl rfl 5 ao rfl rfl (by intro v hv;simp at hv;rcases hv with rfl|rfl|rfl<;>rfl) ?_;clear hm;intro w6 hm)
  | ((with_reducible refine ax (some 65) (.load 3 (.tmp 64)) (some (25,true)) ?_);go_must (refine aa (.int .i64 10) rfl (ad 3 (.int .i64 10) (hm.get 0 rfl) rfl ah (rfl)) ?_))
  | (go_at_call 24;refine (eO (HS.out.below hm.below).lg (by omega) (HS.out.below hm.below).mx (HS.out.below hm.below).qt (by rw [kQA];omega)).mono ?_;rintro e w7 ⟨he,hb⟩;subst he;replace hm:=hm.call hb;replace HS:Hid (QtS w7 lb nb m 2 pK3 bK3 eK3):=HS.out.below hm.below;replace HB:Hid (Below w.heap.size w w7):=aD HB.out HB.out.size hm.below;clear hb hm)
  | (clear tk4;go_at_call 12;refine (cr HS.out (by omega) ⟨#[97]⟩ (-6) (0) 12 kQ5 pK3 bK3 eK3 (by rw [if_neg (by decide)])).mono ?_;rintro e_ w' ⟨he_,hs_,hu_⟩;subst he_;replace HB:Hid (Below w.heap.size w w'):=be HB.out hu_ hwm HB.out.size;replace HS:Hid (QtS w' lb nb m 2 pK3 bK3 eK3):=hs_;clear hs_ hu_)
  | (go_at_call 12;refine (cr HS.out (by omega) ⟨#[113]⟩ (1) (1) 100 kQ6 pK3 bK3 eK3 (by rw [if_neg (by decide)])).mono ?_;rintro e_ w' ⟨he_,hs_,hu_⟩;subst he_;replace HB:Hid (Below w.heap.size w w'):=be HB.out hu_ hwm HB.out.size;replace HS:Hid (QtS w' lb nb m 2 pK3 bK3 eK3):=hs_;clear hs_ hu_)
  | (go_at_call 10;refine (can_l HS.out.lg HS.out.mx HS.out.qt ⟨#[97]⟩ 1 0 170 kQ7.symm false rfl).mono ?_;rintro e w8 ⟨he,hb⟩;subst he;replace HB:Hid (Below w.heap.size w w8):=aD HB.out HB.out.size hb;clear hb))
 go_ret
 exact ⟨rfl,HB.out⟩
open Go Go.RowKit Go.Maps Go.Sort
theorem cut_at {p:Nms} (h:p.Pairwise fun x y=>cd x.1<cd y.1) (c:List UInt8) (F G:Nms) (hF:F=p.filter fun y=>decide (cd y.1<c)) (hG:G=p.filter fun y => !decide (cd y.1<c)) :
  p.take F.length=F∧p.drop F.length=G∧F.length≤p.length∧∀i y,p[i]?=some y→decide (i<F.length)=decide (cd y.1<c):=by
 have e:=cut_srt h c
 rw [←hF,←hG] at e
 have mF:∀y∈F,cd y.1<c:=fun y hy=>by
  rw [hF] at hy
  simpa using (List.mem_filter.1 hy).2
 have mG:∀y∈G,¬cd y.1<c:=fun y hy=>by
  rw [hG] at hy
  simpa using (List.mem_filter.1 hy).2
 clear hF hG
 subst e
 refine ⟨List.take_left,List.drop_left,by rw [List.length_append];omega,fun i y hy=>?_⟩
 rcases Nat.lt_or_ge i F.length with hi|hi
 ·rw [List.getElem?_append_left hi] at hy
  rw [decide_eq_true hi,decide_eq_true (mF y (List.mem_of_getElem? hy))]
 ·rw [List.getElem?_append_right hi] at hy
  rw [decide_eq_false (by omega),decide_eq_false (mG y (List.mem_of_getElem? hy))]
theorem eZ (s:ByteArray) (ks:List ByteArray) (h:s=tx ks) (b e:Int):Tryz.prog.built 50 [(0,.string s),(1,.int .i64 b),(2,.int .i64 e)]=some (spc ks b e).toArray:=by
 subst h
 exact bJ ks b e
theorem own_atS2 {w:World} {B:Nat} {p3:Option Addr} {c3:Nat} {l:Nms} {N:Nat} (h:w.ownsRow B 50 5 (.slice p3 N c3) N (l.flatMap spv)) (hN:N=l.length) (h0:0<N) :
  ∃b tl,p3=some ⟨b,0,none⟩∧N≤c3∧B≤b∧Row w b (l.flatMap spv++tl) 50:=by
 obtain ⟨b,cap,tl,hv,hc,hb,h2⟩:=own_atS h hN (by omega)
 simp only [Value.slice.injEq] at hv
 obtain ⟨rfl,e1,rfl⟩:=hv
 exact ⟨b,tl,rfl,by omega,hb,h2⟩
section
variable {a:Act} {w:World} {dst:Option Tmp} {typ:TypeId} {pos:String} {aft:Array Edge} {gd:Option (Nat×Bool)}
theorem exec_hi0 {x hi:Operand} {b len cap:Nat} (m:Nat) {ih:Int} (hm:m≤cap) (hx:a.eval x=.slice (some ⟨b,0,none⟩) len cap) (hhi:a.eval hi=.int .i64 ih) (hih:ih=(m:Int)) :
  (execOp a.eval {dst:=dst,op:=.slice 46 x none (some hi) none,type:=typ,pos:=pos,after:=aft,guard:=gd}).run Tryz.prog w=.ok (.value (.slice (some ⟨b,0,none⟩) m cap)) w:=by
 have h:=exec_hiS (dst:=dst) (typ:=typ) (pos:=pos) (aft:=aft) (gd:=gd) (w:=w) m hm hx hhi hih
 rw [hiS_is] at h
 exact h
end
theorem addR_n {w:World} {B rb:Nat} {p:Nms} (h:RfAt B w rb p) (hB:B≤w.heap.size) (hok:NmOk p) (hpl:p.length≤80000) (s:ByteArray) (hs:s.size≤1000) (lb le e0:Int) (he0:e0=addE p s lb le) :
  Calls Tryz.prog 16 #[.pointer (some ⟨rb,0,none⟩),.string s,.int .i64 lb,.int .i64 le] w fun e_ w'=>e_=.returned (.int .i64 e0)∧RfAt B w' rb (if e0=0 then addN p (segsB s,lb,le,0,0,0,0) else p)∧Upd rb w w':=by
 have hm:=Mem.start w
 have HR:Hid (RfAt B w rb p):=h
 have HOK:Hid (NmOk p):=hok
 have HSZ:Hid (s.size≤1000):=hs
 have hrb:=h.lt
 obtain ⟨N,hN⟩:∃N,N=p.length:=⟨_,rfl⟩
 have HNP:Hid (N=p.length):=hN
 have hN9:N≤90000:=by omega
 obtain ⟨b,cap,hrow,hcap,hcell⟩:=h.cells
 rw [←hN] at hrow hcap
 have HROW:Hid (Row w rb [.slice (some ⟨b,0,none⟩) N cap] 71):=hrow
 have HCELL:Hid (∀i x,p[i]?=some x→∀j u,(spv x)[j]?=some u→b<w.heap.size∧w.cell? ⟨b,i * 5+j,none⟩=some u):=hcell
 clear hrow hcell
 obtain ⟨d,hd⟩:∃d,d=mkS (parOf (bs s)):=⟨_,rfl⟩
 obtain ⟨b0,hb0⟩:∃b,b=parOk (bs s):=⟨_,rfl⟩
 obtain ⟨ks,hks⟩:∃ks,ks=segsB s:=⟨_,rfl⟩
 have HPA:Hid (Calls Tryz.prog 39 #[.string s] w fun e w'=>e=.returned (.tuple #[.string d,.bool b0])∧Below w.heap.size w w'):=by
  have h9:=bH s w hs
  rw [←hb0,←hd] at h9
  exact h9
 obtain ⟨z1,hz1⟩:∃z,z=atN p s:=⟨_,rfl⟩
 obtain ⟨z2,hz2⟩:∃z,z=atN p d:=⟨_,rfl⟩
 obtain ⟨NK,hNK⟩:∃k,k=(kidsN p d).length:=⟨_,rfl⟩
 have HA1:Hid (∀W,Below w.heap.size w W→Calls Tryz.prog 40 #[.pointer (some ⟨rb,0,none⟩),.string s] W fun e w'=>e=.returned (.int .i64 z1)∧Below W.heap.size W w'):=fun W hW=>atR_n (HR.out.below hW) (by omega) s z1 hz1
 have HA2:Hid (∀W,Below w.heap.size w W→Calls Tryz.prog 40 #[.pointer (some ⟨rb,0,none⟩),.string d] W fun e w'=>e=.returned (.int .i64 z2)∧Below W.heap.size W w'):=fun W hW=>atR_n (HR.out.below hW) (by omega) d z2 hz2
 have HKD:Hid (∀W,Below w.heap.size w W→Calls Tryz.prog 41 #[.pointer (some ⟨rb,0,none⟩),.string d] W fun e w'=>∃p9 cap9,e=.returned (.slice p9 NK cap9)∧Below W.heap.size W w'):=fun W hW=>by
  refine (kidsR_n (HR.out.below hW) HOK.out (by omega) d).mono ?_
  rintro e w' ⟨v,rfl,⟨p9,c9,hv,_⟩,hb⟩
  exact ⟨p9,c9,by rw [hv,hNK],hb⟩
 have hcase:(b0=false∧e0=110)∨(b0=true∧PlOk ks∧s=tx ks∧e0=if limOk lb le=false then 12 else if 0≤z1 then 101 else if z2<0 then 100 else if 2≤NK then 102 else 0)∧(0≤z1↔hasN p ks=true):=by
  rw [hb0,he0]
  unfold addE
  cases hp:isP (bs s) with
  | false=>exact Or.inl ⟨(dj hp).1,rfl⟩
  | true =>
   have hsb:segsOf (bs s)=(segsB s).map bs:=(bm _).symm
   by_cases hq:segsB s=[]
   ·exact Or.inl ⟨(cI (by rw [hsb,hq];rfl)).1,by simp [hq]⟩
   ·have okk:PlOk ks:=by rw [hks];exact aR s
    have hst:s=tx ks:=by rw [hks,bE hp]
    have hkq:ks≠[]:=by rw [hks];exact hq
    have hdd:d=tx ks.dropLast:=by rw [hd,hst];exact (par_tx okk hkq).2
    have g1:getB p s=hasN p ks:=by unfold getB;rw [hp,Bool.true_and,hks]
    have g2:getB p d=hasN p ks.dropLast:=by unfold getB;rw [hdd,dH okk.drop,Bool.true_and,cF okk.drop]
    have k1:(0≤z1↔hasN p ks=true):=by
     rw [←g1,hz1]
     rcases cV hok s with ⟨e1,e2⟩|⟨e1,i,x,_,e2,_⟩
     ·rw [e1,e2];simp
     ·rw [e1,e2];simp
    have k2:(z2<0↔hasN p ks.dropLast=false):=by
     rw [←g2,hz2]
     rcases cV hok d with ⟨e1,e2⟩|⟨e1,i,x,_,e2,_⟩
     ·rw [e1,e2];simp
     ·rw [e1,e2];simp
    refine Or.inr ⟨⟨(cm hp (by rw [hsb];simpa using hq)).1,okk,hst,?_⟩,k1⟩
    rw [if_neg (by simp),if_neg hq,←hks,←hdd,←hNK]
    by_cases c1:0≤z1
    ·rw [if_pos (k1.1 c1),if_pos c1]
    ·rw [if_neg (fun h=>c1 (k1.2 h)),if_neg c1]
     by_cases c2:z2<0
     ·rw [if_pos (k2.1 c2),if_pos c2]
     ·rw [if_neg (fun h=>c2 (k2.2 h)),if_neg c2]
 have tk1:Nat:=0
 rw [←hks]
 clear hd hb0 hks hz1 hz2 hNK he0 hok hs hpl
 rcases hcase with ⟨rfl,rfl⟩|⟨⟨rfl,okk,hst,hE⟩,hZ1⟩
 ·rw [if_neg (by omega)]
  go_enter Tryz.func16,Tryz.ntmps16
  go_wp2_with (first
   | (go_at_call 39;refine HPA.out.mono ?_;rintro e_ w' ⟨he_,hb_⟩;subst he_;replace hm:=hm.call hb_;clear hb_))
  go_ret
  exact ⟨rfl,HR.out.below hm.below,Upd.of_below hm.below⟩
 ·have HPK:Hid (PlOk ks):=okk
  have HST:Hid (s=tx ks):=hst
  have HHN:Hid (0≤z1↔hasN p ks=true):=hZ1
  clear okk hst hZ1
  by_cases c1:lb<0
  ·have e1:e0=12:=by rw [hE,if_pos (by unfold limOk;simp;omega)]
   subst e1
   rw [if_neg (by omega)]
   clear hE
   go_enter Tryz.func16,Tryz.ntmps16
   go_wp2_with (first
    | (go_at_call 39;refine HPA.out.mono ?_;rintro e_ w' ⟨he_,hb_⟩;subst he_;replace hm:=hm.call hb_;clear hb_))
   go_ret
   exact ⟨rfl,HR.out.below hm.below,Upd.of_below hm.below⟩
  ·by_cases c2:1000000<lb
   ·have e1:e0=12:=by rw [hE,if_pos (by unfold limOk;simp;omega)]
    subst e1
    rw [if_neg (by omega)]
    clear hE
    go_enter Tryz.func16,Tryz.ntmps16
    go_wp2_with (first
     | (go_at_call 39;refine HPA.out.mono ?_;rintro e_ w' ⟨he_,hb_⟩;subst he_;replace hm:=hm.call hb_;clear hb_))
    go_ret
    exact ⟨rfl,HR.out.below hm.below,Upd.of_below hm.below⟩
   ·by_cases c3:le<0
    ·have e1:e0=12:=by rw [hE,if_pos (by unfold limOk;simp;omega)]
     subst e1
     rw [if_neg (by omega)]
     clear hE
     go_enter Tryz.func16,Tryz.ntmps16
     go_wp2_with (first
      | (go_at_call 39;refine HPA.out.mono ?_;rintro e_ w' ⟨he_,hb_⟩;subst he_;replace hm:=hm.call hb_;clear hb_))
     go_ret
     exact ⟨rfl,HR.out.below hm.below,Upd.of_below hm.below⟩
    ·by_cases c4:1000000<le
     ·have e1:e0=12:=by rw [hE,if_pos (by unfold limOk;simp;omega)]
      subst e1
      rw [if_neg (by omega)]
      clear hE
      go_enter Tryz.func16,Tryz.ntmps16
      go_wp2_with (first
       | (go_at_call 39;refine HPA.out.mono ?_;rintro e_ w' ⟨he_,hb_⟩;subst he_;replace hm:=hm.call hb_;clear hb_))
      go_ret
      exact ⟨rfl,HR.out.below hm.below,Upd.of_below hm.below⟩
     ·rw [if_neg (by unfold limOk;simp;omega)] at hE
      by_cases c5:0≤z1
      ·rw [if_pos c5] at hE
       subst hE
       rw [if_neg (by omega)]
       go_enter Tryz.func16,Tryz.ntmps16
       go_wp2_with (first
        | (go_at_call 39;refine HPA.out.mono ?_;rintro e_ w' ⟨he_,hb_⟩;subst he_;replace hm:=hm.call hb_;clear hb_)
        | (go_at_call 40;refine (HA1.out _ hm.below).mono ?_;rintro e_ w' ⟨he_,hb_⟩;subst he_;replace hm:=hm.call hb_;clear hb_))
       go_ret
       exact ⟨rfl,HR.out.below hm.below,Upd.of_below hm.below⟩
      ·rw [if_neg c5] at hE
       by_cases c6:z2<0
       ·rw [if_pos c6] at hE
        subst hE
        rw [if_neg (by omega)]
        go_enter Tryz.func16,Tryz.ntmps16
        go_wp2_with (first
         | (go_at_call 39;refine HPA.out.mono ?_;rintro e_ w' ⟨he_,hb_⟩;subst he_;replace hm:=hm.call hb_;clear hb_)
         | (clear tk1;go_at_call 40;refine (HA1.out _ hm.below).mono ?_;rintro e_ w' ⟨he_,hb_⟩;subst he_;replace hm:=hm.call hb_;clear hb_)
         | (go_at_call 40;refine (HA2.out _ hm.below).mono ?_;rintro e_ w' ⟨he_,hb_⟩;subst he_;replace hm:=hm.call hb_;clear hb_))
        go_ret
        exact ⟨rfl,HR.out.below hm.below,Upd.of_below hm.below⟩
       ·rw [if_neg c6] at hE
        have c6b:0≤z2:=by omega
        by_cases c7:2≤NK
        ·have c7i:(2:Int)≤(NK:Int):=by omega
         rw [if_pos c7] at hE
         subst hE
         rw [if_neg (by omega)]
         go_enter Tryz.func16,Tryz.ntmps16
         go_wp2_with (first
          | (go_at_call 39;refine HPA.out.mono ?_;rintro e_ w' ⟨he_,hb_⟩;subst he_;replace hm:=hm.call hb_;clear hb_)
          | (clear tk1;go_at_call 40;refine (HA1.out _ hm.below).mono ?_;rintro e_ w' ⟨he_,hb_⟩;subst he_;replace hm:=hm.call hb_;clear hb_)
          | (go_at_call 40;refine (HA2.out _ hm.below).mono ?_;rintro e_ w' ⟨he_,hb_⟩;subst he_;replace hm:=hm.call hb_;clear hb_)
          | (go_at_call 41;refine (HKD.out _ hm.below).mono ?_;rintro e_ w' ⟨p9,cap9,he_,hb_⟩;subst he_;replace hm:=hm.call hb_;clear hb_))
         go_ret
         exact ⟨rfl,HR.out.below hm.below,Upd.of_below hm.below⟩
        ·have c7i:¬(2:Int)≤(NK:Int):=by omega
         rw [if_neg c7] at hE
         subst hE
         rw [if_pos rfl]
         obtain ⟨F,hF⟩:∃F,F=p.filter fun y=>decide (cd y.1<cd ks):=⟨_,rfl⟩
         obtain ⟨G,hG⟩:∃G,G=p.filter fun y => !decide (cd y.1<cd ks):=⟨_,rfl⟩
         obtain ⟨hc1,hc2,hc3,hc4⟩:=cut_at HOK.out.srt (cd ks) F G hF hG
         obtain ⟨K,hK⟩:∃K,K=F.length:=⟨_,rfl⟩
         rw [←hK] at hc1 hc2 hc3 hc4
         have HCT:Hid (p.take K=F∧p.drop K=G):=⟨hc1,hc2⟩
         have HCD:Hid (∀i y,p[i]?=some y→decide (i<K)=decide (cd y.1<cd ks)):=hc4
         have HAN:Hid (addN p (ks,lb,le,0,0,0,0)=F++(ks,lb,le,0,0,0,0)::G):=by
          have h9:addN p (ks,lb,le,0,0,0,0)=F++(ks,lb,le,0,0,0,0)::G:=by rw [hF,hG];rfl
          exact h9
         have HLA:Hid ((addN p (ks,lb,le,0,0,0,0)).length=N+1):=by
          have h9:=(dT p (ks,lb,le,0,0,0,0)).length_eq
          rw [List.length_cons,←hN] at h9
          exact h9
         have hKN:K≤N:=by rw [hN];exact hc3
         obtain ⟨k0,hk0⟩:∃k,k=cd ks:=⟨_,rfl⟩
         have HC2:Hid (∀W,Calls Tryz.prog 42 #[.string s] W fun e w'=>e=.returned (.string (mkS k0))∧Below W.heap.size W w'):=fun W=>by
          have h3:=codeR_any s W HSZ.out
          rw [HST.out,eK HPK.out,←hk0,←HST.out] at h3
          exact h3
         have HK0:Hid (k0=cd ks):=hk0
         clear hF hG hc1 hc2 hc3 hc4 hK hN hk0
         go_enter Tryz.func16,Tryz.ntmps16
         go_wp2_with (first
          | (clear tk1;go_at_call 40;refine (HA1.out _ hm.below).mono ?_;rintro e_ w' ⟨he_,hb_⟩;subst he_;replace hm:=hm.call hb_;clear hb_)
          | (go_at_call 40;refine (HA2.out _ hm.below).mono ?_;rintro e_ w' ⟨he_,hb_⟩;subst he_;replace hm:=hm.call hb_;clear hb_)
          | (go_at_call 39;refine HPA.out.mono ?_;rintro e_ w' ⟨he_,hb_⟩;subst he_;replace hm:=hm.call hb_;clear hb_)
          | (go_at_call 41;refine (HKD.out _ hm.below).mono ?_;rintro e_ w' ⟨p9,cap9,he_,hb_⟩;subst he_;replace hm:=hm.call hb_;clear hb_))
         have HB0:Hid (Below w.heap.size w _):=hm.below
         clear hm HPA HA1 HA2 HKD c7i
         go_loopw [11] (fun vi wr=>∃i:Nat,i≤K∧vi=.int .i64 (i:Int)∧Hid (Below w.heap.size w wr)) (fun vi _=>match vi with | .int _ q=>K - q.toNat|_=>0)
         case atStart=>exact ⟨0,by omega,rfl,HB0⟩
         case round =>
          obtain ⟨i,hi,rfl,HB⟩:=hrel
          clear HB0
          have tk1:Nat:=0
          have hm:=Mem.start wr
          by_cases hiN:i<N
          ·have hlt:i<N:=hiN
           have hki:(i:Int)<(N:Int):=by omega
           have hw:IntKind.i64.wrap ((i:Int)+1)=(i:Int)+1:=bO _ (by omega) (by omega)
           obtain ⟨x,hx⟩:∃x,p[i]?=some x:=⟨p[i]'(by have:=HNP.out;omega),by simp [show i<p.length by have:=HNP.out;omega]⟩
           have HX:Hid (p[i]?=some x):=hx
           obtain ⟨y,hy⟩:∃y,y=tx x.1:=⟨_,rfl⟩
           have HYT:Hid (y=tx x.1):=hy
           have HY:Hid (wr.cell? ⟨b,i * 5,none⟩=some (.string y)):=by
            have h1:=HCELL.out i x hx 0 (.string y) (by rw [hy];rfl)
            exact (HB.out.cell (p:=⟨b,i * 5,none⟩) h1.1).trans h1.2
           have HRW:Hid (Row wr rb [.slice (some ⟨b,0,none⟩) N cap] 71):=Row.bel HROW.out HB.out
           obtain ⟨k1,hk1⟩:∃k,k=cd x.1:=⟨_,rfl⟩
           have HC1:Hid (∀W,Calls Tryz.prog 42 #[.string y] W fun e w'=>e=.returned (.string (mkS k1))∧Below W.heap.size W w'):=fun W=>by
            have okx:=HOK.out.ok x (List.mem_of_getElem? HX.out)
            have h3:=codeR_any (tx x.1) W (by have:=aX okx;omega)
            rw [eK okx,←hk1,←HYT.out] at h3
            exact h3
           have hdc:=HCD.out i x hx
           rw [←hk1,←HK0.out] at hdc
           clear hx hy
           by_cases hik:i<K
           ·have HLS:Hid (Op.bytesLess (mkS k1).toList (mkS k0).toList=true):=lss_cd k1 k0 true (by rw [←hdc,decide_eq_true hik])
            clear hdc hk1
            go_wp2_with (first
             | ((with_reducible refine ab (some 56) (.load 46 (.tmp 55)) ?_);go_must (refine aa (.slice (some ⟨b,0,none⟩) N cap) rfl (ad 0 (.slice (some ⟨b,0,none⟩) N cap) HRW.out rfl ak rfl) ?_))
             | ((with_reducible refine ax (some 63) (.load 46 (.tmp 62)) (some (7,true)) ?_);go_must (refine aa (.slice (some ⟨b,0,none⟩) N cap) rfl (ad 0 (.slice (some ⟨b,0,none⟩) N cap) HRW.out rfl ak rfl) ?_))
             | ((with_reducible refine ax (some 65) (.indexAddr 46 (.tmp 63) (.tmp 64)) (some (7,true)) ?_);go_must (refine aa (.pointer (some ⟨b,i * 5,none⟩)) rfl (ap 5 i ay ao rfl rfl rfl hlt) ?_))
             | ((with_reducible refine ax (some 67) (.load 9 (.tmp 66)) (some (7,true)) ?_);go_must (refine aa (.string y) rfl (ar (.string y) HY.out rfl aj) ?_))
             | (clear tk1;go_at_call 42;refine (HC1.out _).mono ?_;rintro e_ w' ⟨he_,hb_⟩;subst he_;replace hm:=hm.call hb_;clear hb_)
             | (go_at_call 42;refine (HC2.out _).mono ?_;rintro e_ w' ⟨he_,hb_⟩;subst he_;replace hm:=hm.call hb_;clear hb_)
             | ((with_reducible refine ax (some 71) (.binOp .lss 9 (.tmp 68) (.tmp 70) 9) (some (7,true)) ?_);go_must (refine aa (.bool true) rfl (exec_lssB (mkS k1) (mkS k0) true rfl rfl HLS.out) ?_)))
            go_roundw
            case rel=>exact ⟨i+1,by omega,by go_num,HB.out.trans (hm.below.mono HB.out.size)⟩
            case measure=>show K - ((i:Int)+1).toNat<K - (i:Int).toNat;omega
           ·have HLS:Hid (Op.bytesLess (mkS k1).toList (mkS k0).toList=false):=lss_cd k1 k0 false (by rw [←hdc,decide_eq_false hik])
            have HIK:Hid (i=K):=by show i=K;omega
            clear hdc hk1
            have HON:Hid (wr.ownsRow wr.heap.size 50 5 (.slice none 0 0) 0 (([]:Nms).flatMap spv)):=⟨rfl,Or.inl ⟨rfl,rfl⟩⟩
            have HTL:Hid ((p.take i).length=i):=by
             have h9:(p.take i).length=i:=by rw [List.length_take];have:=HNP.out;omega
             exact h9
            have HDL:Hid ((p.drop i).length=N - i):=by
             have h9:(p.drop i).length=N - i:=by rw [List.length_drop,←HNP.out]
             exact h9
            have HAD:Hid ((p.take i++[(ks,lb,le,0,0,0,0)])++p.drop i=addN p (ks,lb,le,0,0,0,0)):=by
             have h9:(p.take i++[(ks,lb,le,0,0,0,0)])++p.drop i=addN p (ks,lb,le,0,0,0,0):=by rw [HAN.out,HIK.out,HCT.out.1,HCT.out.2,List.append_assoc];rfl
             exact h9
            have HSO:Hid (∀W,Below wr.heap.size wr W→SpO W (.slice (some ⟨b,0,none⟩) i cap) (p.take i)):=fun W hW=>by
             refine ⟨_,cap,by rw [HTL.out],fun _=>⟨b,0,rfl,fun k x hx j u hu=>?_⟩⟩
             have hxp:p[k]?=some x:=by
              rw [List.getElem?_take] at hx
              split at hx
              ·exact hx
              ·cases hx
             obtain ⟨q1,q2⟩:=HCELL.out k x hxp j u hu
             rw [Nat.zero_add]
             exact ((HB.out.trans (hW.mono HB.out.size)).cell (p:=⟨b,k * 5+j,none⟩) q1).trans q2
            have HSD:Hid (∀W,Below wr.heap.size wr W→SpO W (.slice (loS (some ⟨b,0,none⟩) cap i) (N - i) (cap - i)) (p.drop i)):=fun W hW=>by
             refine ⟨_,cap - i,by rw [HDL.out],fun h0=>?_⟩
             rw [HDL.out] at h0
             refine ⟨b,i * 5,loS_is (by omega),fun k x hx j u hu=>?_⟩
             rw [List.getElem?_drop] at hx
             obtain ⟨q1,q2⟩:=HCELL.out (i+k) x hx j u hu
             rw [show i * 5+(k * 5+j)=(i+k) * 5+j by omega]
             exact ((HB.out.trans (hW.mono HB.out.size)).cell (p:=⟨b,(i+k) * 5+j,none⟩) q1).trans q2
            go_wp2_with (first
             | ((with_reducible refine ab (some 56) (.load 46 (.tmp 55)) ?_);go_must (refine aa (.slice (some ⟨b,0,none⟩) N cap) rfl (ad 0 (.slice (some ⟨b,0,none⟩) N cap) HRW.out rfl ak rfl) ?_))
             | ((with_reducible refine ax (some 63) (.load 46 (.tmp 62)) (some (7,true)) ?_);go_must (refine aa (.slice (some ⟨b,0,none⟩) N cap) rfl (ad 0 (.slice (some ⟨b,0,none⟩) N cap) HRW.out rfl ak rfl) ?_))
             | ((with_reducible refine ax (some 65) (.indexAddr 46 (.tmp 63) (.tmp 64)) (some (7,true)) ?_);go_must (refine aa (.pointer (some ⟨b,i * 5,none⟩)) rfl (ap 5 i ay ao rfl rfl rfl hlt) ?_))
             | ((with_reducible refine ax (some 67) (.load 9 (.tmp 66)) (some (7,true)) ?_);go_must (refine aa (.string y) rfl (ar (.string y) HY.out rfl aj) ?_))
             | (clear tk1;go_at_call 42;refine (HC1.out _).mono ?_;rintro e_ w' ⟨he_,hb_⟩;subst he_;replace hm:=hm.call hb_;clear hb_)
             | (go_at_call 42;refine (HC2.out _).mono ?_;rintro e_ w' ⟨he_,hb_⟩;subst he_;replace hm:=hm.call hb_;clear hb_)
             | ((with_reducible refine ax (some 71) (.binOp .lss 9 (.tmp 68) (.tmp 70) 9) (some (7,true)) ?_);go_must (refine aa (.bool false) rfl (exec_lssB (mkS k1) (mkS k0) false rfl rfl HLS.out) ?_))
             | ((with_reducible refine ab (some 78) (.load 46 (.tmp 77)) ?_);go_must (refine aa (.slice (some ⟨b,0,none⟩) N cap) rfl (ad 0 (.slice (some ⟨b,0,none⟩) N cap) (Row.bel HRW.out hm.below) rfl ak rfl) ?_))
             | ((with_reducible refine ab (some 80) (.slice 46 (.tmp 78) none (some (.tmp 79)) none) ?_);go_must (refine aa (.slice (some ⟨b,0,none⟩) i cap) rfl (exec_hi0 i (by omega) rfl rfl rfl) ?_))
             | ((with_reducible refine ab (some 81) (.call {callee:=.builtin .append,args:=#[.const (.slice none 0 0),.tmp 80],argTypes:=#[46,46]}) ?_);go_must (refine dz rfl (p.take i) (aq HON.out hm.below) hm.size rfl rfl (HSO.out _ hm.below) HTL.out (Nat.zero_add _) (by omega) rfl ?_);intro p1 c1_ w1 ho1 hg1;have HO1:Hid (w1.ownsRow wr.heap.size 50 5 (.slice p1 i c1_) i ((p.take i).flatMap spv)):=ho1;replace hm:=hm.grownT hg1 (aq HON.out hm.below) (by simp) (Nat.le_refl _);clear ho1 hg1)
             | ((with_reducible refine ab (some 85) (.build 50 #[(0,.tmp 82),(1,.tmp 83),(2,.tmp 84)]) ?_);refine az (spc ks lb le) [(0,.string s),(1,.int .i64 lb),(2,.int .i64 le)] rfl (eZ s ks HST.out lb le) ?_)
             | ((with_reducible refine ab (some 86) (.buildSlice 46 1 #[(0,.tmp 85)]) ?_);go_must (refine cn (spc ks lb le) rfl rfl rfl hm ?_);clear hm;intro w6 g8 hm hb6;replace HO1:Hid (w6.ownsRow wr.heap.size 50 5 (.slice p1 i c1_) i ((p.take i).flatMap spv)):=aq HO1.out hb6;clear hb6)
             | ((with_reducible refine ab (some 87) (.call {callee:=.builtin .append,args:=#[.tmp 81,.tmp 86],argTypes:=#[46,46]}) ?_);go_must (refine bg (.agg spZ.toArray) 5 48 rfl ay dn rfl (by omega) (by omega) HO1.out hm.size rfl rfl (hm.get 0 rfl) rfl (bS (ks,lb,le,0,0,0,0)) (by omega) ?_);intro v9 w9 ho9 hgr9 hx9;have HO2:Hid (w9.ownsRow wr.heap.size 50 5 v9 (i+1) ((p.take i++[(ks,lb,le,0,0,0,0)]).flatMap spv)):=(by rw [List.flatMap_append];show World.ownsRow _ _ _ _ _ _ _;simpa [spv,spc] using ho9);replace hm:=hm.tail.grownT hgr9 HO1.out (by simp) (Nat.le_refl _);clear ho9 hgr9 hx9)
             | ((with_reducible refine ab (some 93) (.load 46 (.tmp 92)) ?_);go_must (refine aa (.slice (some ⟨b,0,none⟩) N cap) rfl (ad 0 (.slice (some ⟨b,0,none⟩) N cap) (Row.bel HRW.out hm.below) rfl ak rfl) ?_))
             | ((with_reducible refine ab (some 95) (.slice 46 (.tmp 93) (some (.tmp 94)) none none) ?_);go_must (refine aa (.slice (loS (some ⟨b,0,none⟩) cap i) (N - i) (cap - i)) rfl (exec_loS i (by omega) rfl rfl rfl) ?_))
             | ((with_reducible refine ab (some 96) (.call {callee:=.builtin .append,args:=#[.tmp 89,.tmp 95],argTypes:=#[46,46]}) ?_);go_must (refine dz rfl (addN p (ks,lb,le,0,0,0,0)) HO2.out hm.size rfl rfl (HSD.out _ hm.below) HDL.out (N:=N+1) (by omega) (by omega) HAD.out ?_);intro p3 c3_ w3 ho3 hg3;obtain ⟨b3,tl3,hp3,hc3,hb3,hcc3⟩:=own_atS2 ho3 HLA.out.symm (by omega);subst hp3;have HC3:Hid (N+1≤c3_∧wr.heap.size≤b3∧Row w3 b3 ((addN p (ks,lb,le,0,0,0,0)).flatMap spv++tl3) 50):=⟨hc3,hb3,hcc3⟩;replace hm:=hm.grownT hg3 HO2.out (by simp) (Nat.le_refl _);clear ho3 hg3 hc3 hb3 hcc3)
             | ((with_reducible refine ab none (.store 46 (.tmp 98) (.tmp 96)) ?_);refine bi 0 0 (.slice (some ⟨b3,0,none⟩) (N+1) c3_) (Mem.enter (Row.bel HRW.out hm.below)) rfl rfl rfl sz_sps (by simp) rfl rfl ?_;intro w10 hm10))
            go_ret
            have hu9:=hm10.toUpd
            exact ⟨rfl,⟨b3,c3_,tl3,Nat.le_trans hB (Nat.le_trans HB.out.size HC3.out.2.1),by rw [HLA.out];exact hm10.get 0 rfl,by rw [HLA.out];exact HC3.out.1,hu9.row HC3.out.2.2 (by have:=HC3.out.2.1;have:=HB.out.size;show b3≠rb;omega)⟩,(Upd.of_below (HB.out.trans (hm.below.mono HB.out.size))).trans hu9⟩
          ·have hki:¬(i:Int)<(N:Int):=by omega
           have HIK:Hid (i=K):=by show i=K;omega
           have HRW:Hid (Row wr rb [.slice (some ⟨b,0,none⟩) N cap] 71):=Row.bel HROW.out HB.out
           have HON:Hid (wr.ownsRow wr.heap.size 50 5 (.slice none 0 0) 0 (([]:Nms).flatMap spv)):=⟨rfl,Or.inl ⟨rfl,rfl⟩⟩
           have HTL:Hid ((p.take i).length=i):=by
            have h9:(p.take i).length=i:=by rw [List.length_take];have:=HNP.out;omega
            exact h9
           have HDL:Hid ((p.drop i).length=N - i):=by
            have h9:(p.drop i).length=N - i:=by rw [List.length_drop,←HNP.out]
            exact h9
           have HAD:Hid ((p.take i++[(ks,lb,le,0,0,0,0)])++p.drop i=addN p (ks,lb,le,0,0,0,0)):=by
            have h9:(p.take i++[(ks,lb,le,0,0,0,0)])++p.drop i=addN p (ks,lb,le,0,0,0,0):=by rw [HAN.out,HIK.out,HCT.out.1,HCT.out.2,List.append_assoc];rfl
            exact h9
           have HSO:Hid (∀W,Below wr.heap.size wr W→SpO W (.slice (some ⟨b,0,none⟩) i cap) (p.take i)):=fun W hW=>by
            refine ⟨_,cap,by rw [HTL.out],fun _=>⟨b,0,rfl,fun k x hx j u hu=>?_⟩⟩
            have hxp:p[k]?=some x:=by
             rw [List.getElem?_take] at hx
             split at hx
             ·exact hx
             ·cases hx
            obtain ⟨q1,q2⟩:=HCELL.out k x hxp j u hu
            rw [Nat.zero_add]
            exact ((HB.out.trans (hW.mono HB.out.size)).cell (p:=⟨b,k * 5+j,none⟩) q1).trans q2
           have HSD:Hid (∀W,Below wr.heap.size wr W→SpO W (.slice (loS (some ⟨b,0,none⟩) cap i) (N - i) (cap - i)) (p.drop i)):=fun W hW=>by
            refine ⟨_,cap - i,by rw [HDL.out],fun h0=>?_⟩
            rw [HDL.out] at h0
            refine ⟨b,i * 5,loS_is (by omega),fun k x hx j u hu=>?_⟩
            rw [List.getElem?_drop] at hx
            obtain ⟨q1,q2⟩:=HCELL.out (i+k) x hx j u hu
            rw [show i * 5+(k * 5+j)=(i+k) * 5+j by omega]
            exact ((HB.out.trans (hW.mono HB.out.size)).cell (p:=⟨b,(i+k) * 5+j,none⟩) q1).trans q2
           go_wp2_with (first
            | ((with_reducible refine ab (some 56) (.load 46 (.tmp 55)) ?_);go_must (refine aa (.slice (some ⟨b,0,none⟩) N cap) rfl (ad 0 (.slice (some ⟨b,0,none⟩) N cap) HRW.out rfl ak rfl) ?_))
            | ((with_reducible refine ab (some 78) (.load 46 (.tmp 77)) ?_);go_must (refine aa (.slice (some ⟨b,0,none⟩) N cap) rfl (ad 0 (.slice (some ⟨b,0,none⟩) N cap) (Row.bel HRW.out hm.below) rfl ak rfl) ?_))
            | ((with_reducible refine ab (some 80) (.slice 46 (.tmp 78) none (some (.tmp 79)) none) ?_);go_must (refine aa (.slice (some ⟨b,0,none⟩) i cap) rfl (exec_hi0 i (by omega) rfl rfl rfl) ?_))
            | ((with_reducible refine ab (some 81) (.call {callee:=.builtin .append,args:=#[.const (.slice none 0 0),.tmp 80],argTypes:=#[46,46]}) ?_);go_must (refine dz rfl (p.take i) (aq HON.out hm.below) hm.size rfl rfl (HSO.out _ hm.below) HTL.out (Nat.zero_add _) (by omega) rfl ?_);intro p1 c1_ w1 ho1 hg1;have HO1:Hid (w1.ownsRow wr.heap.size 50 5 (.slice p1 i c1_) i ((p.take i).flatMap spv)):=ho1;replace hm:=hm.grownT hg1 (aq HON.out hm.below) (by simp) (Nat.le_refl _);clear ho1 hg1)
            | ((with_reducible refine ab (some 85) (.build 50 #[(0,.tmp 82),(1,.tmp 83),(2,.tmp 84)]) ?_);refine az (spc ks lb le) [(0,.string s),(1,.int .i64 lb),(2,.int .i64 le)] rfl (eZ s ks HST.out lb le) ?_)
            | ((with_reducible refine ab (some 86) (.buildSlice 46 1 #[(0,.tmp 85)]) ?_);go_must (refine cn (spc ks lb le) rfl rfl rfl hm ?_);clear hm;intro w6 g8 hm hb6;replace HO1:Hid (w6.ownsRow wr.heap.size 50 5 (.slice p1 i c1_) i ((p.take i).flatMap spv)):=aq HO1.out hb6;clear hb6)
            | ((with_reducible refine ab (some 87) (.call {callee:=.builtin .append,args:=#[.tmp 81,.tmp 86],argTypes:=#[46,46]}) ?_);go_must (refine bg (.agg spZ.toArray) 5 48 rfl ay dn rfl (by omega) (by omega) HO1.out hm.size rfl rfl (hm.get 0 rfl) rfl (bS (ks,lb,le,0,0,0,0)) (by omega) ?_);intro v9 w9 ho9 hgr9 hx9;have HO2:Hid (w9.ownsRow wr.heap.size 50 5 v9 (i+1) ((p.take i++[(ks,lb,le,0,0,0,0)]).flatMap spv)):=(by rw [List.flatMap_append];show World.ownsRow _ _ _ _ _ _ _;simpa [spv,spc] using ho9);replace hm:=hm.tail.grownT hgr9 HO1.out (by simp) (Nat.le_refl _);clear ho9 hgr9 hx9)
            | ((with_reducible refine ab (some 93) (.load 46 (.tmp 92)) ?_);go_must (refine aa (.slice (some ⟨b,0,none⟩) N cap) rfl (ad 0 (.slice (some ⟨b,0,none⟩) N cap) (Row.bel HRW.out hm.below) rfl ak rfl) ?_))
            | ((with_reducible refine ab (some 95) (.slice 46 (.tmp 93) (some (.tmp 94)) none none) ?_);go_must (refine aa (.slice (loS (some ⟨b,0,none⟩) cap i) (N - i) (cap - i)) rfl (exec_loS i (by omega) rfl rfl rfl) ?_))
            | ((with_reducible refine ab (some 96) (.call {callee:=.builtin .append,args:=#[.tmp 89,.tmp 95],argTypes:=#[46,46]}) ?_);go_must (refine dz rfl (addN p (ks,lb,le,0,0,0,0)) HO2.out hm.size rfl rfl (HSD.out _ hm.below) HDL.out (N:=N+1) (by omega) (by omega) HAD.out ?_);intro p3 c3_ w3 ho3 hg3;obtain ⟨b3,tl3,hp3,hc3,hb3,hcc3⟩:=own_atS2 ho3 HLA.out.symm (by omega);subst hp3;have HC3:Hid (N+1≤c3_∧wr.heap.size≤b3∧Row w3 b3 ((addN p (ks,lb,le,0,0,0,0)).flatMap spv++tl3) 50):=⟨hc3,hb3,hcc3⟩;replace hm:=hm.grownT hg3 HO2.out (by simp) (Nat.le_refl _);clear ho3 hg3 hc3 hb3 hcc3)
            | ((with_reducible refine ab none (.store 46 (.tmp 98) (.tmp 96)) ?_);refine bi 0 0 (.slice (some ⟨b3,0,none⟩) (N+1) c3_) (Mem.enter (Row.bel HRW.out hm.below)) rfl rfl rfl sz_sps (by simp) rfl rfl ?_;intro w10 hm10))
           go_ret
           have hu9:=hm10.toUpd
           exact ⟨rfl,⟨b3,c3_,tl3,Nat.le_trans hB (Nat.le_trans HB.out.size HC3.out.2.1),by rw [HLA.out];exact hm10.get 0 rfl,by rw [HLA.out];exact HC3.out.1,hu9.row HC3.out.2.2 (by have:=HC3.out.2.1;have:=HB.out.size;show b3≠rb;omega)⟩,(Upd.of_below (HB.out.trans (hm.below.mono HB.out.size))).trans hu9⟩
end Go.Proofs.YtdmohffogfbnbaaGreatDoor
