import Derived.Test.YtdmohffogfbnbaaGreatDoorQp16
set_option maxRecDepth 100000
set_option maxHeartbeats 4000000
namespace Go.Proofs.YtdmohffogfbnbaaGreatDoor
open Go Go.RowKit Go.Maps
def RfTurn (B:Nat) (w w':World):Prop:=∃bk l,B≤bk∧Row w bk l 50∧Upd bk w w'
theorem chargeR_n {w:World} {B rb:Nat} {p:Nms} {oB oE:List ByteArray→Int} (h:RfAt B w rb p) (hQ:QtOk p oB oE) (hpl:p.length≤80000) (s:ByteArray) (hs:s.size≤1000) (b0 e0 r:Int) (hr:r=canE p oB oE s b0 e0) :
  Calls Tryz.prog 13 #[.pointer (some ⟨rb,0,none⟩),.string s,.int .i64 b0,.int .i64 e0] w fun e_ w'=>e_=.returned (.int .i64 r)∧RfAt B w' rb (if r=0 then chgN p (segsB s) (heldC b0) (heldC e0) else p)∧RfTurn B w w':=by
 have HR:Hid (RfAt B w rb p):=h
 have HOK:Hid (NmOk p):=hQ.tr.ok
 have HUS:Hid (∀x∈p,(0≤usB x∧usB x≤1000000)∧0≤usE x∧usE x≤1000000):=hQ.use
 have HSZ:Hid (s.size≤1000):=hs
 have hp0:=hQ.tr.pos
 have HCN:Hid (∀W,Below w.heap.size w W→Calls Tryz.prog 11 #[.pointer (some ⟨rb,0,none⟩),.string s,.int .i64 b0,.int .i64 e0] W fun e w'=>e=.returned (.int .i64 r)∧Below W.heap.size W w'):=fun W hW=>canR_n (h.below hW) hQ hpl s hs b0 e0 r hr
 obtain ⟨b,cap,tl,hBb,hrow,hcap,hsl⟩:=h
 obtain ⟨N,hN⟩:∃N,N=p.length:=⟨_,rfl⟩
 have HNP:Hid (N=p.length):=hN
 have hN9:N≤90000:=by omega
 have hN0:0<N:=by omega
 obtain ⟨dx,hdx⟩:∃z,z=heldC b0:=⟨_,rfl⟩
 obtain ⟨dy,hdy⟩:∃z,z=heldC e0:=⟨_,rfl⟩
 have hbx:=bT b0
 have hby:=bT e0
 rw [←hdx] at hbx
 rw [←hdy] at hby
 have HDX:Hid (dx=heldC b0):=hdx
 have HDY:Hid (dy=heldC e0):=hdy
 obtain ⟨ks,hks⟩:∃ks,ks=segsB s:=⟨_,rfl⟩
 have HSL:Hid (Row w b (p.flatMap spv++tl) 50):=hsl
 have HK0:Hid (RfK w rb b cap N p (chg ks dx dy) 0 tl):=by rw [hN];exact RfK.start hrow hsl
 rw [←hN] at hrow hcap
 have HBB:Hid (B≤b∧N≤cap):=⟨hBb,hcap⟩
 rw [←hks,←hdx,←hdy]
 have hm:=Mem.start w
 by_cases h0:r=0
 ·have HST:Hid (s=tx ks):=by
   have h1:=(ef (hr.symm.trans h0)).1
   have h2:isP (bs s)=true:=by
    unfold getB at h1
    rw [Bool.and_eq_true] at h1
    exact h1.1
   have e:s=tx ks:=by rw [hks,bE h2]
   exact e
  have HPK:Hid (PlOk ks):=by rw [hks];exact aR s
  rw [if_pos h0]
  subst h0
  clear hQ hpl hrow hsl hr hdx hdy hks hs hN hBb hp0
  go_enter Tryz.func13,Tryz.ntmps13
  go_wp2_with (first
   | (go_at_call 11;refine (HCN.out _ hm.below).mono ?_;rintro e w' ⟨he,hb⟩;subst he;replace hm:=hm.call hb;clear hb))
  have HK1:Hid (RfK _ rb b cap N p (chg ks dx dy) 0 tl):=HK0.out.below hm.below
  have HU1:Hid (Upd b w _):=Upd.of_below hm.below
  clear hm HCN HK0
  go_loopw [10] (fun vi wr=>∃i:Nat,i≤N∧vi=.int .i64 (i:Int)∧Hid (RfK wr rb b cap N p (chg ks dx dy) i tl)∧Hid (Upd b w wr)) (fun vi _=>match vi with | .int _ q=>N - q.toNat|_=>0)
  case atStart=>exact ⟨0,by omega,rfl,HK1,HU1⟩
  case round =>
   clear HK1 HU1
   obtain ⟨i,hi,rfl,HK,HU⟩:=hrel
   have HRW:Hid (Row wr rb [.slice (some ⟨b,0,none⟩) N cap] 71):=HK.out.1
   by_cases hlt:i<N
   ·have hki:(i:Int)<(N:Int):=by omega
    have hw:IntKind.i64.wrap ((i:Int)+1)=(i:Int)+1:=bO _ (by omega) (by omega)
    obtain ⟨x,hx⟩:∃x,p[i]?=some x:=⟨p[i]'(by have:=HNP.out;omega),by simp [show i<p.length by have:=HNP.out;omega]⟩
    have hxm:x∈p:=List.mem_of_getElem? hx
    have okx:PlOk x.1:=HOK.out.ok x hxm
    have HX:Hid (p[i]?=some x):=hx
    obtain ⟨y,hy⟩:∃y,y=tx x.1:=⟨_,rfl⟩
    obtain ⟨a3,ha3⟩:∃z,z=usB x:=⟨_,rfl⟩
    obtain ⟨a4,ha4⟩:∃z,z=usE x:=⟨_,rfl⟩
    have HY:Hid (wr.cell? ⟨b,i * 5,none⟩=some (.string y)):=(HK.out.cell hx 0 _ (by rw [hy];exact (cf x).1)).2
    have HC3:Hid (b<wr.heap.size∧wr.cell? ⟨b,i * 5+3,none⟩=some (.int .i64 a3)):=HK.out.cell hx 3 _ (by rw [ha3];exact (cf x).2.1)
    have HC4:Hid (b<wr.heap.size∧wr.cell? ⟨b,i * 5+4,none⟩=some (.int .i64 a4)):=HK.out.cell hx 4 _ (by rw [ha4];exact (cf x).2.2)
    have hub:=HUS.out x hxm
    rw [←ha3,←ha4] at hub
    obtain ⟨un,hun⟩:∃z,z=undB ks x.1:=⟨_,rfl⟩
    have HUN:Hid (∀W,Calls Tryz.prog 32 #[.string s,.string y] W fun e w'=>e=.returned (.bool un)∧Below W.heap.size W w'):=fun W=>by
     have h9:=cx s y W HSZ.out (by rw [hy];have:=aX okx;omega)
     have h8:undOf (bs s) (bs y)=un:=by rw [hy,HST.out,dg HPK.out okx,hun]
     rw [h8] at h9
     exact h9
    have hm:=Mem.start wr
    have A5:List String:=[]
    clear A5
    cases un with
    | false =>
     have HKN:Hid (RfK wr rb b cap N p (chg ks dx dy) (i+1) tl):=HK.out.keep hx (chg_not hun.symm dx dy)
     clear hx hxm okx hy ha3 ha4 hub hun HC3 HC4
     go_wp2_with (first
      | ((with_reducible refine ab (some 20) (.load 46 (.tmp 19)) ?_);go_must (refine aa (.slice (some ⟨b,0,none⟩) N cap) rfl (ad 0 (.slice (some ⟨b,0,none⟩) N cap) HRW.out rfl ak rfl) ?_))
      | ((with_reducible refine ab (some 33) (.load 46 (.tmp 32)) ?_);go_must (refine aa (.slice (some ⟨b,0,none⟩) N cap) rfl (ad 0 (.slice (some ⟨b,0,none⟩) N cap) HRW.out rfl ak rfl) ?_))
      | ((with_reducible refine ab (some 35) (.indexAddr 46 (.tmp 33) (.tmp 34)) ?_);go_must (refine aa (.pointer (some ⟨b,i * 5,none⟩)) rfl (ap 5 i ay ao rfl rfl rfl hlt) ?_))
      | ((with_reducible refine ab (some 37) (.load 9 (.tmp 36)) ?_);go_must (refine aa (.string y) rfl (ar (.string y) HY.out rfl aj) ?_))
      | (go_at_call 32;refine (HUN.out _).mono ?_;rintro e w' ⟨he,hb⟩;subst he;replace hm:=hm.call hb;clear hb))
     go_roundw
     case rel=>exact ⟨i+1,by omega,by go_num,HKN.out.below hm.below,HU.out.trans (Upd.of_below hm.below)⟩
     case measure=>show N - ((i:Int)+1).toNat<N - (i:Int).toNat;omega
    | true =>
     obtain ⟨s3,hs3⟩:∃z,z=a3+dx:=⟨_,rfl⟩
     obtain ⟨s4,hs4⟩:∃z,z=a4+dy:=⟨_,rfl⟩
     have hw3:IntKind.i64.wrap (a3+dx)=s3:=(bt _ (by omega) (by omega)).trans hs3.symm
     have hw4:IntKind.i64.wrap (a4+dy)=s4:=(bt _ (by omega) (by omega)).trans hs4.symm
     have HNX:Hid (undB ks x.1=true∧s3=usB x+dx∧s4=usE x+dy):=⟨hun.symm,by rw [hs3,ha3],by rw [hs4,ha4]⟩
     obtain ⟨CS,hCS⟩:∃l,l=(chK (chg ks dx dy) p i).flatMap spv++tl:=⟨_,rfl⟩
     have HCS:Hid (CS=(chK (chg ks dx dy) p i).flatMap spv++tl):=hCS
     have HRB:Hid (Row wr b CS 50):=by rw [hCS];exact HK.out.2
     have HLN3:Hid (i * 5+3<CS.length):=by have h9:i * 5+3<CS.length:=(by rw [hCS];exact eD hx tl (by omega));exact h9
     have HLN4:Hid (i * 5+4<(CS.set (i * 5+3) (.int .i64 s3)).length):=by have h9:i * 5+4<(CS.set (i * 5+3) (.int .i64 s3)).length:=(by rw [List.length_set,hCS];exact eD hx tl (by omega));exact h9
     have HNE:Hid (rb≠b):=rb_ne HK.out.1 HK.out.2
     have hne4:i * 5+3≠i * 5+4:=by omega
     have HI4:Hid ((CS.set (i * 5+3) (.int .i64 s3))[i * 5+4]?=some (.int .i64 a4)):=by
      have h9:(CS.set (i * 5+3) (.int .i64 s3))[i * 5+4]?=some (.int .i64 a4):=by
       rw [List.getElem?_set_ne hne4,←HRB.out.cell]
       exact HC4.out.2
      exact h9
     clear hx hxm okx hy ha3 ha4 hub hun hs3 hs4 hCS hne4
     go_wp2_with (first
      | ((with_reducible refine ab (some 20) (.load 46 (.tmp 19)) ?_);go_must (refine aa (.slice (some ⟨b,0,none⟩) N cap) rfl (ad 0 (.slice (some ⟨b,0,none⟩) N cap) HRW.out rfl ak rfl) ?_))
      | ((with_reducible refine ab (some 33) (.load 46 (.tmp 32)) ?_);go_must (refine aa (.slice (some ⟨b,0,none⟩) N cap) rfl (ad 0 (.slice (some ⟨b,0,none⟩) N cap) HRW.out rfl ak rfl) ?_))
      | ((with_reducible refine ab (some 35) (.indexAddr 46 (.tmp 33) (.tmp 34)) ?_);go_must (refine aa (.pointer (some ⟨b,i * 5,none⟩)) rfl (ap 5 i ay ao rfl rfl rfl hlt) ?_))
      | ((with_reducible refine ab (some 37) (.load 9 (.tmp 36)) ?_);go_must (refine aa (.string y) rfl (ar (.string y) HY.out rfl aj) ?_))
      | (go_at_call 32;refine (HUN.out _).mono ?_;rintro e w' ⟨he,hb⟩;subst he;replace hm:=hm.call hb;clear hb))
     refine am ?_
     refine cT (T:=fun W=>Mem wr [] W []) (T2:=fun _=>True) 18 (by kernel_rfl) hm ?_
     clear hm
     intro wc hm
     refine ai 0 (v:=.pointer (some ⟨rb,0,none⟩)) rfl (by kernel_rfl) (by kernel_rfl) (by kernel_rfl) rfl rfl (fun W _=>by go_simp) hm ?_
     go_simp
     refine ai 1 (v:=.pointer (some ⟨rb,0,none⟩)) rfl (by kernel_rfl) (by kernel_rfl) (by kernel_rfl) rfl rfl (fun W _=>by go_simp) hm ?_
     go_simp
     refine ai 2 (v:=.pointer (some ⟨rb,0,none⟩)) rfl (by kernel_rfl) (by kernel_rfl) (by kernel_rfl) rfl rfl (fun W _=>by go_simp) hm ?_
     go_simp
     refine ba 3 (v:=.slice (some ⟨b,0,none⟩) N cap) rfl (by kernel_rfl) (by kernel_rfl) (by kernel_rfl) rfl rfl (by kernel_rfl) rfl (fun W hW=>ad 0 (.slice (some ⟨b,0,none⟩) N cap) (Row.bel HRW.out hW.below) rfl ak rfl) hm ?_
     go_simp
     refine ai 4 (v:=.int .i64 (i:Int)) rfl (by kernel_rfl) (by kernel_rfl) (by kernel_rfl) rfl rfl (fun W _=>by go_simp) hm ?_
     go_simp
     refine ai 5 (v:=.pointer (some ⟨rb,0,none⟩)) rfl (by kernel_rfl) (by kernel_rfl) (by kernel_rfl) rfl rfl (fun W _=>by go_simp) hm ?_
     go_simp
     refine ai 6 (v:=.pointer (some ⟨rb,0,none⟩)) rfl (by kernel_rfl) (by kernel_rfl) (by kernel_rfl) rfl rfl (fun W _=>by go_simp) hm ?_
     go_simp
     refine ai 7 (v:=.pointer (some ⟨rb,0,none⟩)) rfl (by kernel_rfl) (by kernel_rfl) (by kernel_rfl) rfl rfl (fun W _=>by go_simp) hm ?_
     go_simp
     refine ba 8 (v:=.slice (some ⟨b,0,none⟩) N cap) rfl (by kernel_rfl) (by kernel_rfl) (by kernel_rfl) rfl rfl (by kernel_rfl) rfl (fun W hW=>ad 0 (.slice (some ⟨b,0,none⟩) N cap) (Row.bel HRW.out hW.below) rfl ak rfl) hm ?_
     go_simp
     refine ai 9 (v:=.int .i64 (i:Int)) rfl (by kernel_rfl) (by kernel_rfl) (by kernel_rfl) rfl rfl (fun W _=>by go_simp) hm ?_
     go_simp
     refine ai 10 (v:=.pointer (some ⟨b,i * 5,none⟩)) rfl (by kernel_rfl) (by kernel_rfl) (by kernel_rfl) rfl rfl (fun W _=>ap 5 i ay ao rfl rfl rfl hlt) hm ?_
     go_simp
     refine ai 11 (v:=.pointer (some ⟨b,i * 5+3,none⟩)) rfl (by kernel_rfl) (by kernel_rfl) (by kernel_rfl) rfl rfl (fun W _=>by go_simp) hm ?_
     go_simp
     refine ba 12 (v:=.int .i64 a3) rfl (by kernel_rfl) (by kernel_rfl) (by kernel_rfl) rfl rfl (by kernel_rfl) rfl (fun W hW=>ar (.int .i64 a3) ((hW.below.cell (p:=⟨b,i * 5+3,none⟩) HC3.out.1).trans HC3.out.2) rfl ah) hm ?_
     go_simp
     refine ai 13 (v:=.int .i64 b0) rfl (by kernel_rfl) (by kernel_rfl) (by kernel_rfl) rfl rfl (fun W _=>by go_simp) hm ?_
     go_simp
     refine anyC_one 14 (by kernel_rfl) rfl rfl rfl ?_
     intro K hK
     go_wp2_with (go_at_call 31;refine (bR b0 dx HDX.out _).mono ?_;rintro e w' ⟨he,hb⟩;subst he;replace hm:=hm.call hb;clear hb)
     refine hK _ _ hm ?_
     clear hK K
     go_simp
     refine ai 15 (v:=.int .i64 s3) rfl (by kernel_rfl) (by kernel_rfl) (by kernel_rfl) rfl rfl (fun W _=>by go_simp<;>exact hw3) hm ?_
     go_simp
     refine ai 16 (v:=.pointer (some ⟨b,i * 5,none⟩)) rfl (by kernel_rfl) (by kernel_rfl) (by kernel_rfl) rfl rfl (fun W _=>ap 5 i ay ao rfl rfl rfl hlt) hm ?_
     go_simp
     refine ai 17 (v:=.pointer (some ⟨b,i * 5+3,none⟩)) rfl (by kernel_rfl) (by kernel_rfl) (by kernel_rfl) rfl rfl (fun W _=>by go_simp) hm ?_
     go_simp
     refine dt (by kernel_rfl) rfl rfl ?_
     intro K hK
     refine bi 0 (i * 5+3) (.int .i64 s3) (Mem.enter (Row.bel HRB.out hm.below)) rfl rfl rfl eJ HLN3.out rfl rfl ?_
     intro w9 hm9
     refine wpList_nil ?_
     refine hK _ _ trivial ?_
     clear hK K
     refine wpAnyH_done (by kernel_rfl) ?_ _
     simp only [endsIn]
     have HRB9:Hid (Row w9 b (CS.set (i * 5+3) (.int .i64 s3)) 50):=hm9.get 0 rfl
     have HRW9:Hid (Row w9 rb [.slice (some ⟨b,0,none⟩) N cap] 71):=hm9.toUpd.row (Row.bel HRW.out hm.below) HNE.out
     have HU9:Hid (Upd b w w9):=(HU.out.trans (Upd.of_below hm.below)).trans hm9.toUpd
     have HC49:Hid (b<w9.heap.size∧w9.cell? ⟨b,i * 5+4,none⟩=some (.int .i64 a4)):=⟨Row.lt HRB9.out,by rw [HRB9.out.cell];exact HI4.out⟩
     clear hm hm9 HRW HRB HC4 HC3 HY
     have HRW:=HRW9
     have HRB:=HRB9
     have HC4:=HC49
     clear HRW9 HRB9 HC49
     have hm:=Mem.start w9
     go_wp2_with fail
     refine am ?_
     refine cT (T:=fun W=>Mem w9 [] W []) (T2:=fun _=>True) 18 (by kernel_rfl) hm ?_
     clear hm
     intro wc hm
     refine ai 0 (v:=.pointer (some ⟨rb,0,none⟩)) rfl (by kernel_rfl) (by kernel_rfl) (by kernel_rfl) rfl rfl (fun W _=>by go_simp) hm ?_
     go_simp
     refine ai 1 (v:=.pointer (some ⟨rb,0,none⟩)) rfl (by kernel_rfl) (by kernel_rfl) (by kernel_rfl) rfl rfl (fun W _=>by go_simp) hm ?_
     go_simp
     refine ai 2 (v:=.pointer (some ⟨rb,0,none⟩)) rfl (by kernel_rfl) (by kernel_rfl) (by kernel_rfl) rfl rfl (fun W _=>by go_simp) hm ?_
     go_simp
     refine ba 3 (v:=.slice (some ⟨b,0,none⟩) N cap) rfl (by kernel_rfl) (by kernel_rfl) (by kernel_rfl) rfl rfl (by kernel_rfl) rfl (fun W hW=>ad 0 (.slice (some ⟨b,0,none⟩) N cap) (Row.bel HRW.out hW.below) rfl ak rfl) hm ?_
     go_simp
     refine ai 4 (v:=.int .i64 (i:Int)) rfl (by kernel_rfl) (by kernel_rfl) (by kernel_rfl) rfl rfl (fun W _=>by go_simp) hm ?_
     go_simp
     refine ai 5 (v:=.pointer (some ⟨rb,0,none⟩)) rfl (by kernel_rfl) (by kernel_rfl) (by kernel_rfl) rfl rfl (fun W _=>by go_simp) hm ?_
     go_simp
     refine ai 6 (v:=.pointer (some ⟨rb,0,none⟩)) rfl (by kernel_rfl) (by kernel_rfl) (by kernel_rfl) rfl rfl (fun W _=>by go_simp) hm ?_
     go_simp
     refine ai 7 (v:=.pointer (some ⟨rb,0,none⟩)) rfl (by kernel_rfl) (by kernel_rfl) (by kernel_rfl) rfl rfl (fun W _=>by go_simp) hm ?_
     go_simp
     refine ba 8 (v:=.slice (some ⟨b,0,none⟩) N cap) rfl (by kernel_rfl) (by kernel_rfl) (by kernel_rfl) rfl rfl (by kernel_rfl) rfl (fun W hW=>ad 0 (.slice (some ⟨b,0,none⟩) N cap) (Row.bel HRW.out hW.below) rfl ak rfl) hm ?_
     go_simp
     refine ai 9 (v:=.int .i64 (i:Int)) rfl (by kernel_rfl) (by kernel_rfl) (by kernel_rfl) rfl rfl (fun W _=>by go_simp) hm ?_
     go_simp
     refine ai 10 (v:=.pointer (some ⟨b,i * 5,none⟩)) rfl (by kernel_rfl) (by kernel_rfl) (by kernel_rfl) rfl rfl (fun W _=>ap 5 i ay ao rfl rfl rfl hlt) hm ?_
     go_simp
     refine ai 11 (v:=.pointer (some ⟨b,i * 5+4,none⟩)) rfl (by kernel_rfl) (by kernel_rfl) (by kernel_rfl) rfl rfl (fun W _=>by go_simp) hm ?_
     go_simp
     refine ba 12 (v:=.int .i64 a4) rfl (by kernel_rfl) (by kernel_rfl) (by kernel_rfl) rfl rfl (by kernel_rfl) rfl (fun W hW=>ar (.int .i64 a4) ((hW.below.cell (p:=⟨b,i * 5+4,none⟩) HC4.out.1).trans HC4.out.2) rfl ah) hm ?_
     go_simp
     refine ai 13 (v:=.int .i64 e0) rfl (by kernel_rfl) (by kernel_rfl) (by kernel_rfl) rfl rfl (fun W _=>by go_simp) hm ?_
     go_simp
     refine anyC_one 14 (by kernel_rfl) rfl rfl rfl ?_
     intro K hK
     go_wp2_with (go_at_call 31;refine (bR e0 dy HDY.out _).mono ?_;rintro e w' ⟨he,hb⟩;subst he;replace hm:=hm.call hb;clear hb)
     refine hK _ _ hm ?_
     clear hK K
     go_simp
     refine ai 15 (v:=.int .i64 s4) rfl (by kernel_rfl) (by kernel_rfl) (by kernel_rfl) rfl rfl (fun W _=>by go_simp<;>exact hw4) hm ?_
     go_simp
     refine ai 16 (v:=.pointer (some ⟨b,i * 5,none⟩)) rfl (by kernel_rfl) (by kernel_rfl) (by kernel_rfl) rfl rfl (fun W _=>ap 5 i ay ao rfl rfl rfl hlt) hm ?_
     go_simp
     refine ai 17 (v:=.pointer (some ⟨b,i * 5+4,none⟩)) rfl (by kernel_rfl) (by kernel_rfl) (by kernel_rfl) rfl rfl (fun W _=>by go_simp) hm ?_
     go_simp
     refine dt (by kernel_rfl) rfl rfl ?_
     intro K hK
     refine bi 0 (i * 5+4) (.int .i64 s4) (Mem.enter (Row.bel HRB.out hm.below)) rfl rfl rfl eJ HLN4.out rfl rfl ?_
     intro w10 hm9
     refine wpList_nil ?_
     refine hK _ _ trivial ?_
     clear hK K
     refine wpAnyH_done (by kernel_rfl) ?_ _
     simp only [endsIn]
     have HRB9:Hid (Row w10 b ((CS.set (i * 5+3) (.int .i64 s3)).set (i * 5+4) (.int .i64 s4)) 50):=hm9.get 0 rfl
     have HRW9:Hid (Row w10 rb [.slice (some ⟨b,0,none⟩) N cap] 71):=hm9.toUpd.row (Row.bel HRW.out hm.below) HNE.out
     have HU10:Hid (Upd b w w10):=(HU9.out.trans (Upd.of_below hm.below)).trans hm9.toUpd
     clear hm hm9
     go_wp2_with fail
     go_roundw
     case rel=>exact ⟨i+1,by omega,by go_num,rf_next HX.out HNX.out.1 HNX.out.2.1 HNX.out.2.2 HRW9.out (by rw [←HCS.out];exact HRB9.out),HU10⟩
     case measure=>show N - ((i:Int)+1).toNat<N - (i:Int).toNat;omega
   ·have hin:i=N:=by omega
    have hki:¬(i:Int)<(N:Int):=by omega
    have hm:=Mem.start wr
    go_wp2_with (first
     | ((with_reducible refine ab (some 20) (.load 46 (.tmp 19)) ?_);go_must (refine aa (.slice (some ⟨b,0,none⟩) N cap) rfl (ad 0 (.slice (some ⟨b,0,none⟩) N cap) HRW.out rfl ak rfl) ?_)))
    go_ret
    have h9:=HK.out
    rw [hin] at h9
    exact ⟨rfl,h9.all HNP.out HBB.out.2 HBB.out.1,b,_,HBB.out.1,HSL.out,HU.out⟩
 ·rw [if_neg h0]
  have hb0:(r==0)=false:=by simpa using h0
  clear hQ hpl hsl hr hdx hdy hks hs hN hBb hp0 HK0
  have HRWw:Hid (Row w rb [.slice (some ⟨b,0,none⟩) N cap] 71):=hrow
  clear hrow
  go_enter Tryz.func13,Tryz.ntmps13
  go_wp2_with (first
   | (go_at_call 11;refine (HCN.out _ hm.below).mono ?_;rintro e w' ⟨he,hb⟩;subst he;replace hm:=hm.call hb;clear hb))
  have HB1:Hid (Below w.heap.size w _):=hm.below
  clear hm HCN
  go_loopw [10] (fun vi wr=>vi=.int .i64 0∧Hid (Below w.heap.size w wr)) (fun _ _=>0)
  case atStart=>exact ⟨rfl,HB1⟩
  case round =>
   clear HB1
   obtain ⟨rfl,HB⟩:=hrel
   have HRW:Hid (Row wr rb [.slice (some ⟨b,0,none⟩) N cap] 71):=Row.bel HRWw.out HB.out
   have hki:(0:Int)<(N:Int):=by omega
   have hm:=Mem.start wr
   go_wp2_with (first
    | ((with_reducible refine ab (some 20) (.load 46 (.tmp 19)) ?_);go_must (refine aa (.slice (some ⟨b,0,none⟩) N cap) rfl (ad 0 (.slice (some ⟨b,0,none⟩) N cap) HRW.out rfl ak rfl) ?_)))
   go_ret
   exact ⟨rfl,HR.out.below HB.out,b,_,HBB.out.1,HSL.out,Upd.of_below HB.out⟩
end Go.Proofs.YtdmohffogfbnbaaGreatDoor
