import Derived.Test.YtabncjcfpkhhnaaGreatDoorQy12
set_option maxRecDepth 100000
set_option maxHeartbeats 4000000
namespace Go.Proofs.YtabncjcfpkhhnaaGreatDoor
open Go Go.RowKit Go.Maps Go.Sort
theorem cW {g rb N:Nat} (h:N≤g) (h2:rb<N):g≠rb:=by omega
theorem nplay_walk (bb ee:Int) (pp:Option Addr) (n cap b o:Nat) (X:Nat→Stp) (w:World) (hp:0<n→pp=some ⟨b,o,none⟩) (hX:∀i,i<n→∀j u,(X i).row[j]?=some u→w.cell? ⟨b,o+i * 4+j,none⟩=some u) (hM:MaxL w) :
  Calls Tryz.prog 3 #[.int .i64 bb,.int .i64 ee,.slice pp n cap] w fun e w'=>e=.returned (.bool true)∧Below w.heap.size w w':=by
 have hm:=Mem.start w
 have HM:Hid (MaxL w):=hM
 have HX:Hid (∀i,i<n→∀j u,(X i).row[j]?=some u→b<w.heap.size∧w.cell? ⟨b,o+i * 4+j,none⟩=some u):=fun i hi j u hu=>by
  have h1:=hX i hi j u hu
  exact ⟨block_lt_of_cell h1,h1⟩
 clear hM hX
 by_cases hn:40<n
 ·have hni:(40:Int)<(n:Int):=by omega
  clear hp HX
  go_enter Tryz.func3,Tryz.ntmps3
  go_wp2_with (first
   | (go_at_call 7;refine (dt _ (HM.out.below hm.below)).mono ?_;rintro e w1 ⟨he,hb⟩;subst he;replace hm:=hm.call hb;clear hb))
  go_ret
  exact ⟨rfl,hm.below⟩
 ·have hni:¬(40:Int)<(n:Int):=by omega
  have hn4:n≤40:=by omega
  clear hn
  go_enter Tryz.func3,Tryz.ntmps3
  go_wp2_with (first
   | (go_at_call 7;refine (dt _ (HM.out.below hm.below)).mono ?_;rintro e w1 ⟨he,hb⟩;subst he;replace hm:=hm.call hb;clear hb)
   | (go_at_call 8;refine (new_n (bb) (ee) _).mono ?_;rintro e w2 ⟨nb,m,he,hwn,hwm,hn,hb⟩;subst he;have HB:Hid (Below w.heap.size w w2):=hm.below.trans (hb.mono hm.size);replace hwm:w.heap.size≤m:=Nat.le_trans hm.size hwm;have hm0:0<m:=Nat.lt_of_lt_of_le HM.out.lt0 hwm;have HN:Hid (NmAt w2 nb m 1 (newN (bb) (ee))):=hn;have HM2:Hid (MaxL w2):=HM.out.below HB.out;clear hm;have hm:=Mem.start w2;clear hn hb hwn)
   | (go_at_call 9;refine (newR_n bb ee _).mono ?_;rintro e w3 ⟨rb,he,hwr,hr,hb⟩;subst he;replace hwr:w.heap.size≤rb:=Nat.le_trans HB.out.size hwr;have HS0:Hid (Below w.heap.size w w3∧NmAt w3 nb m (0+1) (newN bb ee)∧RfAt w.heap.size w3 rb (newN bb ee)∧TrOk (newN bb ee)∧(newN bb ee).length≤0+1):=⟨aw HB.out HB.out.size hb,HN.out.below hb,hr.base HB.out.size,TrOk.new bb ee,Nat.le_refl _⟩;clear hm HB HN HM2 hb hr))
  go_loopw [9] (fun vi wr=>∃i:Nat,i≤n∧vi=.int .i64 (i:Int)∧∃p:Nms,Hid (Below w.heap.size w wr∧NmAt wr nb m (i+1) (p)∧RfAt w.heap.size wr rb (p)∧TrOk (p)∧(p).length≤i+1)) (fun vi _=>match vi with | .int _ q=>n - q.toNat|_=>0)
  case atStart=>exact ⟨0,by omega,rfl,_,HS0⟩
  case round =>
   clear HS0
   obtain ⟨i,hi,rfl,p,HS0⟩:=hrel
   by_cases hlt:i<n
   ·have hki:(i:Int)<(n:Int):=by omega
    have hw:IntKind.i64.wrap ((i:Int)+1)=(i:Int)+1:=bW _ (by omega) (by omega)
    have hpp:=hp (by omega)
    subst hpp
    have hm:=Mem.start wr
    obtain ⟨R,hR⟩:∃R,R=(X i).row:=⟨_,rfl⟩
    obtain ⟨wh,hwh⟩:∃x,x=(X i).wh:=⟨_,rfl⟩
    obtain ⟨s,hs⟩:∃x,x=(X i).path:=⟨_,rfl⟩
    obtain ⟨lb,hlb⟩:∃x,x=(X i).b:=⟨_,rfl⟩
    obtain ⟨le,hle⟩:∃x,x=(X i).e:=⟨_,rfl⟩
    have HR0:Hid (R[0]?=some (.int .i64 wh)):=by show R[0]?=some (.int .i64 wh);rw [hR,hwh];rfl
    have HR1:Hid (R[1]?=some (.string s)):=by show R[1]?=some (.string s);rw [hR,hs];rfl
    have HR2:Hid (R[2]?=some (.int .i64 lb)):=by show R[2]?=some (.int .i64 lb);rw [hR,hlb];rfl
    have HR3:Hid (R[3]?=some (.int .i64 le)):=by show R[3]?=some (.int .i64 le);rw [hR,hle];rfl
    have HRL:Hid (R.length=4):=by show R.length=4;rw [hR];rfl
    have HRO:Hid (∀v∈R,v.oneCell'=true):=by show ∀v∈R,v.oneCell'=true;rw [hR];exact Stp.one _
    have HRC:Hid (∀j u,R[j]?=some u→wr.cell? ⟨b,o+i * 4+j,none⟩=some u):=fun j u hu=>by
     have h1:=HX.out i hlt j u (by rw [←hR];exact hu)
     exact (HS0.out.1.cell (p:=⟨b,o+i * 4+j,none⟩) h1.1).trans h1.2
    clear hR hwh hs hlb hle
    by_cases h60:60<s.size
    ·have h60i:(60:Int)<(s.size:Int):=by omega
     clear h60
     go_wp2_with (first
      | ((with_reducible refine aa (some 38) (.indexAddr 22 (.tmp 36) (.tmp 37)) ?_);go_must (refine ab (.pointer (some ⟨b,o+i * 4,none⟩)) rfl (bV 4 i cy bD rfl rfl rfl hlt) ?_))
      | ((with_reducible refine aa (some 39) (.load 29 (.tmp 38)) ?_);go_must (refine ab (.agg R.toArray) rfl (aC (o+i * 4) 4 R _ rfl HRC.out dC rfl bD HRL.out) ?_))
      | ((with_reducible refine aa (some 10) (.alloc 29) ?_);refine ae _ cS hm ?_;clear hm;intro w3 g10 hm)
      | ((with_reducible refine aa none (.store 29 (.tmp 10) (.tmp 39)) ?_);refine ag 0 R hm rfl rfl rfl 4 bD rfl HRL.out HRO.out ?_;clear hm;intro w4 hm;have HS:Hid (PlS w w4 nb m rb (i+1) g10 p p R):=⟨aw HS0.out.1 HS0.out.1.size hm.below,HS0.out.2.1.below hm.below,HS0.out.2.2.1.below hm.below,hm.get 0 rfl,hwm,hwr,cW ((hm.fresh _ (List.mem_cons_self ..)).resolve_left (by simp)) HS0.out.2.2.1.lt⟩;clear hm)
      | ((with_reducible refine aa (some 41) (.load 9 (.tmp 40)) ?_);go_must (refine ab (.string s) rfl (ad 1 (.string s) HS.out.row rfl ak HR1.out) ?_))
      | ((with_reducible refine aa (some 46) (.load 3 (.tmp 45)) ?_);go_must (refine ab (.int .i64 wh) rfl (ad 0 (.int .i64 wh) HS.out.row rfl bn HR0.out) ?_)))
     go_ret
     exact ⟨rfl,HS.out.bel⟩
    ·have h60i:¬(60:Int)<(s.size:Int):=by omega
     have HSZ:Hid (s.size≤1000):=by show s.size≤1000;omega
     clear h60
     by_cases h3:wh≤3
     ·obtain ⟨e0,he0⟩:∃z,z=addE p s lb le:=⟨_,rfl⟩
      obtain ⟨p',hp'⟩:∃p',p'=(if e0=0 then addN p (segsB s,lb,le,0,0,0,0) else p):=⟨_,rfl⟩
      have HTR:Hid (TrOk p'∧p'.length≤i+1+1):=by
       rw [hp',he0];exact ⟨HS0.out.2.2.2.1.addIf s lb le,Nat.le_trans (addIf_len p s lb le) (by have:=HS0.out.2.2.2.2;omega)⟩
      have HC1:Hid (∀W,NmAt W nb m (i+1) p→Below w.heap.size w W→Calls Tryz.prog 10 #[.pointer (some ⟨nb,0,none⟩),.string s,.int .i64 lb,.int .i64 le] W fun e w'=>e=.returned (.int .i64 e0)∧NmAt w' nb m (i+1+1) p'∧Upd m W w'):=fun W h1 h2=>by
       have h9:=add_n h1 (by omega) s HSZ.out (HM.out.below h2) lb le e0 he0
       rw [←hp'] at h9
       exact h9
      have HC2:Hid (∀W,RfAt w.heap.size W rb p→w.heap.size≤W.heap.size→Calls Tryz.prog 11 #[.pointer (some ⟨rb,0,none⟩),.string s,.int .i64 lb,.int .i64 le] W fun e w'=>e=.returned (.int .i64 e0)∧RfAt w.heap.size w' rb p'∧Upd rb W w'):=fun W h1 h2=>by
       have h9:=addR_n h1 h2 HS0.out.2.2.2.1.ok (by have:=HS0.out.2.2.2.2;omega) s HSZ.out lb le e0 he0
       rw [←hp'] at h9
       exact h9
      clear hp' he0
      obtain ⟨V,hV⟩:∃V,V=getV p' s:=⟨_,rfl⟩
      obtain ⟨ok,hok⟩:∃b,b=getB p' s:=⟨_,rfl⟩
      obtain ⟨k,hk⟩:∃k,k=atN p' s:=⟨_,rfl⟩
      have hl9:p'.length≤42:=by have:=HTR.out.2;omega
      have HPL:Hid (p'.length≤42):=hl9
      have HV5:Hid (V.length=5):=by show V.length=5;rw [hV];exact getV5 _ _
      have HV1:Hid (∀v∈V,v.oneCell'=true):=by show ∀v∈V,v.oneCell'=true;rw [hV];exact dZ _ _
      have HGK:Hid ((ok=false∧k = -1)∨(ok=true∧∃(i0:Nat) (x0:Sp),p'[i0]?=some x0∧k=(i0:Int)∧V=spv x0)):=by
       rw [hok,hk,hV];exact cA HTR.out.1.ok s
      have HGT:Hid (∀W,NmAt W nb m (i+1+1) p'→Below w.heap.size w W→Calls Tryz.prog 15 #[.pointer (some ⟨nb,0,none⟩),.string s] W fun e w'=>e=.returned (.tuple #[.agg V.toArray,.bool ok])∧Below W.heap.size W w'):=fun W h1 h2=>by
       have h9:=get_n h1 s HSZ.out (HM.out.below h2)
       rw [←hV,←hok] at h9
       exact h9
      have HAT:Hid (∀W,RfAt w.heap.size W rb p'→Calls Tryz.prog 16 #[.pointer (some ⟨rb,0,none⟩),.string s] W fun e w'=>e=.returned (.int .i64 k)∧Below W.heap.size W w'):=fun W h1=>atR_n h1 (by have:=HPL.out;omega) s k hk
      have HAL:Hid (∀W,NmAt W nb m (i+1+1) p'→Below w.heap.size w W→Calls Tryz.prog 18 #[.pointer (some ⟨nb,0,none⟩)] W fun e w'=>∃v,e=.returned v∧SpN W.heap.size w' v p'∧Below W.heap.size W w'):=fun W h1 h2=>all_n h1 (by omega) (by have:=HPL.out;omega) (HM.out.below h2)
      have HSM:Hid (∀W B va,RfAt w.heap.size W rb p'→SpN B W va p'→Calls Tryz.prog 17 #[.pointer (some ⟨rb,0,none⟩),va] W fun e w'=>e=.returned (.bool true)∧Below W.heap.size W w'):=fun W B va h1 h2=>dG h1 (by have:=HPL.out;omega) HTR.out.1.pos h2
      have HKD:Hid (∀W,NmAt W nb m (i+1+1) p'→Calls Tryz.prog 19 #[.pointer (some ⟨nb,0,none⟩),.string s] W fun e w'=>∃v,e=.returned v∧StN W.heap.size w' v (kidsN p' s)∧Below W.heap.size W w'):=fun W h1=>kids_n h1 (by omega) s
      have HKR:Hid (∀W,RfAt w.heap.size W rb p'→Calls Tryz.prog 20 #[.pointer (some ⟨rb,0,none⟩),.string s] W fun e w'=>∃v,e=.returned v∧StN W.heap.size w' v (kidsN p' s)∧Below W.heap.size W w'):=fun W h1=>dJ h1 HTR.out.1.ok (by have:=HPL.out;omega) s
      have HKL:Hid ((kidsN p' s).length≤90000):=by show (kidsN p' s).length≤90000;have:=da p' s;omega
      clear hV hok hk hl9
      go_wp2_with (first
       | ((with_reducible refine aa (some 38) (.indexAddr 22 (.tmp 36) (.tmp 37)) ?_);go_must (refine ab (.pointer (some ⟨b,o+i * 4,none⟩)) rfl (bV 4 i cy bD rfl rfl rfl hlt) ?_))
       | ((with_reducible refine aa (some 39) (.load 29 (.tmp 38)) ?_);go_must (refine ab (.agg R.toArray) rfl (aC (o+i * 4) 4 R _ rfl HRC.out dC rfl bD HRL.out) ?_))
       | ((with_reducible refine aa (some 10) (.alloc 29) ?_);refine ae _ cS hm ?_;clear hm;intro w3 g10 hm)
       | ((with_reducible refine aa none (.store 29 (.tmp 10) (.tmp 39)) ?_);refine ag 0 R hm rfl rfl rfl 4 bD rfl HRL.out HRO.out ?_;clear hm;intro w4 hm;have HS:Hid (PlS w w4 nb m rb (i+1) g10 p p R):=⟨aw HS0.out.1 HS0.out.1.size hm.below,HS0.out.2.1.below hm.below,HS0.out.2.2.1.below hm.below,hm.get 0 rfl,hwm,hwr,cW ((hm.fresh _ (List.mem_cons_self ..)).resolve_left (by simp)) HS0.out.2.2.1.lt⟩;clear hm)
       | ((with_reducible refine aa (some 41) (.load 9 (.tmp 40)) ?_);go_must (refine ab (.string s) rfl (ad 1 (.string s) HS.out.row rfl ak HR1.out) ?_))
       | ((with_reducible refine aa (some 46) (.load 3 (.tmp 45)) ?_);go_must (refine ab (.int .i64 wh) rfl (ad 0 (.int .i64 wh) HS.out.row rfl bn HR0.out) ?_)))
      refine aj ?_
      refine af (T:=fun W=>Row W g10 R 29) (by kernel_rfl) (Mem.start _) ?_
      intro wc hbw _
      replace HS:Hid (PlS w wc nb m rb (i+1) g10 p p R):=HS.out.below hbw
      clear hbw
      refine aT 0 (v:=.pointer (some ⟨nb,0,none⟩)) rfl (by kernel_rfl) rfl (fun W _=>by go_simp) HS.out.row ?_
      go_simp
      refine aT 1 (v:=.pointer (some ⟨g10,1,none⟩)) rfl (by kernel_rfl) rfl (fun W _=>by go_simp) HS.out.row ?_
      go_simp
      refine aT 2 (v:=.string s) rfl (by kernel_rfl) rfl (fun W hW=>ad 1 (.string s) (hW) rfl ak HR1.out) HS.out.row ?_
      go_simp
      refine aT 3 (v:=.pointer (some ⟨g10,2,none⟩)) rfl (by kernel_rfl) rfl (fun W _=>by go_simp) HS.out.row ?_
      go_simp
      refine aT 4 (v:=.int .i64 lb) rfl (by kernel_rfl) rfl (fun W hW=>ad 2 (.int .i64 lb) (hW) rfl bn HR2.out) HS.out.row ?_
      go_simp
      refine aT 5 (v:=.pointer (some ⟨g10,3,none⟩)) rfl (by kernel_rfl) rfl (fun W _=>by go_simp) HS.out.row ?_
      go_simp
      refine aT 6 (v:=.int .i64 le) rfl (by kernel_rfl) rfl (fun W hW=>ad 3 (.int .i64 le) (hW) rfl bn HR3.out) HS.out.row ?_
      go_simp
      refine aT 8 (v:=.pointer (some ⟨rb,0,none⟩)) rfl (by kernel_rfl) rfl (fun W _=>by go_simp) HS.out.row ?_
      go_simp
      refine aT 9 (v:=.pointer (some ⟨g10,1,none⟩)) rfl (by kernel_rfl) rfl (fun W _=>by go_simp) HS.out.row ?_
      go_simp
      refine aT 10 (v:=.string s) rfl (by kernel_rfl) rfl (fun W hW=>ad 1 (.string s) (hW) rfl ak HR1.out) HS.out.row ?_
      go_simp
      refine aT 11 (v:=.pointer (some ⟨g10,2,none⟩)) rfl (by kernel_rfl) rfl (fun W _=>by go_simp) HS.out.row ?_
      go_simp
      refine aT 12 (v:=.int .i64 lb) rfl (by kernel_rfl) rfl (fun W hW=>ad 2 (.int .i64 lb) (hW) rfl bn HR2.out) HS.out.row ?_
      go_simp
      refine aT 13 (v:=.pointer (some ⟨g10,3,none⟩)) rfl (by kernel_rfl) rfl (fun W _=>by go_simp) HS.out.row ?_
      go_simp
      refine aT 14 (v:=.int .i64 le) rfl (by kernel_rfl) rfl (fun W hW=>ad 3 (.int .i64 le) (hW) rfl bn HR3.out) HS.out.row ?_
      go_simp
      refine aO 7 (by kernel_rfl) rfl rfl ?_
      intro K hK
      go_wp2_with (go_at_call 10;refine (HC1.out _ HS.out.names HS.out.bel).mono ?_;rintro e w5 ⟨he,hn,hu⟩;subst he;replace HS:Hid (PlS w w5 nb m rb (i+1+1) g10 p' p R):=HS.out.updM hn hu;clear hn hu)
      refine hK _ _ HS.out.row ?_
      clear hK K
      go_simp
      refine aO 15 (by kernel_rfl) rfl rfl ?_
      intro K hK
      go_wp2_with (go_at_call 11;refine (HC2.out _ HS.out.ref HS.out.bel.size).mono ?_;rintro e w6 ⟨he,hn,hu⟩;subst he;replace HS:Hid (PlS w w6 nb m rb (i+1+1) g10 p' p' R):=HS.out.updR hn hu;clear hn hu)
      refine hK _ _ HS.out.row ?_
      clear hK K
      go_simp
      refine aT 16 (v:=.bool false) rfl (by kernel_rfl) rfl (fun W _=>by go_simp) HS.out.row ?_
      go_simp
      refine wpAnyH_done (by kernel_rfl) ?_ _
      simp only [endsIn]
      go_wp2_with (first
       | (go_at_call 15;refine (HGT.out _ HS.out.names HS.out.bel).mono ?_;rintro e w5 ⟨he,hb⟩;subst he;replace HS:Hid (PlS w w5 nb m rb (i+1+1) g10 p' p' R):=HS.out.below hb;clear hb)
       | ((with_reducible refine aa (some 15) (.alloc 40) ?_);refine ae _ aU (Mem.start _) ?_;intro w6 g15 hm)
       | ((with_reducible refine aa none (.store 40 (.tmp 15) (.tmp 97)) ?_);refine ag 0 V hm rfl rfl rfl 5 an rfl HV5.out HV1.out ?_;clear hm;intro w7 hm;replace HS:Hid (PlS w w7 nb m rb (i+1+1) g10 p' p' R):=HS.out.below hm.below;have HV:Hid (Row w7 g15 V 40):=hm.get 0 rfl;clear hm)
       | (go_at_call 16;refine (HAT.out _ HS.out.ref).mono ?_;rintro e w8 ⟨he,hb⟩;subst he;replace HS:Hid (PlS w w8 nb m rb (i+1+1) g10 p' p' R):=HS.out.below hb;replace HV:Hid (Row w8 g15 V 40):=Row.bel HV.out hb;obtain ⟨bf,cf,hrf⟩:=HS.out.ref.open;have HRF:Hid (RfB w8 rb p' bf cf):=hrf;clear hb hrf)
       | ((with_reducible refine aa (some 95) (.load 9 (.tmp 94)) ?_);go_must (refine ab (.string s) rfl (ad 1 (.string s) HS.out.row rfl ak HR1.out) ?_))
       | ((with_reducible refine aa (some 101) (.load 9 (.tmp 100)) ?_);go_must (refine ab (.string s) rfl (ad 1 (.string s) HS.out.row rfl ak HR1.out) ?_)))
      refine aj ?_
      refine af (T:=fun W=>PlS w W nb m rb (i+1+1) g10 p' p' R∧Row W g15 V 40∧RfB W rb p' bf cf) (by kernel_rfl) (Mem.start _) ?_
      intro wc hbw _
      replace HS:Hid (PlS w wc nb m rb (i+1+1) g10 p' p' R):=HS.out.below hbw
      replace HV:Hid (Row wc g15 V 40):=Row.bel HV.out hbw
      replace HRF:Hid (RfB wc rb p' bf cf):=HRF.out.below hbw
      clear hbw
      refine aT 0 (v:=.pointer (some ⟨rb,0,none⟩)) rfl (by kernel_rfl) rfl (fun W _=>by go_simp) ⟨HS.out,HV.out,HRF.out⟩ ?_
      go_simp
      refine aT 1 (v:=.pointer (some ⟨nb,0,none⟩)) rfl (by kernel_rfl) rfl (fun W _=>by go_simp) ⟨HS.out,HV.out,HRF.out⟩ ?_
      go_simp
      refine aO 2 (by kernel_rfl) rfl rfl ?_
      intro K hK
      go_wp2_with (go_at_call 18;refine (HAL.out _ HS.out.names HS.out.bel).mono ?_;rintro e w' ⟨va,he,hsp,hb⟩;subst he;replace HS:Hid (PlS w w' nb m rb (i+1+1) g10 p' p' R):=HS.out.below hb;replace HV:Hid (Row w' g15 V 40):=Row.bel HV.out hb;replace HRF:Hid (RfB w' rb p' bf cf):=HRF.out.below hb;have HSP:Hid (SpN _ w' va p'):=hsp;clear hb hsp)
      refine hK _ _ ⟨HS.out,HV.out,HRF.out⟩ ?_
      clear hK K
      go_simp
      refine aO 3 (by kernel_rfl) rfl rfl ?_
      intro K hK
      go_wp2_with (go_at_call 17;refine (HSM.out _ _ _ HS.out.ref HSP.out).mono ?_;rintro e w' ⟨he,hb⟩;subst he;replace HS:Hid (PlS w w' nb m rb (i+1+1) g10 p' p' R):=HS.out.below hb;replace HV:Hid (Row w' g15 V 40):=Row.bel HV.out hb;replace HRF:Hid (RfB w' rb p' bf cf):=HRF.out.below hb;clear hb)
      refine hK _ _ ⟨HS.out,HV.out,HRF.out⟩ ?_
      clear hK K
      go_simp
      refine aT 4 (v:=.bool false) rfl (by kernel_rfl) rfl (fun W _=>by go_simp) ⟨HS.out,HV.out,HRF.out⟩ ?_
      go_simp
      refine aT 5 (v:=.bool false) rfl (by kernel_rfl) rfl (fun W _=>by go_simp) ⟨HS.out,HV.out,HRF.out⟩ ?_
      go_simp
      refine aG 6 (v:=.pointer (some ⟨nb,0,none⟩)) rfl (by kernel_rfl) rfl (fun W _=>by go_simp) ⟨HS.out,HV.out,HRF.out⟩ ?_
      go_simp
      refine aG 7 (v:=.pointer (some ⟨g10,1,none⟩)) rfl (by kernel_rfl) rfl (fun W _=>by go_simp) ⟨HS.out,HV.out,HRF.out⟩ ?_
      go_simp
      refine aG 8 (v:=.string s) rfl (by kernel_rfl) rfl (fun W hW=>ad 1 (.string s) (hW.1.row) rfl ak HR1.out) ⟨HS.out,HV.out,HRF.out⟩ ?_
      go_simp
      refine aG 10 (v:=.pointer (some ⟨rb,0,none⟩)) rfl (by kernel_rfl) rfl (fun W _=>by go_simp) ⟨HS.out,HV.out,HRF.out⟩ ?_
      go_simp
      refine aG 11 (v:=.pointer (some ⟨g10,1,none⟩)) rfl (by kernel_rfl) rfl (fun W _=>by go_simp) ⟨HS.out,HV.out,HRF.out⟩ ?_
      go_simp
      refine aG 12 (v:=.string s) rfl (by kernel_rfl) rfl (fun W hW=>ad 1 (.string s) (hW.1.row) rfl ak HR1.out) ⟨HS.out,HV.out,HRF.out⟩ ?_
      go_simp
      refine aO 9 (by kernel_rfl) rfl rfl ?_
      intro K hK
      go_wp2_with (go_at_call 19;refine (HKD.out _ HS.out.names).mono ?_;rintro e w' ⟨vk,he,hst,hb⟩;subst he;replace HS:Hid (PlS w w' nb m rb (i+1+1) g10 p' p' R):=HS.out.below hb;replace HV:Hid (Row w' g15 V 40):=Row.bel HV.out hb;replace HRF:Hid (RfB w' rb p' bf cf):=HRF.out.below hb;have HK1:Hid (StN _ w' vk (kidsN p' s)):=hst;clear hb hst)
      refine hK _ _ ⟨HS.out,HV.out,HRF.out⟩ ?_
      clear hK K
      go_simp
      refine aO 13 (by kernel_rfl) rfl rfl ?_
      intro K hK
      go_wp2_with (go_at_call 20;refine (HKR.out _ HS.out.ref).mono ?_;rintro e w' ⟨vr,he,hst,hb⟩;subst he;replace HS:Hid (PlS w w' nb m rb (i+1+1) g10 p' p' R):=HS.out.below hb;replace HV:Hid (Row w' g15 V 40):=Row.bel HV.out hb;replace HRF:Hid (RfB w' rb p' bf cf):=HRF.out.below hb;have HK2:Hid (StN _ w' vr (kidsN p' s)):=hst;replace HK1:Hid (StN _ w' vk (kidsN p' s)):=HK1.out.below hb;clear hb hst)
      refine hK _ _ ⟨HS.out,HV.out,HRF.out⟩ ?_
      clear hK K
      go_simp
      refine aO 14 (by kernel_rfl) rfl rfl ?_
      intro K hK
      go_wp2_with (go_at_call 14;refine (dF HK1.out HK2.out HKL.out).mono ?_;rintro e w' ⟨he,hb⟩;subst he;replace HS:Hid (PlS w w' nb m rb (i+1+1) g10 p' p' R):=HS.out.below hb;replace HV:Hid (Row w' g15 V 40):=Row.bel HV.out hb;replace HRF:Hid (RfB w' rb p' bf cf):=HRF.out.below hb;clear hb HK1 HK2)
      refine hK _ _ ⟨HS.out,HV.out,HRF.out⟩ ?_
      clear hK K
      go_simp
      refine aG 15 (v:=.bool false) rfl (by kernel_rfl) rfl (fun W _=>by go_simp) ⟨HS.out,HV.out,HRF.out⟩ ?_
      go_simp
      refine aT 16 (v:=.bool false) rfl (by kernel_rfl) rfl (fun W _=>by go_simp) ⟨HS.out,HV.out,HRF.out⟩ ?_
      go_simp
      refine aT 17 (v:=.bool false) rfl (by kernel_rfl) rfl (fun W _=>by go_simp) ⟨HS.out,HV.out,HRF.out⟩ ?_
      go_simp
      rcases HGK.out with ⟨e1,e2⟩|⟨e1,i0,x0,hx0,e2,e3⟩
      ·clear HGK HGT HAT
       subst e1 e2
       refine aG 18 (v:=.bool false) rfl (by kernel_rfl) rfl (fun W _=>by go_simp) ⟨HS.out,HV.out,HRF.out⟩ ?_
       go_simp
       refine aG 19 (v:=.int .i64 (-1)) rfl (by kernel_rfl) rfl (fun W _=>by go_simp) ⟨HS.out,HV.out,HRF.out⟩ ?_
       go_simp
       refine aG 20 (v:=.bool false) rfl (by kernel_rfl) rfl (fun W _=>by go_simp) ⟨HS.out,HV.out,HRF.out⟩ ?_
       go_simp
       refine aG 21 (v:=.bool false) rfl (by kernel_rfl) rfl (fun W _=>by go_simp) ⟨HS.out,HV.out,HRF.out⟩ ?_
       go_simp
       refine aT 22 (v:=.bool false) rfl (by kernel_rfl) rfl (fun W _=>by go_simp) ⟨HS.out,HV.out,HRF.out⟩ ?_
       go_simp
       refine aT 23 (v:=.bool false) rfl (by kernel_rfl) rfl (fun W _=>by go_simp) ⟨HS.out,HV.out,HRF.out⟩ ?_
       go_simp
       refine aG 24 (v:=.bool false) rfl (by kernel_rfl) rfl (fun W _=>by go_simp) ⟨HS.out,HV.out,HRF.out⟩ ?_
       go_simp
       refine aG 25 (v:=.bool false) rfl (by kernel_rfl) rfl (fun W _=>by go_simp) ⟨HS.out,HV.out,HRF.out⟩ ?_
       go_simp
       refine ah 26 rfl (by kernel_rfl) (by kernel_rfl) (by kernel_rfl) rfl ⟨HS.out,HV.out,HRF.out⟩ ?_
       go_simp
       refine ah 27 rfl (by kernel_rfl) (by kernel_rfl) (by kernel_rfl) rfl ⟨HS.out,HV.out,HRF.out⟩ ?_
       go_simp
       refine ah 28 rfl (by kernel_rfl) (by kernel_rfl) (by kernel_rfl) rfl ⟨HS.out,HV.out,HRF.out⟩ ?_
       go_simp
       refine ah 29 rfl (by kernel_rfl) (by kernel_rfl) (by kernel_rfl) rfl ⟨HS.out,HV.out,HRF.out⟩ ?_
       go_simp
       refine ah 30 rfl (by kernel_rfl) (by kernel_rfl) (by kernel_rfl) rfl ⟨HS.out,HV.out,HRF.out⟩ ?_
       go_simp
       refine ah 31 rfl (by kernel_rfl) (by kernel_rfl) (by kernel_rfl) rfl ⟨HS.out,HV.out,HRF.out⟩ ?_
       go_simp
       refine ah 32 rfl (by kernel_rfl) (by kernel_rfl) (by kernel_rfl) rfl ⟨HS.out,HV.out,HRF.out⟩ ?_
       go_simp
       refine ah 33 rfl (by kernel_rfl) (by kernel_rfl) (by kernel_rfl) rfl ⟨HS.out,HV.out,HRF.out⟩ ?_
       go_simp
       refine ah 34 rfl (by kernel_rfl) (by kernel_rfl) (by kernel_rfl) rfl ⟨HS.out,HV.out,HRF.out⟩ ?_
       go_simp
       refine aG 35 (v:=.bool false) rfl (by kernel_rfl) rfl (fun W _=>by go_simp) ⟨HS.out,HV.out,HRF.out⟩ ?_
       go_simp
       refine aT 36 (v:=.bool false) rfl (by kernel_rfl) rfl (fun W _=>by go_simp) ⟨HS.out,HV.out,HRF.out⟩ ?_
       go_simp
       refine wpAnyH_done (by kernel_rfl) ?_ _
       simp only [endsIn]
       go_wp2_with fail
       go_roundw
       case rel=>exact ⟨i+1,by omega,by go_num,p',⟨HS.out.bel,HS.out.names,HS.out.ref,HTR.out.1,HTR.out.2⟩⟩
       case measure=>show n - ((i:Int)+1).toNat<n - (i:Int).toNat;omega
      ·clear HGK HGT HAT HV5 HV1
       subst e1 e2 e3
       have hi0:(0:Int)≤(i0:Int):=by omega
       have hi0p:i0<p'.length:=(List.getElem?_eq_some_iff.1 hx0).1
       have HX0:Hid (p'[i0]?=some x0):=hx0
       clear hx0
       refine aG 18 (v:=.bool true) rfl (by kernel_rfl) rfl (fun W _=>by go_simp) ⟨HS.out,HV.out,HRF.out⟩ ?_
       go_simp
       refine aG 19 (v:=.int .i64 (i0:Int)) rfl (by kernel_rfl) rfl (fun W _=>by go_simp) ⟨HS.out,HV.out,HRF.out⟩ ?_
       go_simp
       refine aG 20 (v:=.bool true) rfl (by kernel_rfl) rfl (fun W _=>by go_simp) ⟨HS.out,HV.out,HRF.out⟩ ?_
       go_simp
       refine aG 21 (v:=.bool false) rfl (by kernel_rfl) rfl (fun W _=>by go_simp) ⟨HS.out,HV.out,HRF.out⟩ ?_
       go_simp
       refine aT 22 (v:=.bool false) rfl (by kernel_rfl) rfl (fun W _=>by go_simp) ⟨HS.out,HV.out,HRF.out⟩ ?_
       go_simp
       refine aT 23 (v:=.bool false) rfl (by kernel_rfl) rfl (fun W _=>by go_simp) ⟨HS.out,HV.out,HRF.out⟩ ?_
       go_simp
       refine aG 24 (v:=.bool true) rfl (by kernel_rfl) rfl (fun W _=>by go_simp) ⟨HS.out,HV.out,HRF.out⟩ ?_
       go_simp
       refine aG 25 (v:=.bool true) rfl (by kernel_rfl) rfl (fun W _=>by go_simp) ⟨HS.out,HV.out,HRF.out⟩ ?_
       go_simp
       refine aG 26 (v:=.agg (spv x0).toArray) rfl (by kernel_rfl) rfl (fun W hW=>ai 0 (spv x0) hW.2.1 rfl _ aX rfl 5 an (Nat.le_refl 5) rfl) ⟨HS.out,HV.out,HRF.out⟩ ?_
       go_simp
       refine aG 27 (v:=.pointer (some ⟨rb,0,none⟩)) rfl (by kernel_rfl) rfl (fun W _=>by go_simp) ⟨HS.out,HV.out,HRF.out⟩ ?_
       go_simp
       refine aG 28 (v:=.pointer (some ⟨rb,0,none⟩)) rfl (by kernel_rfl) rfl (fun W _=>by go_simp) ⟨HS.out,HV.out,HRF.out⟩ ?_
       go_simp
       refine aG 29 (v:=.pointer (some ⟨rb,0,none⟩)) rfl (by kernel_rfl) rfl (fun W _=>by go_simp) ⟨HS.out,HV.out,HRF.out⟩ ?_
       go_simp
       refine aG 30 (v:=.slice (some ⟨bf,0,none⟩) p'.length cf) rfl (by kernel_rfl) rfl (fun W hW=>ad 0 (.slice (some ⟨bf,0,none⟩) p'.length cf) hW.2.2.1 rfl ay rfl) ⟨HS.out,HV.out,HRF.out⟩ ?_
       go_simp
       refine aG 31 (v:=.int .i64 (i0:Int)) rfl (by kernel_rfl) rfl (fun W _=>by go_simp) ⟨HS.out,HV.out,HRF.out⟩ ?_
       go_simp
       refine aG 32 (v:=.pointer (some ⟨bf,i0 * 5,none⟩)) rfl (by kernel_rfl) rfl (fun W _=>aD 5 i0 aH an rfl rfl rfl hi0p) ⟨HS.out,HV.out,HRF.out⟩ ?_
       go_simp
       refine aG 33 (v:=.agg (spv x0).toArray) rfl (by kernel_rfl) rfl (fun W hW=>aC (i0 * 5) 5 (spv x0) _ rfl (fun j u hu=>(hW.2.2.2.2 i0 x0 HX0.out j u hu).2) aX rfl an rfl) ⟨HS.out,HV.out,HRF.out⟩ ?_
       go_simp
       refine aG 34 (v:=.bool false) rfl (by kernel_rfl) rfl (fun W _=>cC x0 rfl rfl) ⟨HS.out,HV.out,HRF.out⟩ ?_
       go_simp
       refine aG 35 (v:=.bool false) rfl (by kernel_rfl) rfl (fun W _=>by go_simp) ⟨HS.out,HV.out,HRF.out⟩ ?_
       go_simp
       refine aT 36 (v:=.bool false) rfl (by kernel_rfl) rfl (fun W _=>by go_simp) ⟨HS.out,HV.out,HRF.out⟩ ?_
       go_simp
       refine wpAnyH_done (by kernel_rfl) ?_ _
       simp only [endsIn]
       go_wp2_with fail
       go_roundw
       case rel=>exact ⟨i+1,by omega,by go_num,p',⟨HS.out.bel,HS.out.names,HS.out.ref,HTR.out.1,HTR.out.2⟩⟩
       case measure=>show n - ((i:Int)+1).toNat<n - (i:Int).toNat;omega
     ·by_cases h4:wh=4
      ·subst h4
       obtain ⟨e0,he0⟩:∃z,z=remE p s:=⟨_,rfl⟩
       obtain ⟨p',hp'⟩:∃p',p'=(if e0=0 then delN p (segsB s) else p):=⟨_,rfl⟩
       obtain ⟨L,hL⟩:∃L,L=remL p s e0:=⟨_,rfl⟩
       have HTR:Hid (TrOk p'∧p'.length≤i+1+1):=by
        rw [hp',he0];exact ⟨HS0.out.2.2.2.1.delIf s,Nat.le_trans (delIf_len p s) (by have:=HS0.out.2.2.2.2;omega)⟩
       have hnz:e0=0→0<(delN p (segsB s)).length:=fun h=>by
        have h9:=HTR.out.1.pos
        rw [hp',if_pos h] at h9
        exact h9
       have HLL:Hid (L.length≤90000):=by show L.length≤90000;rw [hL];have:=remL_len p s e0;have:=HS0.out.2.2.2.2;omega
       have hee:(e0 != e0)=false:=by simp
       have HC1:Hid (∀W,NmAt W nb m (i+1) p→Below w.heap.size w W→Calls Tryz.prog 12 #[.pointer (some ⟨nb,0,none⟩),.string s] W fun e w'=>∃v,e=.returned (.tuple #[v,.int .i64 e0])∧StN W.heap.size w' v L∧NmAt w' nb m (i+1+1) p'∧Upd m W w'):=fun W h1 h2=>by
        have h9:=rem_n h1 (by omega) (by have:=HS0.out.2.2.2.2;omega) s HSZ.out (HM.out.below h2) e0 he0
        rw [←hp',←hL] at h9
        refine h9.mono ?_
        rintro e w' ⟨v,h1,h2,h3,h4⟩
        exact ⟨v,h1,h2,h3.mono (by omega),h4⟩
       have HC2:Hid (∀W,RfAt w.heap.size W rb p→w.heap.size≤W.heap.size→Calls Tryz.prog 13 #[.pointer (some ⟨rb,0,none⟩),.string s] W fun e w'=>∃v,e=.returned (.tuple #[v,.int .i64 e0])∧StN W.heap.size w' v L∧RfAt w.heap.size w' rb p'∧Upd rb W w'):=fun W h1 h2=>by
        have h9:=remR_n h1 h2 HS0.out.2.2.2.1.ok (by have:=HS0.out.2.2.2.2;omega) s HSZ.out e0 he0 hnz
        rw [←hp',←hL] at h9
        exact h9
       clear hp' he0 hL hnz
       obtain ⟨V,hV⟩:∃V,V=getV p' s:=⟨_,rfl⟩
       obtain ⟨ok,hok⟩:∃b,b=getB p' s:=⟨_,rfl⟩
       obtain ⟨k,hk⟩:∃k,k=atN p' s:=⟨_,rfl⟩
       have hl9:p'.length≤42:=by have:=HTR.out.2;omega
       have HPL:Hid (p'.length≤42):=hl9
       have HV5:Hid (V.length=5):=by show V.length=5;rw [hV];exact getV5 _ _
       have HV1:Hid (∀v∈V,v.oneCell'=true):=by show ∀v∈V,v.oneCell'=true;rw [hV];exact dZ _ _
       have HGK:Hid ((ok=false∧k = -1)∨(ok=true∧∃(i0:Nat) (x0:Sp),p'[i0]?=some x0∧k=(i0:Int)∧V=spv x0)):=by
        rw [hok,hk,hV];exact cA HTR.out.1.ok s
       have HGT:Hid (∀W,NmAt W nb m (i+1+1) p'→Below w.heap.size w W→Calls Tryz.prog 15 #[.pointer (some ⟨nb,0,none⟩),.string s] W fun e w'=>e=.returned (.tuple #[.agg V.toArray,.bool ok])∧Below W.heap.size W w'):=fun W h1 h2=>by
        have h9:=get_n h1 s HSZ.out (HM.out.below h2)
        rw [←hV,←hok] at h9
        exact h9
       have HAT:Hid (∀W,RfAt w.heap.size W rb p'→Calls Tryz.prog 16 #[.pointer (some ⟨rb,0,none⟩),.string s] W fun e w'=>e=.returned (.int .i64 k)∧Below W.heap.size W w'):=fun W h1=>atR_n h1 (by have:=HPL.out;omega) s k hk
       have HAL:Hid (∀W,NmAt W nb m (i+1+1) p'→Below w.heap.size w W→Calls Tryz.prog 18 #[.pointer (some ⟨nb,0,none⟩)] W fun e w'=>∃v,e=.returned v∧SpN W.heap.size w' v p'∧Below W.heap.size W w'):=fun W h1 h2=>all_n h1 (by omega) (by have:=HPL.out;omega) (HM.out.below h2)
       have HSM:Hid (∀W B va,RfAt w.heap.size W rb p'→SpN B W va p'→Calls Tryz.prog 17 #[.pointer (some ⟨rb,0,none⟩),va] W fun e w'=>e=.returned (.bool true)∧Below W.heap.size W w'):=fun W B va h1 h2=>dG h1 (by have:=HPL.out;omega) HTR.out.1.pos h2
       have HKD:Hid (∀W,NmAt W nb m (i+1+1) p'→Calls Tryz.prog 19 #[.pointer (some ⟨nb,0,none⟩),.string s] W fun e w'=>∃v,e=.returned v∧StN W.heap.size w' v (kidsN p' s)∧Below W.heap.size W w'):=fun W h1=>kids_n h1 (by omega) s
       have HKR:Hid (∀W,RfAt w.heap.size W rb p'→Calls Tryz.prog 20 #[.pointer (some ⟨rb,0,none⟩),.string s] W fun e w'=>∃v,e=.returned v∧StN W.heap.size w' v (kidsN p' s)∧Below W.heap.size W w'):=fun W h1=>dJ h1 HTR.out.1.ok (by have:=HPL.out;omega) s
       have HKL:Hid ((kidsN p' s).length≤90000):=by show (kidsN p' s).length≤90000;have:=da p' s;omega
       clear hV hok hk hl9
       go_wp2_with (first
        | ((with_reducible refine aa (some 38) (.indexAddr 22 (.tmp 36) (.tmp 37)) ?_);go_must (refine ab (.pointer (some ⟨b,o+i * 4,none⟩)) rfl (bV 4 i cy bD rfl rfl rfl hlt) ?_))
        | ((with_reducible refine aa (some 39) (.load 29 (.tmp 38)) ?_);go_must (refine ab (.agg R.toArray) rfl (aC (o+i * 4) 4 R _ rfl HRC.out dC rfl bD HRL.out) ?_))
        | ((with_reducible refine aa (some 10) (.alloc 29) ?_);refine ae _ cS hm ?_;clear hm;intro w3 g10 hm)
        | ((with_reducible refine aa none (.store 29 (.tmp 10) (.tmp 39)) ?_);refine ag 0 R hm rfl rfl rfl 4 bD rfl HRL.out HRO.out ?_;clear hm;intro w4 hm;have HS:Hid (PlS w w4 nb m rb (i+1) g10 p p R):=⟨aw HS0.out.1 HS0.out.1.size hm.below,HS0.out.2.1.below hm.below,HS0.out.2.2.1.below hm.below,hm.get 0 rfl,hwm,hwr,cW ((hm.fresh _ (List.mem_cons_self ..)).resolve_left (by simp)) HS0.out.2.2.1.lt⟩;clear hm)
        | ((with_reducible refine aa (some 41) (.load 9 (.tmp 40)) ?_);go_must (refine ab (.string s) rfl (ad 1 (.string s) HS.out.row rfl ak HR1.out) ?_))
        | ((with_reducible refine aa (some 46) (.load 3 (.tmp 45)) ?_);go_must (refine ab (.int .i64 4) rfl (ad 0 (.int .i64 4) HS.out.row rfl bn HR0.out) ?_))
        | ((with_reducible refine aa (some 67) (.load 3 (.tmp 66)) ?_);go_must (refine ab (.int .i64 4) rfl (ad 0 (.int .i64 4) HS.out.row rfl bn HR0.out) ?_))
        | ((with_reducible refine aa (some 72) (.load 9 (.tmp 71)) ?_);go_must (refine ab (.string s) rfl (ad 1 (.string s) HS.out.row rfl ak HR1.out) ?_))
        | (go_at_call 12;refine (HC1.out _ HS.out.names HS.out.bel).mono ?_;rintro e w5 ⟨v1,he,hst,hn,hu⟩;subst he;have HT1:Hid (StN _ w5 v1 L):=hst;have hrl:=HS.out.ref.lt;replace HS:Hid (PlS w w5 nb m rb (i+1+1) g10 p' p R):=HS.out.updM hn hu;clear hn hu hst)
        | ((with_reducible refine aa (some 79) (.load 9 (.tmp 78)) ?_);go_must (refine ab (.string s) rfl (ad 1 (.string s) HS.out.row rfl ak HR1.out) ?_))
        | (go_at_call 13;refine (HC2.out _ HS.out.ref HS.out.bel.size).mono ?_;rintro e w6 ⟨v2,he,hst,hn,hu⟩;subst he;replace HT1:Hid (StN _ w6 v1 L):=HT1.out.updL hu hrl;have HT2:Hid (StN _ w6 v2 L):=hst;replace HS:Hid (PlS w w6 nb m rb (i+1+1) g10 p' p' R):=HS.out.updR hn hu;clear hn hu hst hrl)
        | (go_at_call 14;refine (dF HT1.out HT2.out HLL.out).mono ?_;rintro e w7 ⟨he,hb⟩;subst he;replace HS:Hid (PlS w w7 nb m rb (i+1+1) g10 p' p' R):=HS.out.below hb;clear hb HT1 HT2)
        | (go_at_call 15;refine (HGT.out _ HS.out.names HS.out.bel).mono ?_;rintro e w5 ⟨he,hb⟩;subst he;replace HS:Hid (PlS w w5 nb m rb (i+1+1) g10 p' p' R):=HS.out.below hb;clear hb)
        | ((with_reducible refine aa (some 15) (.alloc 40) ?_);refine ae _ aU (Mem.start _) ?_;intro w6 g15 hm)
        | ((with_reducible refine aa none (.store 40 (.tmp 15) (.tmp 97)) ?_);refine ag 0 V hm rfl rfl rfl 5 an rfl HV5.out HV1.out ?_;clear hm;intro w7 hm;replace HS:Hid (PlS w w7 nb m rb (i+1+1) g10 p' p' R):=HS.out.below hm.below;have HV:Hid (Row w7 g15 V 40):=hm.get 0 rfl;clear hm)
        | (go_at_call 16;refine (HAT.out _ HS.out.ref).mono ?_;rintro e w8 ⟨he,hb⟩;subst he;replace HS:Hid (PlS w w8 nb m rb (i+1+1) g10 p' p' R):=HS.out.below hb;replace HV:Hid (Row w8 g15 V 40):=Row.bel HV.out hb;obtain ⟨bf,cf,hrf⟩:=HS.out.ref.open;have HRF:Hid (RfB w8 rb p' bf cf):=hrf;clear hb hrf)
        | ((with_reducible refine aa (some 95) (.load 9 (.tmp 94)) ?_);go_must (refine ab (.string s) rfl (ad 1 (.string s) HS.out.row rfl ak HR1.out) ?_))
        | ((with_reducible refine aa (some 101) (.load 9 (.tmp 100)) ?_);go_must (refine ab (.string s) rfl (ad 1 (.string s) HS.out.row rfl ak HR1.out) ?_)))
       refine aj ?_
       refine af (T:=fun W=>PlS w W nb m rb (i+1+1) g10 p' p' R∧Row W g15 V 40∧RfB W rb p' bf cf) (by kernel_rfl) (Mem.start _) ?_
       intro wc hbw _
       replace HS:Hid (PlS w wc nb m rb (i+1+1) g10 p' p' R):=HS.out.below hbw
       replace HV:Hid (Row wc g15 V 40):=Row.bel HV.out hbw
       replace HRF:Hid (RfB wc rb p' bf cf):=HRF.out.below hbw
       clear hbw
       refine aT 0 (v:=.pointer (some ⟨rb,0,none⟩)) rfl (by kernel_rfl) rfl (fun W _=>by go_simp) ⟨HS.out,HV.out,HRF.out⟩ ?_
       go_simp
       refine aT 1 (v:=.pointer (some ⟨nb,0,none⟩)) rfl (by kernel_rfl) rfl (fun W _=>by go_simp) ⟨HS.out,HV.out,HRF.out⟩ ?_
       go_simp
       refine aO 2 (by kernel_rfl) rfl rfl ?_
       intro K hK
       go_wp2_with (go_at_call 18;refine (HAL.out _ HS.out.names HS.out.bel).mono ?_;rintro e w' ⟨va,he,hsp,hb⟩;subst he;replace HS:Hid (PlS w w' nb m rb (i+1+1) g10 p' p' R):=HS.out.below hb;replace HV:Hid (Row w' g15 V 40):=Row.bel HV.out hb;replace HRF:Hid (RfB w' rb p' bf cf):=HRF.out.below hb;have HSP:Hid (SpN _ w' va p'):=hsp;clear hb hsp)
       refine hK _ _ ⟨HS.out,HV.out,HRF.out⟩ ?_
       clear hK K
       go_simp
       refine aO 3 (by kernel_rfl) rfl rfl ?_
       intro K hK
       go_wp2_with (go_at_call 17;refine (HSM.out _ _ _ HS.out.ref HSP.out).mono ?_;rintro e w' ⟨he,hb⟩;subst he;replace HS:Hid (PlS w w' nb m rb (i+1+1) g10 p' p' R):=HS.out.below hb;replace HV:Hid (Row w' g15 V 40):=Row.bel HV.out hb;replace HRF:Hid (RfB w' rb p' bf cf):=HRF.out.below hb;clear hb)
       refine hK _ _ ⟨HS.out,HV.out,HRF.out⟩ ?_
       clear hK K
       go_simp
       refine aT 4 (v:=.bool false) rfl (by kernel_rfl) rfl (fun W _=>by go_simp) ⟨HS.out,HV.out,HRF.out⟩ ?_
       go_simp
       refine aT 5 (v:=.bool false) rfl (by kernel_rfl) rfl (fun W _=>by go_simp) ⟨HS.out,HV.out,HRF.out⟩ ?_
       go_simp
       refine aG 6 (v:=.pointer (some ⟨nb,0,none⟩)) rfl (by kernel_rfl) rfl (fun W _=>by go_simp) ⟨HS.out,HV.out,HRF.out⟩ ?_
       go_simp
       refine aG 7 (v:=.pointer (some ⟨g10,1,none⟩)) rfl (by kernel_rfl) rfl (fun W _=>by go_simp) ⟨HS.out,HV.out,HRF.out⟩ ?_
       go_simp
       refine aG 8 (v:=.string s) rfl (by kernel_rfl) rfl (fun W hW=>ad 1 (.string s) (hW.1.row) rfl ak HR1.out) ⟨HS.out,HV.out,HRF.out⟩ ?_
       go_simp
       refine aG 10 (v:=.pointer (some ⟨rb,0,none⟩)) rfl (by kernel_rfl) rfl (fun W _=>by go_simp) ⟨HS.out,HV.out,HRF.out⟩ ?_
       go_simp
       refine aG 11 (v:=.pointer (some ⟨g10,1,none⟩)) rfl (by kernel_rfl) rfl (fun W _=>by go_simp) ⟨HS.out,HV.out,HRF.out⟩ ?_
       go_simp
       refine aG 12 (v:=.string s) rfl (by kernel_rfl) rfl (fun W hW=>ad 1 (.string s) (hW.1.row) rfl ak HR1.out) ⟨HS.out,HV.out,HRF.out⟩ ?_
       go_simp
       refine aO 9 (by kernel_rfl) rfl rfl ?_
       intro K hK
       go_wp2_with (go_at_call 19;refine (HKD.out _ HS.out.names).mono ?_;rintro e w' ⟨vk,he,hst,hb⟩;subst he;replace HS:Hid (PlS w w' nb m rb (i+1+1) g10 p' p' R):=HS.out.below hb;replace HV:Hid (Row w' g15 V 40):=Row.bel HV.out hb;replace HRF:Hid (RfB w' rb p' bf cf):=HRF.out.below hb;have HK1:Hid (StN _ w' vk (kidsN p' s)):=hst;clear hb hst)
       refine hK _ _ ⟨HS.out,HV.out,HRF.out⟩ ?_
       clear hK K
       go_simp
       refine aO 13 (by kernel_rfl) rfl rfl ?_
       intro K hK
       go_wp2_with (go_at_call 20;refine (HKR.out _ HS.out.ref).mono ?_;rintro e w' ⟨vr,he,hst,hb⟩;subst he;replace HS:Hid (PlS w w' nb m rb (i+1+1) g10 p' p' R):=HS.out.below hb;replace HV:Hid (Row w' g15 V 40):=Row.bel HV.out hb;replace HRF:Hid (RfB w' rb p' bf cf):=HRF.out.below hb;have HK2:Hid (StN _ w' vr (kidsN p' s)):=hst;replace HK1:Hid (StN _ w' vk (kidsN p' s)):=HK1.out.below hb;clear hb hst)
       refine hK _ _ ⟨HS.out,HV.out,HRF.out⟩ ?_
       clear hK K
       go_simp
       refine aO 14 (by kernel_rfl) rfl rfl ?_
       intro K hK
       go_wp2_with (go_at_call 14;refine (dF HK1.out HK2.out HKL.out).mono ?_;rintro e w' ⟨he,hb⟩;subst he;replace HS:Hid (PlS w w' nb m rb (i+1+1) g10 p' p' R):=HS.out.below hb;replace HV:Hid (Row w' g15 V 40):=Row.bel HV.out hb;replace HRF:Hid (RfB w' rb p' bf cf):=HRF.out.below hb;clear hb HK1 HK2)
       refine hK _ _ ⟨HS.out,HV.out,HRF.out⟩ ?_
       clear hK K
       go_simp
       refine aG 15 (v:=.bool false) rfl (by kernel_rfl) rfl (fun W _=>by go_simp) ⟨HS.out,HV.out,HRF.out⟩ ?_
       go_simp
       refine aT 16 (v:=.bool false) rfl (by kernel_rfl) rfl (fun W _=>by go_simp) ⟨HS.out,HV.out,HRF.out⟩ ?_
       go_simp
       refine aT 17 (v:=.bool false) rfl (by kernel_rfl) rfl (fun W _=>by go_simp) ⟨HS.out,HV.out,HRF.out⟩ ?_
       go_simp
       rcases HGK.out with ⟨e1,e2⟩|⟨e1,i0,x0,hx0,e2,e3⟩
       ·clear HGK HGT HAT
        subst e1 e2
        refine aG 18 (v:=.bool false) rfl (by kernel_rfl) rfl (fun W _=>by go_simp) ⟨HS.out,HV.out,HRF.out⟩ ?_
        go_simp
        refine aG 19 (v:=.int .i64 (-1)) rfl (by kernel_rfl) rfl (fun W _=>by go_simp) ⟨HS.out,HV.out,HRF.out⟩ ?_
        go_simp
        refine aG 20 (v:=.bool false) rfl (by kernel_rfl) rfl (fun W _=>by go_simp) ⟨HS.out,HV.out,HRF.out⟩ ?_
        go_simp
        refine aG 21 (v:=.bool false) rfl (by kernel_rfl) rfl (fun W _=>by go_simp) ⟨HS.out,HV.out,HRF.out⟩ ?_
        go_simp
        refine aT 22 (v:=.bool false) rfl (by kernel_rfl) rfl (fun W _=>by go_simp) ⟨HS.out,HV.out,HRF.out⟩ ?_
        go_simp
        refine aT 23 (v:=.bool false) rfl (by kernel_rfl) rfl (fun W _=>by go_simp) ⟨HS.out,HV.out,HRF.out⟩ ?_
        go_simp
        refine aG 24 (v:=.bool false) rfl (by kernel_rfl) rfl (fun W _=>by go_simp) ⟨HS.out,HV.out,HRF.out⟩ ?_
        go_simp
        refine aG 25 (v:=.bool false) rfl (by kernel_rfl) rfl (fun W _=>by go_simp) ⟨HS.out,HV.out,HRF.out⟩ ?_
        go_simp
        refine ah 26 rfl (by kernel_rfl) (by kernel_rfl) (by kernel_rfl) rfl ⟨HS.out,HV.out,HRF.out⟩ ?_
        go_simp
        refine ah 27 rfl (by kernel_rfl) (by kernel_rfl) (by kernel_rfl) rfl ⟨HS.out,HV.out,HRF.out⟩ ?_
        go_simp
        refine ah 28 rfl (by kernel_rfl) (by kernel_rfl) (by kernel_rfl) rfl ⟨HS.out,HV.out,HRF.out⟩ ?_
        go_simp
        refine ah 29 rfl (by kernel_rfl) (by kernel_rfl) (by kernel_rfl) rfl ⟨HS.out,HV.out,HRF.out⟩ ?_
        go_simp
        refine ah 30 rfl (by kernel_rfl) (by kernel_rfl) (by kernel_rfl) rfl ⟨HS.out,HV.out,HRF.out⟩ ?_
        go_simp
        refine ah 31 rfl (by kernel_rfl) (by kernel_rfl) (by kernel_rfl) rfl ⟨HS.out,HV.out,HRF.out⟩ ?_
        go_simp
        refine ah 32 rfl (by kernel_rfl) (by kernel_rfl) (by kernel_rfl) rfl ⟨HS.out,HV.out,HRF.out⟩ ?_
        go_simp
        refine ah 33 rfl (by kernel_rfl) (by kernel_rfl) (by kernel_rfl) rfl ⟨HS.out,HV.out,HRF.out⟩ ?_
        go_simp
        refine ah 34 rfl (by kernel_rfl) (by kernel_rfl) (by kernel_rfl) rfl ⟨HS.out,HV.out,HRF.out⟩ ?_
        go_simp
        refine aG 35 (v:=.bool false) rfl (by kernel_rfl) rfl (fun W _=>by go_simp) ⟨HS.out,HV.out,HRF.out⟩ ?_
        go_simp
        refine aT 36 (v:=.bool false) rfl (by kernel_rfl) rfl (fun W _=>by go_simp) ⟨HS.out,HV.out,HRF.out⟩ ?_
        go_simp
        refine wpAnyH_done (by kernel_rfl) ?_ _
        simp only [endsIn]
        go_wp2_with fail
        go_roundw
        case rel=>exact ⟨i+1,by omega,by go_num,p',⟨HS.out.bel,HS.out.names,HS.out.ref,HTR.out.1,HTR.out.2⟩⟩
        case measure=>show n - ((i:Int)+1).toNat<n - (i:Int).toNat;omega
       ·clear HGK HGT HAT HV5 HV1
        subst e1 e2 e3
        have hi0:(0:Int)≤(i0:Int):=by omega
        have hi0p:i0<p'.length:=(List.getElem?_eq_some_iff.1 hx0).1
        have HX0:Hid (p'[i0]?=some x0):=hx0
        clear hx0
        refine aG 18 (v:=.bool true) rfl (by kernel_rfl) rfl (fun W _=>by go_simp) ⟨HS.out,HV.out,HRF.out⟩ ?_
        go_simp
        refine aG 19 (v:=.int .i64 (i0:Int)) rfl (by kernel_rfl) rfl (fun W _=>by go_simp) ⟨HS.out,HV.out,HRF.out⟩ ?_
        go_simp
        refine aG 20 (v:=.bool true) rfl (by kernel_rfl) rfl (fun W _=>by go_simp) ⟨HS.out,HV.out,HRF.out⟩ ?_
        go_simp
        refine aG 21 (v:=.bool false) rfl (by kernel_rfl) rfl (fun W _=>by go_simp) ⟨HS.out,HV.out,HRF.out⟩ ?_
        go_simp
        refine aT 22 (v:=.bool false) rfl (by kernel_rfl) rfl (fun W _=>by go_simp) ⟨HS.out,HV.out,HRF.out⟩ ?_
        go_simp
        refine aT 23 (v:=.bool false) rfl (by kernel_rfl) rfl (fun W _=>by go_simp) ⟨HS.out,HV.out,HRF.out⟩ ?_
        go_simp
        refine aG 24 (v:=.bool true) rfl (by kernel_rfl) rfl (fun W _=>by go_simp) ⟨HS.out,HV.out,HRF.out⟩ ?_
        go_simp
        refine aG 25 (v:=.bool true) rfl (by kernel_rfl) rfl (fun W _=>by go_simp) ⟨HS.out,HV.out,HRF.out⟩ ?_
        go_simp
        refine aG 26 (v:=.agg (spv x0).toArray) rfl (by kernel_rfl) rfl (fun W hW=>ai 0 (spv x0) hW.2.1 rfl _ aX rfl 5 an (Nat.le_refl 5) rfl) ⟨HS.out,HV.out,HRF.out⟩ ?_
        go_simp
        refine aG 27 (v:=.pointer (some ⟨rb,0,none⟩)) rfl (by kernel_rfl) rfl (fun W _=>by go_simp) ⟨HS.out,HV.out,HRF.out⟩ ?_
        go_simp
        refine aG 28 (v:=.pointer (some ⟨rb,0,none⟩)) rfl (by kernel_rfl) rfl (fun W _=>by go_simp) ⟨HS.out,HV.out,HRF.out⟩ ?_
        go_simp
        refine aG 29 (v:=.pointer (some ⟨rb,0,none⟩)) rfl (by kernel_rfl) rfl (fun W _=>by go_simp) ⟨HS.out,HV.out,HRF.out⟩ ?_
        go_simp
        refine aG 30 (v:=.slice (some ⟨bf,0,none⟩) p'.length cf) rfl (by kernel_rfl) rfl (fun W hW=>ad 0 (.slice (some ⟨bf,0,none⟩) p'.length cf) hW.2.2.1 rfl ay rfl) ⟨HS.out,HV.out,HRF.out⟩ ?_
        go_simp
        refine aG 31 (v:=.int .i64 (i0:Int)) rfl (by kernel_rfl) rfl (fun W _=>by go_simp) ⟨HS.out,HV.out,HRF.out⟩ ?_
        go_simp
        refine aG 32 (v:=.pointer (some ⟨bf,i0 * 5,none⟩)) rfl (by kernel_rfl) rfl (fun W _=>aD 5 i0 aH an rfl rfl rfl hi0p) ⟨HS.out,HV.out,HRF.out⟩ ?_
        go_simp
        refine aG 33 (v:=.agg (spv x0).toArray) rfl (by kernel_rfl) rfl (fun W hW=>aC (i0 * 5) 5 (spv x0) _ rfl (fun j u hu=>(hW.2.2.2.2 i0 x0 HX0.out j u hu).2) aX rfl an rfl) ⟨HS.out,HV.out,HRF.out⟩ ?_
        go_simp
        refine aG 34 (v:=.bool false) rfl (by kernel_rfl) rfl (fun W _=>cC x0 rfl rfl) ⟨HS.out,HV.out,HRF.out⟩ ?_
        go_simp
        refine aG 35 (v:=.bool false) rfl (by kernel_rfl) rfl (fun W _=>by go_simp) ⟨HS.out,HV.out,HRF.out⟩ ?_
        go_simp
        refine aT 36 (v:=.bool false) rfl (by kernel_rfl) rfl (fun W _=>by go_simp) ⟨HS.out,HV.out,HRF.out⟩ ?_
        go_simp
        refine wpAnyH_done (by kernel_rfl) ?_ _
        simp only [endsIn]
        go_wp2_with fail
        go_roundw
        case rel=>exact ⟨i+1,by omega,by go_num,p',⟨HS.out.bel,HS.out.names,HS.out.ref,HTR.out.1,HTR.out.2⟩⟩
        case measure=>show n - ((i:Int)+1).toNat<n - (i:Int).toNat;omega
      ·have h4b:(wh==4)=false:=by rw [beq_eq_false_iff_ne];exact h4
       obtain ⟨p',hp'⟩:∃p',p'=p:=⟨_,rfl⟩
       subst hp'
       replace HS0:Hid (Below w.heap.size w wr∧NmAt wr nb m (i+1+1) (p')∧RfAt w.heap.size wr rb (p')∧TrOk (p')∧(p').length≤i+1+1):=⟨HS0.out.1,HS0.out.2.1.mono (by omega),HS0.out.2.2.1,HS0.out.2.2.2.1,by have:=HS0.out.2.2.2.2;omega⟩
       have HTR:Hid (TrOk p'∧p'.length≤i+1+1):=⟨HS0.out.2.2.2.1,HS0.out.2.2.2.2⟩
       clear h4
       obtain ⟨V,hV⟩:∃V,V=getV p' s:=⟨_,rfl⟩
       obtain ⟨ok,hok⟩:∃b,b=getB p' s:=⟨_,rfl⟩
       obtain ⟨k,hk⟩:∃k,k=atN p' s:=⟨_,rfl⟩
       have hl9:p'.length≤42:=by have:=HTR.out.2;omega
       have HPL:Hid (p'.length≤42):=hl9
       have HV5:Hid (V.length=5):=by show V.length=5;rw [hV];exact getV5 _ _
       have HV1:Hid (∀v∈V,v.oneCell'=true):=by show ∀v∈V,v.oneCell'=true;rw [hV];exact dZ _ _
       have HGK:Hid ((ok=false∧k = -1)∨(ok=true∧∃(i0:Nat) (x0:Sp),p'[i0]?=some x0∧k=(i0:Int)∧V=spv x0)):=by
        rw [hok,hk,hV];exact cA HTR.out.1.ok s
       have HGT:Hid (∀W,NmAt W nb m (i+1+1) p'→Below w.heap.size w W→Calls Tryz.prog 15 #[.pointer (some ⟨nb,0,none⟩),.string s] W fun e w'=>e=.returned (.tuple #[.agg V.toArray,.bool ok])∧Below W.heap.size W w'):=fun W h1 h2=>by
        have h9:=get_n h1 s HSZ.out (HM.out.below h2)
        rw [←hV,←hok] at h9
        exact h9
       have HAT:Hid (∀W,RfAt w.heap.size W rb p'→Calls Tryz.prog 16 #[.pointer (some ⟨rb,0,none⟩),.string s] W fun e w'=>e=.returned (.int .i64 k)∧Below W.heap.size W w'):=fun W h1=>atR_n h1 (by have:=HPL.out;omega) s k hk
       have HAL:Hid (∀W,NmAt W nb m (i+1+1) p'→Below w.heap.size w W→Calls Tryz.prog 18 #[.pointer (some ⟨nb,0,none⟩)] W fun e w'=>∃v,e=.returned v∧SpN W.heap.size w' v p'∧Below W.heap.size W w'):=fun W h1 h2=>all_n h1 (by omega) (by have:=HPL.out;omega) (HM.out.below h2)
       have HSM:Hid (∀W B va,RfAt w.heap.size W rb p'→SpN B W va p'→Calls Tryz.prog 17 #[.pointer (some ⟨rb,0,none⟩),va] W fun e w'=>e=.returned (.bool true)∧Below W.heap.size W w'):=fun W B va h1 h2=>dG h1 (by have:=HPL.out;omega) HTR.out.1.pos h2
       have HKD:Hid (∀W,NmAt W nb m (i+1+1) p'→Calls Tryz.prog 19 #[.pointer (some ⟨nb,0,none⟩),.string s] W fun e w'=>∃v,e=.returned v∧StN W.heap.size w' v (kidsN p' s)∧Below W.heap.size W w'):=fun W h1=>kids_n h1 (by omega) s
       have HKR:Hid (∀W,RfAt w.heap.size W rb p'→Calls Tryz.prog 20 #[.pointer (some ⟨rb,0,none⟩),.string s] W fun e w'=>∃v,e=.returned v∧StN W.heap.size w' v (kidsN p' s)∧Below W.heap.size W w'):=fun W h1=>dJ h1 HTR.out.1.ok (by have:=HPL.out;omega) s
       have HKL:Hid ((kidsN p' s).length≤90000):=by show (kidsN p' s).length≤90000;have:=da p' s;omega
       clear hV hok hk hl9
       go_wp2_with (first
        | ((with_reducible refine aa (some 38) (.indexAddr 22 (.tmp 36) (.tmp 37)) ?_);go_must (refine ab (.pointer (some ⟨b,o+i * 4,none⟩)) rfl (bV 4 i cy bD rfl rfl rfl hlt) ?_))
        | ((with_reducible refine aa (some 39) (.load 29 (.tmp 38)) ?_);go_must (refine ab (.agg R.toArray) rfl (aC (o+i * 4) 4 R _ rfl HRC.out dC rfl bD HRL.out) ?_))
        | ((with_reducible refine aa (some 10) (.alloc 29) ?_);refine ae _ cS hm ?_;clear hm;intro w3 g10 hm)
        | ((with_reducible refine aa none (.store 29 (.tmp 10) (.tmp 39)) ?_);refine ag 0 R hm rfl rfl rfl 4 bD rfl HRL.out HRO.out ?_;clear hm;intro w4 hm;have HS:Hid (PlS w w4 nb m rb (i+1+1) g10 p' p' R):=⟨aw HS0.out.1 HS0.out.1.size hm.below,HS0.out.2.1.below hm.below,HS0.out.2.2.1.below hm.below,hm.get 0 rfl,hwm,hwr,cW ((hm.fresh _ (List.mem_cons_self ..)).resolve_left (by simp)) HS0.out.2.2.1.lt⟩;clear hm)
        | ((with_reducible refine aa (some 41) (.load 9 (.tmp 40)) ?_);go_must (refine ab (.string s) rfl (ad 1 (.string s) HS.out.row rfl ak HR1.out) ?_))
        | ((with_reducible refine aa (some 46) (.load 3 (.tmp 45)) ?_);go_must (refine ab (.int .i64 wh) rfl (ad 0 (.int .i64 wh) HS.out.row rfl bn HR0.out) ?_))
        | ((with_reducible refine aa (some 67) (.load 3 (.tmp 66)) ?_);go_must (refine ab (.int .i64 wh) rfl (ad 0 (.int .i64 wh) HS.out.row rfl bn HR0.out) ?_))
        | (go_at_call 15;refine (HGT.out _ HS.out.names HS.out.bel).mono ?_;rintro e w5 ⟨he,hb⟩;subst he;replace HS:Hid (PlS w w5 nb m rb (i+1+1) g10 p' p' R):=HS.out.below hb;clear hb)
        | ((with_reducible refine aa (some 15) (.alloc 40) ?_);refine ae _ aU (Mem.start _) ?_;intro w6 g15 hm)
        | ((with_reducible refine aa none (.store 40 (.tmp 15) (.tmp 97)) ?_);refine ag 0 V hm rfl rfl rfl 5 an rfl HV5.out HV1.out ?_;clear hm;intro w7 hm;replace HS:Hid (PlS w w7 nb m rb (i+1+1) g10 p' p' R):=HS.out.below hm.below;have HV:Hid (Row w7 g15 V 40):=hm.get 0 rfl;clear hm)
        | (go_at_call 16;refine (HAT.out _ HS.out.ref).mono ?_;rintro e w8 ⟨he,hb⟩;subst he;replace HS:Hid (PlS w w8 nb m rb (i+1+1) g10 p' p' R):=HS.out.below hb;replace HV:Hid (Row w8 g15 V 40):=Row.bel HV.out hb;obtain ⟨bf,cf,hrf⟩:=HS.out.ref.open;have HRF:Hid (RfB w8 rb p' bf cf):=hrf;clear hb hrf)
        | ((with_reducible refine aa (some 95) (.load 9 (.tmp 94)) ?_);go_must (refine ab (.string s) rfl (ad 1 (.string s) HS.out.row rfl ak HR1.out) ?_))
        | ((with_reducible refine aa (some 101) (.load 9 (.tmp 100)) ?_);go_must (refine ab (.string s) rfl (ad 1 (.string s) HS.out.row rfl ak HR1.out) ?_)))
       refine aj ?_
       refine af (T:=fun W=>PlS w W nb m rb (i+1+1) g10 p' p' R∧Row W g15 V 40∧RfB W rb p' bf cf) (by kernel_rfl) (Mem.start _) ?_
       intro wc hbw _
       replace HS:Hid (PlS w wc nb m rb (i+1+1) g10 p' p' R):=HS.out.below hbw
       replace HV:Hid (Row wc g15 V 40):=Row.bel HV.out hbw
       replace HRF:Hid (RfB wc rb p' bf cf):=HRF.out.below hbw
       clear hbw
       refine aT 0 (v:=.pointer (some ⟨rb,0,none⟩)) rfl (by kernel_rfl) rfl (fun W _=>by go_simp) ⟨HS.out,HV.out,HRF.out⟩ ?_
       go_simp
       refine aT 1 (v:=.pointer (some ⟨nb,0,none⟩)) rfl (by kernel_rfl) rfl (fun W _=>by go_simp) ⟨HS.out,HV.out,HRF.out⟩ ?_
       go_simp
       refine aO 2 (by kernel_rfl) rfl rfl ?_
       intro K hK
       go_wp2_with (go_at_call 18;refine (HAL.out _ HS.out.names HS.out.bel).mono ?_;rintro e w' ⟨va,he,hsp,hb⟩;subst he;replace HS:Hid (PlS w w' nb m rb (i+1+1) g10 p' p' R):=HS.out.below hb;replace HV:Hid (Row w' g15 V 40):=Row.bel HV.out hb;replace HRF:Hid (RfB w' rb p' bf cf):=HRF.out.below hb;have HSP:Hid (SpN _ w' va p'):=hsp;clear hb hsp)
       refine hK _ _ ⟨HS.out,HV.out,HRF.out⟩ ?_
       clear hK K
       go_simp
       refine aO 3 (by kernel_rfl) rfl rfl ?_
       intro K hK
       go_wp2_with (go_at_call 17;refine (HSM.out _ _ _ HS.out.ref HSP.out).mono ?_;rintro e w' ⟨he,hb⟩;subst he;replace HS:Hid (PlS w w' nb m rb (i+1+1) g10 p' p' R):=HS.out.below hb;replace HV:Hid (Row w' g15 V 40):=Row.bel HV.out hb;replace HRF:Hid (RfB w' rb p' bf cf):=HRF.out.below hb;clear hb)
       refine hK _ _ ⟨HS.out,HV.out,HRF.out⟩ ?_
       clear hK K
       go_simp
       refine aT 4 (v:=.bool false) rfl (by kernel_rfl) rfl (fun W _=>by go_simp) ⟨HS.out,HV.out,HRF.out⟩ ?_
       go_simp
       refine aT 5 (v:=.bool false) rfl (by kernel_rfl) rfl (fun W _=>by go_simp) ⟨HS.out,HV.out,HRF.out⟩ ?_
       go_simp
       refine aG 6 (v:=.pointer (some ⟨nb,0,none⟩)) rfl (by kernel_rfl) rfl (fun W _=>by go_simp) ⟨HS.out,HV.out,HRF.out⟩ ?_
       go_simp
       refine aG 7 (v:=.pointer (some ⟨g10,1,none⟩)) rfl (by kernel_rfl) rfl (fun W _=>by go_simp) ⟨HS.out,HV.out,HRF.out⟩ ?_
       go_simp
       refine aG 8 (v:=.string s) rfl (by kernel_rfl) rfl (fun W hW=>ad 1 (.string s) (hW.1.row) rfl ak HR1.out) ⟨HS.out,HV.out,HRF.out⟩ ?_
       go_simp
       refine aG 10 (v:=.pointer (some ⟨rb,0,none⟩)) rfl (by kernel_rfl) rfl (fun W _=>by go_simp) ⟨HS.out,HV.out,HRF.out⟩ ?_
       go_simp
       refine aG 11 (v:=.pointer (some ⟨g10,1,none⟩)) rfl (by kernel_rfl) rfl (fun W _=>by go_simp) ⟨HS.out,HV.out,HRF.out⟩ ?_
       go_simp
       refine aG 12 (v:=.string s) rfl (by kernel_rfl) rfl (fun W hW=>ad 1 (.string s) (hW.1.row) rfl ak HR1.out) ⟨HS.out,HV.out,HRF.out⟩ ?_
       go_simp
       refine aO 9 (by kernel_rfl) rfl rfl ?_
       intro K hK
       go_wp2_with (go_at_call 19;refine (HKD.out _ HS.out.names).mono ?_;rintro e w' ⟨vk,he,hst,hb⟩;subst he;replace HS:Hid (PlS w w' nb m rb (i+1+1) g10 p' p' R):=HS.out.below hb;replace HV:Hid (Row w' g15 V 40):=Row.bel HV.out hb;replace HRF:Hid (RfB w' rb p' bf cf):=HRF.out.below hb;have HK1:Hid (StN _ w' vk (kidsN p' s)):=hst;clear hb hst)
       refine hK _ _ ⟨HS.out,HV.out,HRF.out⟩ ?_
       clear hK K
       go_simp
       refine aO 13 (by kernel_rfl) rfl rfl ?_
       intro K hK
       go_wp2_with (go_at_call 20;refine (HKR.out _ HS.out.ref).mono ?_;rintro e w' ⟨vr,he,hst,hb⟩;subst he;replace HS:Hid (PlS w w' nb m rb (i+1+1) g10 p' p' R):=HS.out.below hb;replace HV:Hid (Row w' g15 V 40):=Row.bel HV.out hb;replace HRF:Hid (RfB w' rb p' bf cf):=HRF.out.below hb;have HK2:Hid (StN _ w' vr (kidsN p' s)):=hst;replace HK1:Hid (StN _ w' vk (kidsN p' s)):=HK1.out.below hb;clear hb hst)
       refine hK _ _ ⟨HS.out,HV.out,HRF.out⟩ ?_
       clear hK K
       go_simp
       refine aO 14 (by kernel_rfl) rfl rfl ?_
       intro K hK
       go_wp2_with (go_at_call 14;refine (dF HK1.out HK2.out HKL.out).mono ?_;rintro e w' ⟨he,hb⟩;subst he;replace HS:Hid (PlS w w' nb m rb (i+1+1) g10 p' p' R):=HS.out.below hb;replace HV:Hid (Row w' g15 V 40):=Row.bel HV.out hb;replace HRF:Hid (RfB w' rb p' bf cf):=HRF.out.below hb;clear hb HK1 HK2)
       refine hK _ _ ⟨HS.out,HV.out,HRF.out⟩ ?_
       clear hK K
       go_simp
       refine aG 15 (v:=.bool false) rfl (by kernel_rfl) rfl (fun W _=>by go_simp) ⟨HS.out,HV.out,HRF.out⟩ ?_
       go_simp
       refine aT 16 (v:=.bool false) rfl (by kernel_rfl) rfl (fun W _=>by go_simp) ⟨HS.out,HV.out,HRF.out⟩ ?_
       go_simp
       refine aT 17 (v:=.bool false) rfl (by kernel_rfl) rfl (fun W _=>by go_simp) ⟨HS.out,HV.out,HRF.out⟩ ?_
       go_simp
       rcases HGK.out with ⟨e1,e2⟩|⟨e1,i0,x0,hx0,e2,e3⟩
       ·clear HGK HGT HAT
        subst e1 e2
        refine aG 18 (v:=.bool false) rfl (by kernel_rfl) rfl (fun W _=>by go_simp) ⟨HS.out,HV.out,HRF.out⟩ ?_
        go_simp
        refine aG 19 (v:=.int .i64 (-1)) rfl (by kernel_rfl) rfl (fun W _=>by go_simp) ⟨HS.out,HV.out,HRF.out⟩ ?_
        go_simp
        refine aG 20 (v:=.bool false) rfl (by kernel_rfl) rfl (fun W _=>by go_simp) ⟨HS.out,HV.out,HRF.out⟩ ?_
        go_simp
        refine aG 21 (v:=.bool false) rfl (by kernel_rfl) rfl (fun W _=>by go_simp) ⟨HS.out,HV.out,HRF.out⟩ ?_
        go_simp
        refine aT 22 (v:=.bool false) rfl (by kernel_rfl) rfl (fun W _=>by go_simp) ⟨HS.out,HV.out,HRF.out⟩ ?_
        go_simp
        refine aT 23 (v:=.bool false) rfl (by kernel_rfl) rfl (fun W _=>by go_simp) ⟨HS.out,HV.out,HRF.out⟩ ?_
        go_simp
        refine aG 24 (v:=.bool false) rfl (by kernel_rfl) rfl (fun W _=>by go_simp) ⟨HS.out,HV.out,HRF.out⟩ ?_
        go_simp
        refine aG 25 (v:=.bool false) rfl (by kernel_rfl) rfl (fun W _=>by go_simp) ⟨HS.out,HV.out,HRF.out⟩ ?_
        go_simp
        refine ah 26 rfl (by kernel_rfl) (by kernel_rfl) (by kernel_rfl) rfl ⟨HS.out,HV.out,HRF.out⟩ ?_
        go_simp
        refine ah 27 rfl (by kernel_rfl) (by kernel_rfl) (by kernel_rfl) rfl ⟨HS.out,HV.out,HRF.out⟩ ?_
        go_simp
        refine ah 28 rfl (by kernel_rfl) (by kernel_rfl) (by kernel_rfl) rfl ⟨HS.out,HV.out,HRF.out⟩ ?_
        go_simp
        refine ah 29 rfl (by kernel_rfl) (by kernel_rfl) (by kernel_rfl) rfl ⟨HS.out,HV.out,HRF.out⟩ ?_
        go_simp
        refine ah 30 rfl (by kernel_rfl) (by kernel_rfl) (by kernel_rfl) rfl ⟨HS.out,HV.out,HRF.out⟩ ?_
        go_simp
        refine ah 31 rfl (by kernel_rfl) (by kernel_rfl) (by kernel_rfl) rfl ⟨HS.out,HV.out,HRF.out⟩ ?_
        go_simp
        refine ah 32 rfl (by kernel_rfl) (by kernel_rfl) (by kernel_rfl) rfl ⟨HS.out,HV.out,HRF.out⟩ ?_
        go_simp
        refine ah 33 rfl (by kernel_rfl) (by kernel_rfl) (by kernel_rfl) rfl ⟨HS.out,HV.out,HRF.out⟩ ?_
        go_simp
        refine ah 34 rfl (by kernel_rfl) (by kernel_rfl) (by kernel_rfl) rfl ⟨HS.out,HV.out,HRF.out⟩ ?_
        go_simp
        refine aG 35 (v:=.bool false) rfl (by kernel_rfl) rfl (fun W _=>by go_simp) ⟨HS.out,HV.out,HRF.out⟩ ?_
        go_simp
        refine aT 36 (v:=.bool false) rfl (by kernel_rfl) rfl (fun W _=>by go_simp) ⟨HS.out,HV.out,HRF.out⟩ ?_
        go_simp
        refine wpAnyH_done (by kernel_rfl) ?_ _
        simp only [endsIn]
        go_wp2_with fail
        go_roundw
        case rel=>exact ⟨i+1,by omega,by go_num,p',⟨HS.out.bel,HS.out.names,HS.out.ref,HTR.out.1,HTR.out.2⟩⟩
        case measure=>show n - ((i:Int)+1).toNat<n - (i:Int).toNat;omega
       ·clear HGK HGT HAT HV5 HV1
        subst e1 e2 e3
        have hi0:(0:Int)≤(i0:Int):=by omega
        have hi0p:i0<p'.length:=(List.getElem?_eq_some_iff.1 hx0).1
        have HX0:Hid (p'[i0]?=some x0):=hx0
        clear hx0
        refine aG 18 (v:=.bool true) rfl (by kernel_rfl) rfl (fun W _=>by go_simp) ⟨HS.out,HV.out,HRF.out⟩ ?_
        go_simp
        refine aG 19 (v:=.int .i64 (i0:Int)) rfl (by kernel_rfl) rfl (fun W _=>by go_simp) ⟨HS.out,HV.out,HRF.out⟩ ?_
        go_simp
        refine aG 20 (v:=.bool true) rfl (by kernel_rfl) rfl (fun W _=>by go_simp) ⟨HS.out,HV.out,HRF.out⟩ ?_
        go_simp
        refine aG 21 (v:=.bool false) rfl (by kernel_rfl) rfl (fun W _=>by go_simp) ⟨HS.out,HV.out,HRF.out⟩ ?_
        go_simp
        refine aT 22 (v:=.bool false) rfl (by kernel_rfl) rfl (fun W _=>by go_simp) ⟨HS.out,HV.out,HRF.out⟩ ?_
        go_simp
        refine aT 23 (v:=.bool false) rfl (by kernel_rfl) rfl (fun W _=>by go_simp) ⟨HS.out,HV.out,HRF.out⟩ ?_
        go_simp
        refine aG 24 (v:=.bool true) rfl (by kernel_rfl) rfl (fun W _=>by go_simp) ⟨HS.out,HV.out,HRF.out⟩ ?_
        go_simp
        refine aG 25 (v:=.bool true) rfl (by kernel_rfl) rfl (fun W _=>by go_simp) ⟨HS.out,HV.out,HRF.out⟩ ?_
        go_simp
        refine aG 26 (v:=.agg (spv x0).toArray) rfl (by kernel_rfl) rfl (fun W hW=>ai 0 (spv x0) hW.2.1 rfl _ aX rfl 5 an (Nat.le_refl 5) rfl) ⟨HS.out,HV.out,HRF.out⟩ ?_
        go_simp
        refine aG 27 (v:=.pointer (some ⟨rb,0,none⟩)) rfl (by kernel_rfl) rfl (fun W _=>by go_simp) ⟨HS.out,HV.out,HRF.out⟩ ?_
        go_simp
        refine aG 28 (v:=.pointer (some ⟨rb,0,none⟩)) rfl (by kernel_rfl) rfl (fun W _=>by go_simp) ⟨HS.out,HV.out,HRF.out⟩ ?_
        go_simp
        refine aG 29 (v:=.pointer (some ⟨rb,0,none⟩)) rfl (by kernel_rfl) rfl (fun W _=>by go_simp) ⟨HS.out,HV.out,HRF.out⟩ ?_
        go_simp
        refine aG 30 (v:=.slice (some ⟨bf,0,none⟩) p'.length cf) rfl (by kernel_rfl) rfl (fun W hW=>ad 0 (.slice (some ⟨bf,0,none⟩) p'.length cf) hW.2.2.1 rfl ay rfl) ⟨HS.out,HV.out,HRF.out⟩ ?_
        go_simp
        refine aG 31 (v:=.int .i64 (i0:Int)) rfl (by kernel_rfl) rfl (fun W _=>by go_simp) ⟨HS.out,HV.out,HRF.out⟩ ?_
        go_simp
        refine aG 32 (v:=.pointer (some ⟨bf,i0 * 5,none⟩)) rfl (by kernel_rfl) rfl (fun W _=>aD 5 i0 aH an rfl rfl rfl hi0p) ⟨HS.out,HV.out,HRF.out⟩ ?_
        go_simp
        refine aG 33 (v:=.agg (spv x0).toArray) rfl (by kernel_rfl) rfl (fun W hW=>aC (i0 * 5) 5 (spv x0) _ rfl (fun j u hu=>(hW.2.2.2.2 i0 x0 HX0.out j u hu).2) aX rfl an rfl) ⟨HS.out,HV.out,HRF.out⟩ ?_
        go_simp
        refine aG 34 (v:=.bool false) rfl (by kernel_rfl) rfl (fun W _=>cC x0 rfl rfl) ⟨HS.out,HV.out,HRF.out⟩ ?_
        go_simp
        refine aG 35 (v:=.bool false) rfl (by kernel_rfl) rfl (fun W _=>by go_simp) ⟨HS.out,HV.out,HRF.out⟩ ?_
        go_simp
        refine aT 36 (v:=.bool false) rfl (by kernel_rfl) rfl (fun W _=>by go_simp) ⟨HS.out,HV.out,HRF.out⟩ ?_
        go_simp
        refine wpAnyH_done (by kernel_rfl) ?_ _
        simp only [endsIn]
        go_wp2_with fail
        go_roundw
        case rel=>exact ⟨i+1,by omega,by go_num,p',⟨HS.out.bel,HS.out.names,HS.out.ref,HTR.out.1,HTR.out.2⟩⟩
        case measure=>show n - ((i:Int)+1).toNat<n - (i:Int).toNat;omega
   ·have hin:i=n:=by omega
    have hki:¬(i:Int)<(n:Int):=by omega
    have hi41:i+1≤41:=by omega
    clear hin
    go_wp2_with (first
     | (go_at_call 21;refine (copy_n HS0.out.2.1).mono ?_;rintro e w3 ⟨nb2,m2,he,hn1,hm1,hn,hb⟩;subst he;have HC:Hid (ClS w w3 nb m rb (i+1) p nb2 m2 (i+1) p):=ClS.start HS0.out.1 HS0.out.2.1 HS0.out.2.2.1 hm1 hn hb;clear hn hb hm1 hn1)
     | (go_at_call 10;refine (add_x HC.out.cop (by omega) ⟨#[122,122]⟩ (by decide) (HM.out.below HC.out.bel) 1 1).mono ?_;rintro e w4 ⟨z4,q4,he,hn,hl4,hu⟩;subst he;replace HC:Hid (ClS w w4 nb m rb (i+1) p nb2 m2 (i+1+1) q4):=HC.out.upd hn hu;clear hn hu)
     | (go_at_call 12;refine (rem_x HC.out.cop (by omega) (by have:=HS0.out.2.2.2.2;omega) ⟨#[97]⟩ (by decide) (HM.out.below HC.out.bel)).mono ?_;rintro e w5 ⟨v5,z5,q5,he,hn,hu⟩;subst he;replace HC:Hid (ClS w w5 nb m rb (i+1) p nb2 m2 (i+1+1) q5):=HC.out.upd hn hu;clear hn hu hl4)
     | (go_at_call 18;refine (all_n HC.out.names (by omega) (by have:=HS0.out.2.2.2.2;omega) (HM.out.below HC.out.bel)).mono ?_;rintro e w6 ⟨va,he,hsp,hb⟩;subst he;replace HC:Hid (ClS w w6 nb m rb (i+1) p nb2 m2 (i+1+1) q5):=HC.out.below hb;have HSP:Hid (SpN _ w6 va p):=hsp;clear hb hsp)
     | (go_at_call 17;refine (dG HC.out.ref (by have:=HS0.out.2.2.2.2;omega) HS0.out.2.2.2.1.pos HSP.out).mono ?_;rintro e w7 ⟨he,hb⟩;subst he;replace HC:Hid (ClS w w7 nb m rb (i+1) p nb2 m2 (i+1+1) q5):=HC.out.below hb;clear hb))
    go_ret
    exact ⟨rfl,HC.out.bel⟩
end Go.Proofs.YtabncjcfpkhhnaaGreatDoor
