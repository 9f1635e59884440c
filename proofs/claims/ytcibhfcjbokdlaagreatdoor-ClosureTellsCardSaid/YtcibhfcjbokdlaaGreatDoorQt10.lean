import Derived.Deep.LoopGhost
import Derived.Test.YtcibhfcjbokdlaaGreatDoorQt09
import Derived.Test.YtcibhfcjbokdlaaGreatDoorQt07
set_option maxRecDepth 100000
set_option maxHeartbeats 4000000
namespace Go.Proofs.YtcibhfcjbokdlaaGreatDoor
open Go Go.RowKit Go.Maps
theorem shc_one (k n c a b:Int):∀v∈shc k n c a b,v.oneCell'=true:=by
 intro v hv
 simp only [shc,List.mem_cons,List.not_mem_nil,or_false] at hv
 rcases hv with rfl|rfl|rfl|rfl|rfl<;>rfl
theorem WebN.look {b0:Nat} {w:World} {g m:Nat} {T TS:List Tm} {AL:List (Value×List Nat)} {vs va:Value} (h:WebN b0 w g m T TS AL vs va) (hT:Web T) (hl:T.length≤10000) {t:Tm} (ht:∀x∈t.l,x∈T) (ho:okT t=true) (hi:t∈T) :
  (Instr.lookup 58 (.map (some m)) (.agg (shT T t).toArray) true).run Tryz.prog w=.ok (.tuple #[.int .i64 (idxT T t:Int),.bool true]) w:=by
 obtain ⟨q,_,hk⟩:=h.map
 obtain ⟨kl,hkl⟩:=shT_key hT hl ht ho
 exact hk.look sh_law un_wnum ((zero_of_info bV).1 _) hkl ⟨_,t,a7 hT.ok hi,rfl,rfl⟩
theorem WebN.lookNo {b0:Nat} {w:World} {g m:Nat} {T TS:List Tm} {AL:List (Value×List Nat)} {vs va:Value} (h:WebN b0 w g m T TS AL vs va) (hT:Web T) (hl:T.length≤10000) {t:Tm} (ht:∀x∈t.l,x∈T) (ho:okT t=true) (hi:t ∉ T) :
  (Instr.lookup 58 (.map (some m)) (.agg (shT T t).toArray) true).run Tryz.prog w=.ok (.tuple #[.int .i64 0,.bool false]) w:=by
 obtain ⟨q,_,hk⟩:=h.map
 obtain ⟨kl,hkl⟩:=shT_key hT hl ht ho
 refine hk.lookNo sh_law un_wnum ((zero_of_info bV).1 _) hkl fun v hv=>?_
 obtain ⟨i,u,h1,h2,_⟩:=hv
 have hu:=List.mem_of_getElem? h1
 have h3:shT T t=shT T u:=by simpa using h2
 have h4:=shT_inj hT ht (hT.kids u hu) (by rw [ok_len ho];unfold kn;split<;>(try split)<;>omega) h3
 exact hi (h4▸hu)
theorem shT_kid {T:List Tm} {t x:Tm} {j:Nat} (hj:j<2) (hx:t.l[j]?=some x):(shT T t)[3+j]?=some (.int .i64 (idxT T x:Int)):=by
 match j,hj with
 | 0,_=>show some (Value.int .i64 (kidQ T t 0))=_;unfold kidQ;rw [hx]
 | 1,_=>show some (Value.int .i64 (kidQ T t 1))=_;unfold kidQ;rw [hx]
theorem bN {w:World} {base n K:Nat} {e:TypeId} {v:Value} {cs:List Value} (h:w.ownsRow base e K v n cs):∃p c,v=.slice p n c:=by
 obtain ⟨_,h2⟩:=h
 rcases h2 with ⟨rfl,h3⟩|⟨b,cap,cur,rfl,_⟩
 ·exact ⟨none,0,by rw [h3]⟩
 ·exact ⟨_,cap,rfl⟩
theorem cL {w:World} {base n K:Nat} {e:TypeId} {v:Value} {cs:List Value} (h:w.ownsRow base e K v (n+1) cs):∃b c,v=.slice (some ⟨b,0,none⟩) (n+1) c:=by
 obtain ⟨_,h2⟩:=h
 rcases h2 with ⟨rfl,h3⟩|⟨b,cap,cur,rfl,_⟩
 ·omega
 ·exact ⟨b,cap,rfl⟩
/-- The rows around, where another slice of the web has grown. -/
theorem WebN.oaG {b0:Nat} {w wb wc:World} {g m i:Nat} {TM TS:List Tm} {AL:List (Value×List Nat)} {vs va v:Value} {l:List Nat} (h:WebN b0 w g m TM TS AL vs va) (hi:AL[i]?=some (v,l)) (hb:Below w.heap.size w wb) (hg:wb.grownBy wc v.ownBlock):wc.ownsRow b0 41 1 va AL.length (AL.map Prod.fst):=by
 have h1:=h.below hb
 exact aF h1.oa fun b hb'=>hg.block b (av h1.oa hb').2 (fun he=>h.ds.ai i v l hi b hb' he.symm)
theorem WebN.rowG {b0:Nat} {w wb wc:World} {g m i:Nat} {TM TS:List Tm} {AL:List (Value×List Nat)} {vs va v:Value} {l:List Nat} (h:WebN b0 w g m TM TS AL vs va) (hi:AL[i]?=some (v,l)) (hb:Below w.heap.size w wb) (hg:wb.grownBy wc v.ownBlock):Row wc g [.map (some m),vs,va] 62:=bu (h.below hb).row (fun he=>h.ds.gi i v l hi he.symm) hg
theorem WebN.rowS {b0:Nat} {w wb wc:World} {g m:Nat} {TM TS:List Tm} {AL:List (Value×List Nat)} {vs va:Value} (h:WebN b0 w g m TM TS AL vs va) (hb:Below w.heap.size w wb) (hg:wb.grownBy wc vs.ownBlock):Row wc g [.map (some m),vs,va] 62:=bu (h.below hb).row (fun he=>h.ds.gs he.symm) hg
theorem WebN.rowA {b0:Nat} {w wb wc:World} {g m:Nat} {TM TS:List Tm} {AL:List (Value×List Nat)} {vs va:Value} (h:WebN b0 w g m TM TS AL vs va) (hb:Below w.heap.size w wb) (hg:wb.grownBy wc va.ownBlock):Row wc g [.map (some m),vs,va] 62:=bu (h.below hb).row (fun he=>h.ds.ga he.symm) hg
theorem add_any (t:Tm):∀(b0:Nat) (w:World) (g m:Nat) (T:List Tm) (AL:List (Value×List Nat)) (vs va s:Value),WebN b0 w g m T T AL vs va→Nm T AL→SlT (fun b=>b<b0) w s t.l→okT t=true→(webW t T).length≤10000 →
  Calls Tryz.prog 26 #[.pointer (some ⟨g,0,none⟩),.agg (tcs t s).toArray] w fun e w'=>∃(AL':List (Value×List Nat)) (vs' va':Value),e=.returned (.int .i64 (idxT (webW t T) t:Int))∧WebN b0 w' g m (webW t T) (webW t T) AL' vs' va'∧Nm (webW t T) AL'∧Fr (Fp g m AL vs va) w w'∧∀b,Fp g m AL' vs' va' b→Fp g m AL vs va b∨w.heap.size≤b:=by
 induction t using Tm.ind with
 | h t ih =>
 intro b0 w g m T AL vs va s hweb hnm hs ho hB
 have HIH:Hid _:=ih
 clear ih
 obtain ⟨pp,cap,rfl,hcap⟩:=hs.len
 obtain ⟨mm,hml⟩:∃m,m=t.l.length:=⟨_,rfl⟩
 have HM:Hid (∀_:Unit,mm=t.l.length):=fun _=>hml
 have HS:Hid (SlT (fun b=>b<b0) w (.slice pp mm cap) t.l):=by rw [hml];exact hs
 rw [←hml]
 have hm2:mm≤2:=by
  rw [hml,ok_len ho]
  unfold kn
  split<;>(try split)<;>omega
 have HO:Hid (okT t=true):=ho
 have HB:Hid ((webW t T).length≤10000):=hB
 have HP0:Hid (b0≤w.heap.size):=by have h1:=hweb.row.lt;have h2:=hweb.new.1;show _≤_;omega
 have HPB:Hid (∀b,Fp g m AL vs va b→b0≤b):=fun b hb=>(hweb.lt hb).1
 have HW0:Hid (WebN b0 w g m T T AL vs va):=hweb
 have HN0:Hid (Nm T AL):=hnm
 clear hs hml hcap ho hB hweb hnm
 have hm:=Mem.start w
 go_enter Tryz.func26,Tryz.ntmps26
 go_wp2_with (first
  | ((with_reducible refine af (some 3) (.box 24 (.tmp 1)) ?_);go_must (refine aw (tcs t (.slice pp mm cap)) rfl hm ?_);clear hm;intro w1 g3 hm)
  | ((with_reducible refine af (some 13) (.load 3 (.tmp 12)) ?_);go_must (refine aa (.int .i64 t.k) rfl (ad (.int .i64 t.k) (Mem.cell hm 0 rfl 0) rfl ag) ?_))
  | ((with_reducible refine af (some 15) (.load 3 (.tmp 14)) ?_);go_must (refine aa (.int .i64 t.n) rfl (ad (.int .i64 t.n) (Mem.cell hm 0 rfl 1) rfl ag) ?_))
  | ((with_reducible refine af (some 17) (.load 22 (.tmp 16)) ?_);go_must (refine aa (.slice pp mm cap) rfl (ad (.slice pp mm cap) (Mem.cell hm 0 rfl 2) rfl ah) ?_))
  | ((with_reducible refine af (some 19) (.build 65 #[(0,.tmp 13),(1,.tmp 15),(2,.tmp 18)]) ?_);go_must (refine cJ (shc t.k t.n (mm:Int) 0 0) [(0,.int .i64 t.k),(1,.int .i64 t.n),(2,.int .i64 (mm:Int))] rfl (built_shape _ _ _) ?_))
  | ((with_reducible refine af (some 5) (.alloc 65) ?_);go_must (refine ap _ eX hm ?_);clear hm;intro w2 g5 hm)
  | ((with_reducible refine af none (.store 65 (.tmp 5) (.tmp 19)) ?_);go_must (refine au 0 (shc t.k t.n (mm:Int) 0 0) hm rfl rfl rfl 5 cC rfl rfl (shc_one _ _ _ _ _) ?_);clear hm;intro w3 hm)
  | ((with_reducible refine af (some 21) (.load 22 (.tmp 20)) ?_);go_must (refine aa (.slice pp mm cap) rfl (ad (.slice pp mm cap) (Mem.cell hm 1 rfl 2) rfl ah) ?_)))
 have HA0:Hid (Ad b0 w w3 (Fp g m AL vs va) g m g3 g5 T T AL vs va (tcs t (.slice pp mm cap)) (shJ T t 0)):=by
  refine ⟨HW0.out.below hm.below,Fr.of_below hm.below,fun b hb=>Or.inl hb,hm.get 1 rfl,?_,⟨by have h9:=hm.fresh _ (List.mem_cons_of_mem _ (List.mem_cons_self ..));simpa using h9,fun hf=>?_⟩,⟨by have h9:=hm.fresh _ (List.mem_cons_self ..);simpa using h9,fun hf=>?_⟩⟩
  ·rw [shJ_zero,←HM.out ()];exact hm.get 0 rfl
  ·have h1:=(HW0.out.lt hf).2
   have h9:=hm.fresh _ (List.mem_cons_of_mem _ (List.mem_cons_self ..))
   simp at h9
   omega
  ·have h1:=(HW0.out.lt hf).2
   have h9:=hm.fresh _ (List.mem_cons_self ..)
   simp at h9
   omega
 clear hm
 go_loopw [23] (fun vi wr=>∃(j:Nat) (AL1:List (Value×List Nat)) (vs1 va1:Value),vi=.int .i64 (j:Int)∧j≤mm∧Hid (Ad b0 w wr (Fp g m AL vs va) g m g3 g5 (webWs (t.l.take j) T) (webWs (t.l.take j) T) AL1 vs1 va1 (tcs t (.slice pp mm cap)) (shJ (webWs (t.l.take j) T) t j))∧Hid (Nm (webWs (t.l.take j) T) AL1)) (fun vi _=>mm - (intOf vi).toNat)
 case atStart=>exact ⟨0,AL,vs,va,rfl,Nat.zero_le _,HA0.out,HN0.out⟩
 case round =>
  clear HA0
  obtain ⟨j,AL1,vs1,va1,rfl,hj,HA,HN⟩:=hrel
  obtain ⟨T1,hT1⟩:∃T1,T1=webWs (t.l.take j) T:=⟨_,rfl⟩
  rw [←hT1] at HA HN
  have HT1:Hid (∀_:Unit,T1=webWs (t.l.take j) T):=fun _=>hT1
  have HIN:Hid (∀y∈t.l.take j,y∈T1):=by
   show ∀y∈t.l.take j,y∈T1
   rw [hT1]
   exact (cK (t.l.take j) (fun x hx=>aM HO.out (List.mem_of_mem_take hx)) T HN0.out.web).2.2
  clear hT1
  by_cases hlt:j<mm
  ·have hki:(j:Int)<(mm:Int):=by omega
   have hj2:j<2:=by omega
   obtain ⟨b,o,rfl⟩:=HS.out.at (show 0<mm by omega)
   obtain ⟨x,hx⟩:=aX (HM.out ()) hlt
   obtain ⟨px,mx,cx,c0,c1,c2,hmx,hsx⟩:=(HA.out.tree HPB.out HP0.out HS.out).cells hx
   have HX:Hid (t.l[j]?=some x):=hx
   have HT2:Hid (∀_:Unit,webWs (t.l.take (j+1)) T=webW x T1):=fun _=>by rw [HT1.out ()];exact webWs_snoc HX.out T
   have HBX:Hid ((webW x T1).length≤10000):=by
    show _≤_
    rw [←HT2.out ()]
    exact Nat.le_trans (dC (fun x hx=>aM HO.out hx) HN0.out.web (j+1)) (Nat.le_trans (dA t T) HB.out)
   have HAD:Hid (Added x T1 (webW x T1)):=cw x (aM HO.out (List.mem_of_getElem? HX.out)) T1 HN.out.web
   have HCALL:Hid (∀W,Below wr.heap.size wr W→Calls Tryz.prog 26 #[.pointer (some ⟨g,0,none⟩),.agg (tcs x (.slice px mx cx)).toArray] W fun e w'=>∃(AL':List (Value×List Nat)) (vs' va':Value),e=.returned (.int .i64 (idxT (webW x T1) x:Int))∧WebN b0 w' g m (webW x T1) (webW x T1) AL' vs' va'∧Nm (webW x T1) AL'∧Fr (Fp g m AL1 vs1 va1) W w'∧∀b,Fp g m AL' vs' va' b→Fp g m AL1 vs1 va1 b∨W.heap.size≤b):=fun W hW=>HIH.out x (List.mem_of_getElem? HX.out) b0 W g m T1 AL1 vs1 va1 (.slice px mx cx) (HA.out.web.below hW) HN.out (hsx.below hW) (aM HO.out (List.mem_of_getElem? HX.out)) HBX.out
   obtain ⟨T2,hT2⟩:∃T2,T2=webW x T1:=⟨_,rfl⟩
   rw [←hT2] at HCALL HAD HBX HT2
   have HSH:Hid ((shJ T1 t j).set (3+j) (.int .i64 (idxT T2 x:Int))=shJ T2 t (j+1)):=shJ_step HN.out.web HAD.out.web HAD.out.pre HX.out hj2 HIN.out
   have hm:=Mem.start wr
   clear hsx hx hmx hT2 HBX
   go_wp2_with (first
    | ((with_reducible refine af (some 26) (.indexAddr 22 (.tmp 21) (.tmp 23)) ?_);go_must (refine aa (.pointer (some ⟨b,o+j * 3,none⟩)) rfl (ak j rfl rfl rfl hlt) ?_))
    | ((with_reducible refine af (some 27) (.load 24 (.tmp 26)) ?_);go_must (refine aa (.agg (tcs x (.slice px mx cx)).toArray) rfl (am rfl c0 c1 c2) ?_))
    | ((with_reducible refine af (some 7) (.alloc 24) ?_);go_must (refine ap _ ax hm ?_);clear hm;intro w5 g7 hm)
    | ((with_reducible refine af none (.store 24 (.tmp 7) (.tmp 27)) ?_);go_must (refine au 0 (tcs x (.slice px mx cx)) hm rfl rfl rfl 3 aj rfl rfl (aY _ _ _ _) ?_);clear hm;intro w6 hm)
    | ((with_reducible refine af (some 30) (.load 24 (.tmp 7)) ?_);go_must (refine aE 0 hm rfl rfl _ Tryz.underlying24 rfl 3 aj rfl ?_))
    | (go_at_call 26;go_must (refine (HCALL.out _ hm.below).mono ?_);rintro e w7 ⟨AL2,vs2,va2,he,hw7,hn7,hf7,hs7⟩;subst he;have HA7:Hid (Ad b0 w w7 (Fp g m AL vs va) g m g3 g5 T2 T2 AL2 vs2 va2 (tcs t (.slice (some ⟨b,o,none⟩) mm cap)) (shJ T1 t j)):=(HA.out.below hm.below).step hw7 hf7 hs7;have HN7:Hid (Nm T2 AL2):=hn7;clear hw7 hn7 hf7 hs7 hm HA HN)
    | ((with_reducible refine af (some 33) (.indexAddr 63 (.tmp 32) (.tmp 28)) ?_);go_must (refine aa (.pointer (some ⟨g5,3+j,none⟩)) rfl (exec_ixTwo j rfl rfl rfl hj2) ?_))
    | ((with_reducible refine af none (.store 3 (.tmp 33) (.tmp 31)) ?_);go_must (refine bW 0 (3+j) (.int .i64 (idxT T2 x:Int)) (Mem.enter HA7.out.row5) rfl rfl rfl bB (by show 3+j<5;omega) rfl rfl ?_);intro w8 hu8 hm8;have HA8:Hid (Ad b0 w w8 (Fp g m AL vs va) g m g3 g5 T2 T2 AL2 vs2 va2 (tcs t (.slice (some ⟨b,o,none⟩) mm cap)) (shJ T2 t (j+1))):=HA7.out.set5 hu8 (by have h:=hm8.get 0 rfl;rw [HSH.out] at h;exact h);clear hu8 hm8 HA7))
   go_roundw
   case rel=>exact ⟨j+1,AL2,vs2,va2,by go_num,by omega,by rw [HT2.out ()];exact HA8.out,by rw [HT2.out ()];exact HN7.out⟩
   case measure=>simp [intOf];omega
  ·have hje:j=mm:=by omega
   subst hje
   have hki:¬(j:Int)<(j:Int):=by omega
   clear hlt
   have HT3:Hid (∀_:Unit,webWs t.l T=T1):=fun _=>by have h:=HT1.out ();rw [HM.out (),List.take_length] at h;exact h.symm
   have HKI:Hid (∀y∈t.l,y∈T1):=by
    have h:=HIN.out
    rw [HM.out (),List.take_length] at h
    exact h
   have HSE:Hid (∀_:Unit,shJ T1 t j=shT T1 t):=fun _=>by rw [HM.out ()];exact shJ_end T1 t
   have HL1:Hid (T1.length≤10000):=by
    have h:=dA t T
    rw [HT3.out ()] at h
    exact Nat.le_trans h HB.out
   rw [HSE.out ()] at HA
   clear HIN HT1 HSE
   have hm:=Mem.start wr
   go_wp2_with fail
   by_cases hin:t∈T1
   ·have HWW:Hid (∀_:Unit,webW t T=T1):=fun _=>by rw [cW,HT3.out (),if_pos ((dl HN.out.web.ok HO.out).2 hin)]
    have HLK:Hid (∀W,(Ad b0 w W (Fp g m AL vs va) g m g3 g5 T1 T1 AL1 vs1 va1 (tcs t (.slice pp j cap)) (shT T1 t))→(Instr.lookup 58 (.map (some m)) (.agg (shT T1 t).toArray) true).run Tryz.prog W=.ok (.tuple #[.int .i64 (idxT T1 t:Int),.bool true]) W):=fun W hW=>hW.web.look HN.out.web HL1.out HKI.out HO.out hin
    obtain ⟨qn,hqn⟩:∃q,q=idxT T1 t:=⟨_,rfl⟩
    rw [←hqn] at HLK
    clear hin
    refine aq ?_
    refine ao (T:=fun W=>(Ad b0 w W (Fp g m AL vs va) g m g3 g5 T1 T1 AL1 vs1 va1 (tcs t (.slice pp j cap)) (shT T1 t))) (by kernel_rfl) hm ?_
    intro wc hbw hmw
    replace hm:(Ad b0 w wc (Fp g m AL vs va) g m g3 g5 T1 T1 AL1 vs1 va1 (tcs t (.slice pp j cap)) (shT T1 t)):=HA.out.below hbw
    clear hbw hmw
    refine aT 0 (v:=.pointer (some ⟨g,0,none⟩)) rfl (by kernel_rfl) rfl (fun W _=>by go_simp) hm ?_
    go_simp
    refine aT 1 (v:=.pointer (some ⟨g,0,none⟩)) rfl (by kernel_rfl) rfl (fun W _=>by go_simp) hm ?_
    go_simp
    refine aT 2 (v:=.pointer (some ⟨g,0,none⟩)) rfl (by kernel_rfl) rfl (fun W _=>by go_simp) hm ?_
    go_simp
    refine aT 3 (v:=.map (some m)) rfl (by kernel_rfl) rfl (fun W hW=>ad (.map (some m)) (hW.web.row.cell 0) rfl ag_wnum) hm ?_
    go_simp
    refine aT 4 (v:=.agg (shT T1 t).toArray) rfl (by kernel_rfl) rfl (fun W hW=>aB 0 (shT T1 t) hW.row5 rfl _ Tryz.underlying65 rfl 5 cC (Nat.le_refl _) rfl) hm ?_
    go_simp
    refine aT 5 (v:=.tuple #[.int .i64 (qn:Int),.bool true]) rfl (by kernel_rfl) rfl (fun W hW=>exec_look (HLK.out W hW) rfl rfl) hm ?_
    go_simp
    refine aT 6 (v:=.tuple #[.int .i64 (qn:Int),.bool true]) rfl (by kernel_rfl) rfl (fun W _=>by go_simp) hm ?_
    go_simp
    refine aT 7 (v:=.int .i64 (qn:Int)) rfl (by kernel_rfl) rfl (fun W _=>by go_simp) hm ?_
    go_simp
    refine aT 8 (v:=.bool true) rfl (by kernel_rfl) rfl (fun W _=>by go_simp) hm ?_
    go_simp
    refine aT 9 (v:=.int .i64 (qn:Int)) rfl (by kernel_rfl) rfl (fun W _=>by go_simp) hm ?_
    go_simp
    refine aT 10 (v:=.bool true) rfl (by kernel_rfl) rfl (fun W _=>by go_simp) hm ?_
    go_simp
    refine wpAnyH_done (by kernel_rfl) ?_ _
    simp only [endsIn]
    go_wp2_with fail
    go_ret
    rw [HWW.out (),←hqn]
    exact ⟨AL1,vs1,va1,rfl,hm.web,HN.out,hm.fr,hm.sub⟩
   ·have HNO:Hid (t ∉ T1):=hin
    clear hin
    have HWW:Hid (∀_:Unit,webW t T=T1++[t]):=fun _=>by rw [cW,HT3.out (),if_neg (by rw [dl HN.out.web.ok HO.out];exact HNO.out)]
    have HLK:Hid (∀W,(Ad b0 w W (Fp g m AL vs va) g m g3 g5 T1 T1 AL1 vs1 va1 (tcs t (.slice pp j cap)) (shT T1 t))→(Instr.lookup 58 (.map (some m)) (.agg (shT T1 t).toArray) true).run Tryz.prog W=.ok (.tuple #[.int .i64 0,.bool false]) W):=fun W hW=>hW.web.lookNo HN.out.web HL1.out HKI.out HO.out HNO.out
    have HW2:Hid (Web (T1++[t])):=by
     have h:=(cw t HO.out T HN0.out.web).web
     rw [HWW.out ()] at h
     exact h
    obtain ⟨L,hL⟩:∃L,L=T1.length:=⟨_,rfl⟩
    have HL:Hid (∀_:Unit,L=T1.length):=fun _=>hL
    have hL4:L≤10000:=by rw [hL];exact HL1.out
    have HAL:Hid (∀_:Unit,AL1.length=L):=fun _=>by rw [HN.out.al,HL.out ()]
    obtain ⟨ps,cs,hvs⟩:∃p c,vs1=.slice p L c:=by rw [hL];exact bN HA.out.web.os
    obtain ⟨pa,ca,hva⟩:∃p c,va1=.slice p L c:=by rw [←HAL.out ()];exact bN HA.out.web.oa
    subst hvs hva
    clear hL
    refine aq ?_
    refine ao (T:=fun W=>(Ad b0 w W (Fp g m AL vs va) g m g3 g5 T1 T1 AL1 (.slice ps L cs) (.slice pa L ca) (tcs t (.slice pp j cap)) (shT T1 t))) (by kernel_rfl) hm ?_
    intro wc hbw hmw
    replace hm:(Ad b0 w wc (Fp g m AL vs va) g m g3 g5 T1 T1 AL1 (.slice ps L cs) (.slice pa L ca) (tcs t (.slice pp j cap)) (shT T1 t)):=HA.out.below hbw
    clear hbw hmw
    refine aT 0 (v:=.pointer (some ⟨g,0,none⟩)) rfl (by kernel_rfl) rfl (fun W _=>by go_simp) hm ?_
    go_simp
    refine aT 1 (v:=.pointer (some ⟨g,0,none⟩)) rfl (by kernel_rfl) rfl (fun W _=>by go_simp) hm ?_
    go_simp
    refine aT 2 (v:=.pointer (some ⟨g,0,none⟩)) rfl (by kernel_rfl) rfl (fun W _=>by go_simp) hm ?_
    go_simp
    refine aT 3 (v:=.map (some m)) rfl (by kernel_rfl) rfl (fun W hW=>ad (.map (some m)) (hW.web.row.cell 0) rfl ag_wnum) hm ?_
    go_simp
    refine aT 4 (v:=.agg (shT T1 t).toArray) rfl (by kernel_rfl) rfl (fun W hW=>aB 0 (shT T1 t) hW.row5 rfl _ Tryz.underlying65 rfl 5 cC (Nat.le_refl _) rfl) hm ?_
    go_simp
    refine aT 5 (v:=.tuple #[.int .i64 0,.bool false]) rfl (by kernel_rfl) rfl (fun W hW=>exec_look (HLK.out W hW) rfl rfl) hm ?_
    go_simp
    refine aT 6 (v:=.tuple #[.int .i64 0,.bool false]) rfl (by kernel_rfl) rfl (fun W _=>by go_simp) hm ?_
    go_simp
    refine aT 7 (v:=.int .i64 0) rfl (by kernel_rfl) rfl (fun W _=>by go_simp) hm ?_
    go_simp
    refine aT 8 (v:=.bool false) rfl (by kernel_rfl) rfl (fun W _=>by go_simp) hm ?_
    go_simp
    refine aT 9 (v:=.int .i64 0) rfl (by kernel_rfl) rfl (fun W _=>by go_simp) hm ?_
    go_simp
    refine aT 10 (v:=.bool false) rfl (by kernel_rfl) rfl (fun W _=>by go_simp) hm ?_
    go_simp
    refine wpAnyH_done (by kernel_rfl) ?_ _
    simp only [endsIn]
    clear HLK
    have HA2:Hid (Ad b0 w wc (Fp g m AL vs va) g m g3 g5 T1 T1 AL1 (.slice ps L cs) (.slice pa L ca) (tcs t (.slice pp j cap)) (shT T1 t)):=hm
    clear hm HA
    have hm:=Mem.start wc
    go_wp2_with (first
     | ((with_reducible refine af (some 49) (.load 59 (.tmp 48)) ?_);go_must (refine aa (.slice ps L cs) rfl (ad (.slice ps L cs) ((HA2.out.below hm.below).web.row.cell 1) rfl bw) ?_)))
    refine aq ?_
    refine cU (T:=fun W=>Row W g [.map (some m),.slice ps L cs,.slice pa L ca] 62∧Row W g5 (shT T1 t) 65) (T2:=fun _=>True) 6 (by kernel_rfl) hm ?_
    clear hm
    intro wd hm
    have HA3:Hid (Ad b0 w wd (Fp g m AL vs va) g m g3 g5 T1 T1 AL1 (.slice ps L cs) (.slice pa L ca) (tcs t (.slice pp j cap)) (shT T1 t)):=HA2.out.below hm.below
    have hT:Row wd g [.map (some m),.slice ps L cs,.slice pa L ca] 62∧Row wd g5 (shT T1 t) 65:=⟨HA2.out.web.row.below' hm.below,HA2.out.row5.below' hm.below⟩
    refine aA 0 (v:=.pointer (some ⟨g,0,none⟩)) rfl (by kernel_rfl) (by kernel_rfl) (by kernel_rfl) rfl rfl (fun W _=>by go_simp) hT ?_
    go_simp
    refine aA 1 (v:=.pointer (some ⟨g,0,none⟩)) rfl (by kernel_rfl) (by kernel_rfl) (by kernel_rfl) rfl rfl (fun W _=>by go_simp) hT ?_
    go_simp
    refine aA 2 (v:=.pointer (some ⟨g,0,none⟩)) rfl (by kernel_rfl) (by kernel_rfl) (by kernel_rfl) rfl rfl (fun W _=>by go_simp) hT ?_
    go_simp
    refine bi 3 (v:=.map (some m)) rfl (by kernel_rfl) (by kernel_rfl) (by kernel_rfl) rfl rfl (by kernel_rfl) rfl (fun W hW=>ad (.map (some m)) (hW.1.cell 0) rfl ag_wnum) hT ?_
    go_simp
    refine bi 4 (v:=.agg (shT T1 t).toArray) rfl (by kernel_rfl) (by kernel_rfl) (by kernel_rfl) rfl rfl (by kernel_rfl) rfl (fun W hW=>aB 0 (shT T1 t) hW.2 rfl _ Tryz.underlying65 rfl 5 cC (Nat.le_refl _) rfl) hT ?_
    go_simp
    refine aA 5 (v:=.int .i64 (L:Int)) rfl (by kernel_rfl) (by kernel_rfl) (by kernel_rfl) rfl rfl (fun W _=>by go_simp) hT ?_
    go_simp
    refine dz (by kernel_rfl) rfl rfl ?_
    intro K hK
    obtain ⟨qk,hqk,hk0⟩:=HA3.out.web.map
    obtain ⟨kl,hkl⟩:=shT_key HN.out.web HL1.out HKI.out HO.out
    refine wpl_kmPut hk0 sh_law un_wnum (by have h:=HL1.out;omega) hkl rfl rfl rfl ?_
    intro w4 hk4 hu4
    have hput:=HA3.out.web.put (TM':=T1++[t]) (q:=qk+1) (by rw [List.length_append,List.length_singleton];omega) (hk4.same fun k v=>by rw [HL.out ()];exact shapeP_put HN.out.web HW2.out rfl HKI.out (by rw [←HM.out ()];exact hm2) HNO.out k v) hu4
    have HA4:Hid (Ad b0 w w4 (Fp g m AL vs va) g m g3 g5 (T1++[t]) T1 AL1 (.slice ps L cs) (.slice pa L ca) (tcs t (.slice pp j cap)) (shT T1 t)):=HA3.out.step hput.1 hput.2 fun _ hb=>Or.inl hb
    clear hput hk4 hu4 hk0 hqk hkl hT hm HA3 HA2
    refine wpList_nil ?_
    refine hK _ _ trivial ?_
    clear hK K
    refine wpAnyH_done (by kernel_rfl) ?_ _
    simp only [endsIn]
    go_wp2_with fail
    have hm:=Mem.start w4
    refine aq ?_
    refine cU (T:=fun W=>Row W g [.map (some m),.slice ps L cs,.slice pa L ca] 62∧Row W g5 (shT T1 t) 65) (T2:=fun _=>True) 10 (by kernel_rfl) hm ?_
    clear hm
    intro wc hm
    have hT:Row wc g [.map (some m),.slice ps L cs,.slice pa L ca] 62∧Row wc g5 (shT T1 t) 65:=⟨HA4.out.web.row.below' hm.below,HA4.out.row5.below' hm.below⟩
    refine aA 0 (v:=.pointer (some ⟨g,0,none⟩)) rfl (by kernel_rfl) (by kernel_rfl) (by kernel_rfl) rfl rfl (fun W _=>by go_simp) hT ?_
    go_simp
    refine aA 1 (v:=.pointer (some ⟨g,0,none⟩)) rfl (by kernel_rfl) (by kernel_rfl) (by kernel_rfl) rfl rfl (fun W _=>by go_simp) hT ?_
    go_simp
    refine aA 2 (v:=.pointer (some ⟨g,0,none⟩)) rfl (by kernel_rfl) (by kernel_rfl) (by kernel_rfl) rfl rfl (fun W _=>by go_simp) hT ?_
    go_simp
    refine aA 3 (v:=.pointer (some ⟨g,1,none⟩)) rfl (by kernel_rfl) (by kernel_rfl) (by kernel_rfl) rfl rfl (fun W _=>by go_simp) hT ?_
    go_simp
    refine bi 4 (v:=(.slice ps L cs)) rfl (by kernel_rfl) (by kernel_rfl) (by kernel_rfl) rfl rfl (by kernel_rfl) rfl (fun W hW=>ad (.slice ps L cs) (hW.1.cell 1) rfl bw) hT ?_
    go_simp
    refine bi 5 (v:=.agg (shT T1 t).toArray) rfl (by kernel_rfl) (by kernel_rfl) (by kernel_rfl) rfl rfl (by kernel_rfl) rfl (fun W hW=>aB 0 (shT T1 t) hW.2 rfl _ Tryz.underlying65 rfl 5 cC (Nat.le_refl _) rfl) hT ?_
    go_simp
    refine cS 6 (by kernel_rfl) rfl rfl rfl ?_
    intro K hK
    refine wpl_bslS (shT T1 t) rfl rfl rfl hm ?_
    clear hm
    intro w5 g6 hb5 hm
    have HB5:Hid (Below w4.heap.size w4 w5):=hm.below
    have hT5:Row w5 g [.map (some m),.slice ps L cs,.slice pa L ca] 62∧Row w5 g5 (shT T1 t) 65:=⟨hT.1.below' hb5,hT.2.below' hb5⟩
    clear hb5 hT
    refine wpList_nil ?_
    refine hK _ _ hT5 ?_
    clear hK K
    go_simp
    refine cS 7 (by kernel_rfl) rfl rfl rfl ?_
    intro K hK
    refine bP _ 5 40 rfl d9 made_shape rfl (by omega) (by omega) (HA4.out.web.below HB5.out).os (Nat.le_trans HP0.out (Nat.le_trans HA4.out.fr.size HB5.out.size)) rfl rfl (hm.get 0 rfl) rfl (shT_one _ _) (by have h:=HL1.out;omega) ?_
    intro v6 w6 ho6 hg6 hl6
    have hT6:Row w6 g [.map (some m),.slice ps L cs,.slice pa L ca] 62∧Row w6 g5 (shT T1 t) 65:=⟨HA4.out.web.rowS HB5.out hg6,bu hT5.2 (fun he=>HA4.out.n5.2 (Or.inr (Or.inr (Or.inl he.symm)))) hg6⟩
    obtain ⟨bs,c6,hv6⟩:=cL ho6
    rw [←HL.out ()] at hv6
    subst hv6
    have HO6:Hid (w6.ownsRow b0 65 5 (.slice (some ⟨bs,0,none⟩) (L+1) c6) (T1++[t]).length (shCells (T1++[t]))):=by
     show World.ownsRow _ _ _ _ _ _ _
     rw [shCells_app HN.out.web HW2.out rfl HKI.out,List.length_append,List.length_singleton]
     exact ho6
    have HG6:Hid (w5.grownBy w6 (Value.slice ps L cs).ownBlock):=hg6
    have HL6:Hid ((Value.slice (some ⟨bs,0,none⟩) (L+1) c6).ownBlock=(Value.slice ps L cs).ownBlock∨(Value.slice (some ⟨bs,0,none⟩) (L+1) c6).ownBlock=some w5.heap.size):=hl6
    clear ho6 hg6 hl6 hT5 hm
    refine wpList_nil ?_
    refine hK _ _ hT6 ?_
    clear hK K
    go_simp
    have hT:=hT6
    clear hT6
    refine aA 8 (v:=.pointer (some ⟨g,0,none⟩)) rfl (by kernel_rfl) (by kernel_rfl) (by kernel_rfl) rfl rfl (fun W _=>by go_simp) hT ?_
    go_simp
    refine aA 9 (v:=.pointer (some ⟨g,1,none⟩)) rfl (by kernel_rfl) (by kernel_rfl) (by kernel_rfl) rfl rfl (fun W _=>by go_simp) hT ?_
    go_simp
    refine dz (by kernel_rfl) rfl rfl ?_
    intro K hK
    refine bW 0 1 (.slice (some ⟨bs,0,none⟩) (L+1) c6) (Mem.enter hT.1) rfl rfl rfl sz_shapes (by show 1<3;omega) rfl rfl ?_
    intro w7 hu7 hm7
    have hsh:=HA4.out.web.shape HB5.out HO6.out HG6.out HL6.out hu7 (hm7.get 0 rfl)
    have HA7:Hid (Ad b0 w w7 (Fp g m AL vs va) g m g3 g5 (T1++[t]) (T1++[t]) AL1 (.slice (some ⟨bs,0,none⟩) (L+1) c6) (.slice pa L ca) (tcs t (.slice pp j cap)) (shT T1 t)):=HA4.out.step hsh.1 hsh.2.1 hsh.2.2
    clear hsh hu7 hm7 hT HO6 HG6 HL6 HB5 HA4
    refine wpList_nil ?_
    refine hK _ _ trivial ?_
    clear hK K
    refine wpAnyH_done (by kernel_rfl) ?_ _
    simp only [endsIn]
    have hm:=Mem.start w7
    go_wp2_with (first
     | ((with_reducible refine af (some 71) (.load 60 (.tmp 70)) ?_);go_must (refine aa (.slice pa L ca) rfl (ad (.slice pa L ca) ((HA7.out.below hm.below).web.row.cell 2) rfl da) ?_))
     | ((with_reducible refine af (some 72) (.buildSlice 60 1 #[(0,.const (.slice none 0 0))]) ?_);go_must (refine bL rfl (.slice none 0 0) (.slice none 0 0) cY info_ints rfl rfl rfl hm ?_);clear hm;intro w8 g8 hb8 hm;have HB8:Hid (Below w7.heap.size w7 w8):=hm.below;clear hb8)
     | ((with_reducible refine af (some 73) (.call {callee:=.builtin .append,args:=#[.tmp 71,.tmp 72],argTypes:=#[60,60]}) ?_);go_must (refine bP (.slice none 0 0) 1 24 rfl cY made_ints rfl (by omega) (by omega) (HA7.out.web.below HB8.out).oa (Nat.le_trans HP0.out (Nat.le_trans HA7.out.fr.size HB8.out.size)) rfl rfl (hm.get 0 rfl) rfl (by intro u hu;rw [List.mem_singleton.1 hu];rfl) (by rw [HAL.out ()];omega) ?_);intro v9 w9 ho9 hg9 hl9;obtain ⟨ba,c9,hv9⟩:=cL ho9;rw [HAL.out ()] at hv9;subst hv9;have HR9:Hid (Row w9 g [.map (some m),(.slice (some ⟨bs,0,none⟩) (L+1) c6),(.slice pa L ca)] 62):=HA7.out.web.rowA HB8.out hg9;have HO9:Hid (w9.ownsRow b0 41 1 (.slice (some ⟨ba,0,none⟩) (L+1) c9) (AL1.length+1) (AL1.map Prod.fst++[.slice none 0 0])∧w8.grownBy w9 (Value.slice pa L ca).ownBlock∧((Value.slice (some ⟨ba,0,none⟩) (L+1) c9).ownBlock=(Value.slice pa L ca).ownBlock∨(Value.slice (some ⟨ba,0,none⟩) (L+1) c9).ownBlock=some w8.heap.size)):=⟨ho9,hg9,hl9⟩;clear ho9 hg9 hl9 hm)
     | ((with_reducible refine af none (.store 60 (.tmp 75) (.tmp 73)) ?_);go_must (refine bW 0 2 (.slice (some ⟨ba,0,none⟩) (L+1) c9) (Mem.enter HR9.out) rfl rfl rfl sz_arounds (by show 2<3;omega) rfl rfl ?_);intro wA huA hmA;have haA:=HA7.out.web.around0 HB8.out HO9.out.1 HO9.out.2.1 HO9.out.2.2 huA (hmA.get 0 rfl);have HAA:Hid (Ad b0 w wA (Fp g m AL vs va) g m g3 g5 (T1++[t]) (T1++[t]) (AL1++[(.slice none 0 0,[])]) (.slice (some ⟨bs,0,none⟩) (L+1) c6) (.slice (some ⟨ba,0,none⟩) (L+1) c9) (tcs t (.slice pp j cap)) (shT T1 t)):=HA7.out.step haA.1 haA.2.1 haA.2.2;clear haA huA hmA HA7 HB8 HO9 HR9)
     | ((with_reducible refine af (some 78) (.load 3 (.tmp 77)) ?_);go_must (refine aa (.int .i64 (j:Int)) rfl (ad (.int .i64 (j:Int)) (by have h:=HAA.out.row5.cell 2;rw [show (shT T1 t)[2]?=some (.int .i64 (t.l.length:Int)) from rfl,←HM.out ()] at h;exact h) rfl ag) ?_))
     | ((with_reducible refine af (some 79) (.slice 63 (.tmp 76) none (some (.tmp 78)) none) ?_);go_must (refine aa (.slice (some ⟨g5,3,none⟩) j 2) rfl (ec hm2 rfl rfl rfl) ?_)))
    have HNJ:Hid (Nj T1 t 0 (AL1++[(.slice none 0 0,[])])):=HN.out.start HNO.out
    go_loopw [81] (fun vi wr=>∃(k:Nat) (AL3:List (Value×List Nat)),vi=.int .i64 (k:Int)∧k≤j∧Hid (Ad b0 w wr (Fp g m AL vs va) g m g3 g5 (T1++[t]) (T1++[t]) AL3 (.slice (some ⟨bs,0,none⟩) (L+1) c6) (.slice (some ⟨ba,0,none⟩) (L+1) c9) (tcs t (.slice pp j cap)) (shT T1 t))∧Hid (Nj T1 t k AL3)) (fun vi _=>j - (intOf vi).toNat)
    case atStart=>exact ⟨0,_,rfl,Nat.zero_le _,HAA.out,HNJ.out⟩
    case round =>
     clear HAA HNJ
     obtain ⟨k,AL3,rfl,hk,HA3,HNJ⟩:=hrel
     by_cases hlt:k<j
     ·have hki:(k:Int)<(j:Int):=by omega
      have hk2:k<2:=by omega
      have hal3:AL3.length=L+1:=by rw [HNJ.out.al,HL.out ()]
      obtain ⟨x,hx⟩:=aX (HM.out ()) hlt
      have hxT:x∈T1:=HKI.out x (List.mem_of_getElem? hx)
      obtain ⟨q,hq⟩:∃q,q=idxT T1 x:=⟨_,rfl⟩
      have hqg:T1[q]?=some x:=by rw [hq];exact a7 HN.out.web.ok hxT
      have hqL:q<L:=by rw [HL.out ()];exact (List.getElem?_eq_some_iff.1 hqg).1
      have hql:q<L+1:=by omega
      obtain ⟨vl,hvl⟩:∃e,AL3[q]?=some e:=⟨_,List.getElem?_eq_getElem (by rw [HNJ.out.al,←HL.out ()];omega)⟩
      obtain ⟨v,l⟩:=vl
      obtain ⟨pv,cv,hv⟩:=bN (HA3.out.web.ar q v l hvl)
      have hll:l.length≤50000:=by
       have h1:=HNJ.out.ab q v l hvl
       have h2:=HL1.out
       omega
      obtain ⟨nl,hnl⟩:∃n,n=l.length:=⟨_,rfl⟩
      rw [←hnl] at hv
      subst hv
      have HVL:Hid (AL3[q]?=some (.slice pv nl cv,l)):=hvl
      have HNL:Hid (∀_:Unit,nl=l.length):=fun _=>hnl
      have HNX:Hid (∀v',Nj T1 t (k+1) (AL3.set q (v',l++[L]))):=fun v'=>by rw [HL.out ()];exact HNJ.out.step HN.out.web.nd HNO.out hx hqg hvl
      have HCQ:Hid (wr.cell? ⟨g5,3+k,none⟩=some (.int .i64 (q:Int))):=by
       have h:=HA3.out.row5.cell (3+k)
       rw [shT_kid hk2 hx,←hq] at h
       exact h
      have HCV:Hid (∀W,(Ad b0 w W (Fp g m AL vs va) g m g3 g5 (T1++[t]) (T1++[t]) AL3 (.slice (some ⟨bs,0,none⟩) (L+1) c6) (.slice (some ⟨ba,0,none⟩) (L+1) c9) (tcs t (.slice pp j cap)) (shT T1 t))→W.cell? ⟨ba,q,none⟩=some (.slice pv nl cv)):=fun W hW=>by
       have h:=hW.web.oa.cells (g:=ba) rfl q (.slice pv nl cv) (by rw [List.getElem?_map,HVL.out];rfl)
       rw [aQ,Nat.zero_add] at h
       exact h
      have HAL3:Hid (∀_:Unit,AL3.length=L+1):=fun _=>hal3
      clear hvl hx hxT hqg hq hnl HNJ hal3
      go_wp2_with (first
       | ((with_reducible refine af (some 83) (.indexAddr 41 (.tmp 79) (.tmp 81)) ?_);go_must (refine aa (.pointer (some ⟨g5,3+k,none⟩)) rfl (a8 k rfl rfl rfl hlt) ?_))
       | ((with_reducible refine af (some 84) (.load 3 (.tmp 83)) ?_);go_must (refine aa (.int .i64 (q:Int)) rfl (ad (.int .i64 (q:Int)) HCQ.out rfl ag) ?_)))
      have hm:=Mem.start wr
      refine aq ?_
      refine cU (T:=fun W=>Row W g [.map (some m),(.slice (some ⟨bs,0,none⟩) (L+1) c6),(.slice (some ⟨ba,0,none⟩) (L+1) c9)] 62∧W.cell? ⟨ba,q,none⟩=some (.slice pv nl cv)) (T2:=fun _=>True) 16 (by kernel_rfl) hm ?_
      clear hm
      intro wc hm
      have HA4:Hid ((Ad b0 w wc (Fp g m AL vs va) g m g3 g5 (T1++[t]) (T1++[t]) AL3 (.slice (some ⟨bs,0,none⟩) (L+1) c6) (.slice (some ⟨ba,0,none⟩) (L+1) c9) (tcs t (.slice pp j cap)) (shT T1 t))):=HA3.out.below hm.below
      have hT:Row wc g [.map (some m),(.slice (some ⟨bs,0,none⟩) (L+1) c6),(.slice (some ⟨ba,0,none⟩) (L+1) c9)] 62∧wc.cell? ⟨ba,q,none⟩=some (.slice pv nl cv):=⟨HA3.out.web.row.below' hm.below,HCV.out _ (HA3.out.below hm.below)⟩
      refine aA 0 (v:=.pointer (some ⟨g,0,none⟩)) rfl (by kernel_rfl) (by kernel_rfl) (by kernel_rfl) rfl rfl (fun W _=>by go_simp) hT ?_
      go_simp
      refine aA 1 (v:=.pointer (some ⟨g,0,none⟩)) rfl (by kernel_rfl) (by kernel_rfl) (by kernel_rfl) rfl rfl (fun W _=>by go_simp) hT ?_
      go_simp
      refine aA 2 (v:=.pointer (some ⟨g,2,none⟩)) rfl (by kernel_rfl) (by kernel_rfl) (by kernel_rfl) rfl rfl (fun W _=>by go_simp) hT ?_
      go_simp
      refine bi 3 (v:=(.slice (some ⟨ba,0,none⟩) (L+1) c9)) rfl (by kernel_rfl) (by kernel_rfl) (by kernel_rfl) rfl rfl (by kernel_rfl) rfl (fun W hW=>ad (.slice (some ⟨ba,0,none⟩) (L+1) c9) (hW.1.cell 2) rfl da) hT ?_
      go_simp
      refine aA 4 (v:=.int .i64 (q:Int)) rfl (by kernel_rfl) (by kernel_rfl) (by kernel_rfl) rfl rfl (fun W _=>by go_simp) hT ?_
      go_simp
      refine aA 5 (v:=.pointer (some ⟨g,0,none⟩)) rfl (by kernel_rfl) (by kernel_rfl) (by kernel_rfl) rfl rfl (fun W _=>by go_simp) hT ?_
      go_simp
      refine aA 6 (v:=.pointer (some ⟨g,0,none⟩)) rfl (by kernel_rfl) (by kernel_rfl) (by kernel_rfl) rfl rfl (fun W _=>by go_simp) hT ?_
      go_simp
      refine aA 7 (v:=.pointer (some ⟨g,2,none⟩)) rfl (by kernel_rfl) (by kernel_rfl) (by kernel_rfl) rfl rfl (fun W _=>by go_simp) hT ?_
      go_simp
      refine bi 8 (v:=(.slice (some ⟨ba,0,none⟩) (L+1) c9)) rfl (by kernel_rfl) (by kernel_rfl) (by kernel_rfl) rfl rfl (by kernel_rfl) rfl (fun W hW=>ad (.slice (some ⟨ba,0,none⟩) (L+1) c9) (hW.1.cell 2) rfl da) hT ?_
      go_simp
      refine aA 9 (v:=.int .i64 (q:Int)) rfl (by kernel_rfl) (by kernel_rfl) (by kernel_rfl) rfl rfl (fun W _=>by go_simp) hT ?_
      go_simp
      refine aA 10 (v:=.pointer (some ⟨ba,q,none⟩)) rfl (by kernel_rfl) (by kernel_rfl) (by kernel_rfl) rfl rfl (fun W _=>eu q rfl rfl rfl hql) hT ?_
      go_simp
      refine bi 11 (v:=.slice pv nl cv) rfl (by kernel_rfl) (by kernel_rfl) (by kernel_rfl) rfl rfl (by kernel_rfl) rfl (fun W hW=>ad (.slice pv nl cv) hW.2 rfl bC) hT ?_
      go_simp
      refine aA 12 (v:=.int .i64 (L:Int)) rfl (by kernel_rfl) (by kernel_rfl) (by kernel_rfl) rfl rfl (fun W _=>by go_simp) hT ?_
      go_simp
      refine cS 13 (by kernel_rfl) rfl rfl rfl ?_
      intro K hK
      have hm:=Mem.start wc
      refine bL rfl (.int .i64 0) (.int .i64 (L:Int)) aU bV rfl rfl rfl hm ?_
      clear hm
      intro w5 g6 hb5 hm
      have HB5:Hid (Below wc.heap.size wc w5):=hm.below
      have hT5:Row w5 g [.map (some m),(.slice (some ⟨bs,0,none⟩) (L+1) c6),(.slice (some ⟨ba,0,none⟩) (L+1) c9)] 62∧w5.cell? ⟨ba,q,none⟩=some (.slice pv nl cv):=⟨hT.1.below' hb5,HCV.out _ (HA4.out.below hm.below)⟩
      clear hb5 hT
      refine wpList_nil ?_
      refine hK _ _ hT5 ?_
      clear hK K
      go_simp
      refine cS 14 (by kernel_rfl) rfl rfl rfl ?_
      intro K hK
      refine bP (.int .i64 0) 1 8 rfl aU dp rfl (by omega) (by omega) ((HA4.out.web.below HB5.out).ar q _ l HVL.out) (Nat.le_trans HP0.out (Nat.le_trans HA4.out.fr.size HB5.out.size)) rfl rfl (hm.get 0 rfl) rfl (by intro u hu;rw [List.mem_singleton.1 hu];rfl) (by omega) ?_
      intro v6 w6 ho6 hg6 hl6
      obtain ⟨b6,c6b,hv6⟩:=cL ho6
      rw [←HNL.out ()] at hv6
      subst hv6
      have hT6:Row w6 g [.map (some m),(.slice (some ⟨bs,0,none⟩) (L+1) c6),(.slice (some ⟨ba,0,none⟩) (L+1) c9)] 62∧w6.cell? ⟨ba,q,none⟩=some (.slice pv nl cv):=by
       refine ⟨HA4.out.web.rowG HVL.out HB5.out hg6,?_⟩
       have h:=(HA4.out.web.oaG HVL.out HB5.out hg6).cells (g:=ba) rfl q (.slice pv nl cv) (by rw [List.getElem?_map,HVL.out];rfl)
       rw [aQ,Nat.zero_add] at h
       exact h
      have HO6:Hid (w6.ownsRow b0 3 1 (.slice (some ⟨b6,0,none⟩) (nl+1) c6b) (l++[L]).length (nums (l++[L]))):=by
       show World.ownsRow _ _ _ _ _ _ _
       rw [de,List.length_append,List.length_singleton]
       exact ho6
      have HG6:Hid (w5.grownBy w6 (Value.slice pv nl cv).ownBlock):=hg6
      have HL6:Hid ((Value.slice (some ⟨b6,0,none⟩) (nl+1) c6b).ownBlock=(Value.slice pv nl cv).ownBlock∨(Value.slice (some ⟨b6,0,none⟩) (nl+1) c6b).ownBlock=some w5.heap.size):=hl6
      have HOA:Hid (w6.ownsRow b0 41 1 (.slice (some ⟨ba,0,none⟩) (L+1) c9) (L+1) (AL3.map Prod.fst)):=by
       have h:=HA4.out.web.oaG HVL.out HB5.out hg6
       rw [HAL3.out ()] at h
       exact h
      clear ho6 hg6 hl6 hT5 hm
      refine wpList_nil ?_
      refine hK _ _ hT6 ?_
      clear hK K
      go_simp
      have hT:=hT6
      clear hT6
      refine aA 15 (v:=.pointer (some ⟨ba,q,none⟩)) rfl (by kernel_rfl) (by kernel_rfl) (by kernel_rfl) rfl rfl (fun W _=>eu q rfl rfl rfl hql) hT ?_
      go_simp
      refine dz (by kernel_rfl) rfl rfl ?_
      intro K hK
      refine wpl_stRow HOA.out hql rfl rfl rfl rfl ?_
      intro w7 hu7 ho7
      have hsh:=HA4.out.web.aroundI HVL.out rfl HB5.out HO6.out HG6.out HL6.out hu7 (fun _=>by rw [HAL3.out ()];exact ho7)
      have HA7:Hid (Ad b0 w w7 (Fp g m AL vs va) g m g3 g5 (T1++[t]) (T1++[t]) (AL3.set q (.slice (some ⟨b6,0,none⟩) (nl+1) c6b,l++[L])) (.slice (some ⟨bs,0,none⟩) (L+1) c6) (.slice (some ⟨ba,0,none⟩) (L+1) c9) (tcs t (.slice pp j cap)) (shT T1 t)):=HA4.out.step hsh.1 hsh.2.1 hsh.2.2
      clear hsh hu7 ho7 hT HO6 HG6 HL6 HB5 HA4 HOA HA3
      refine wpList_nil ?_
      refine hK _ _ trivial ?_
      clear hK K
      refine wpAnyH_done (by kernel_rfl) ?_ _
      simp only [endsIn]
      go_wp2_with fail
      go_roundw
      case rel=>exact ⟨k+1,_,by go_num,by omega,HA7.out,HNX.out _⟩
      case measure=>simp [intOf];omega
     ·have hke:k=j:=by omega
      subst hke
      have hki:¬(k:Int)<(k:Int):=by omega
      clear hlt
      have HNE:Hid (Nm (T1++[t]) AL3):=by
       have h:=HNJ.out
       rw [HM.out ()] at h
       exact h.done HW2.out HNO.out (by rw [←HM.out ()];exact hm2)
      have HIX:Hid (idxT (T1++[t]) t=L):=idxT_of HW2.out (by rw [HL.out ()];simp)
      clear HNJ
      go_wp2_with fail
      go_ret
      rw [HWW.out ()]
      exact ⟨by rw [HIX.out];rfl,AL3,_,_,HA3.out.web,HNE.out,HA3.out.fr,HA3.out.sub⟩
open Go Go.RowKit Go.Maps
theorem Fr.tree {p:Nat→Prop} {w0 w:World} {b0:Nat} (h:Fr p w0 w) (hp:∀b,p b→b0≤b) (hb:b0≤w0.heap.size) {v:Value} {l:List Tm} (hs:SlT (fun b=>b<b0) w0 v l):SlT (fun b=>b<b0) w v l :=
 hs.keep (Keeps.of_block fun b hlt=>h.block b (Nat.lt_of_lt_of_le hlt hb) fun hpb=>by have:=hp b hpb;omega)
theorem dd {t:Tm} (h:isT t=true):okT t=true:=by
 simp only [isT,Bool.and_eq_true] at h
 first|exact h.2|exact h.1
structure Aa (b0:Nat) (w0 w:World) (p:Nat→Prop) (g m:Nat) (T:List Tm) (AL:List (Value×List Nat)) (vs va vr:Value) (ql:List Nat):Prop where
 web:WebN b0 w g m T T AL vs va
 fr:Fr p w0 w
 sub:∀b,Fp g m AL vs va b→p b∨w0.heap.size≤b
 own:w.ownsRow w0.heap.size 3 1 vr ql.length (nums ql)
 sep:∀b,vr.ownBlock=some b→¬Fp g m AL vs va b
section
variable {b0:Nat} {w0 w w':World} {p:Nat→Prop} {g m:Nat} {T T':List Tm} {AL AL':List (Value×List Nat)} {vs va vs' va' vr vr':Value} {ql:List Nat} {q:Nat}
theorem Aa.step (h:Aa b0 w0 w p g m T AL vs va vr ql) (hw:WebN b0 w' g m T' T' AL' vs' va') (hf:Fr (Fp g m AL vs va) w w') (hs:∀b,Fp g m AL' vs' va' b→Fp g m AL vs va b∨w.heap.size≤b):Aa b0 w0 w' p g m T' AL' vs' va' vr ql:=by
 refine ⟨hw,h.fr.trans hf h.sub,fun b hb=>?_,aF h.own fun b hb=>hf.block b (av h.own hb).2 (h.sep b hb),fun b hb hb2=>?_⟩
 ·rcases hs b hb with h1|h1
  ·exact h.sub b h1
  ·exact Or.inr (Nat.le_trans h.fr.size h1)
 ·rcases hs b hb2 with h1|h1
  ·exact h.sep b hb h1
  ·have:=(av h.own hb).2
   omega
theorem Aa.below (h:Aa b0 w0 w p g m T AL vs va vr ql) (hb:Below w.heap.size w w'):Aa b0 w0 w' p g m T AL vs va vr ql:=h.step (h.web.below hb) (Fr.of_below hb) fun _ hf=>Or.inl hf
theorem Aa.push (h:Aa b0 w0 w p g m T AL vs va vr ql) (ho:w'.ownsRow w0.heap.size 3 1 vr' (ql.length+1) (nums ql++[.int .i64 (q:Int)])) (hg:w.grownBy w' vr.ownBlock) (hl:vr'.ownBlock=vr.ownBlock∨vr'.ownBlock=some w.heap.size):Aa b0 w0 w' p g m T AL vs va vr' (ql++[q]):=by
 refine ⟨h.web.keep fun b hb=>hg.block b (h.web.lt hb).2 fun he=>h.sep b he.symm hb,⟨hg.os.trans h.fr.os,hg.tape.trans h.fr.tape,hg.output.trans h.fr.output,Nat.le_trans h.fr.size hg.size,fun b hb hn=>(hg.block b (Nat.lt_of_lt_of_le hb h.fr.size) fun he=>?_).trans (h.fr.block b hb hn)⟩,h.sub,?_,fun b hb hb2=>?_⟩
 ·have:=(av h.own he.symm).1
  omega
 ·rw [de,List.length_append]
  exact ho
 ·rcases hl with hl|hl
  ·rw [hl] at hb;exact h.sep b hb hb2
  ·rw [hl] at hb
   have:=Option.some.inj hb
   have:=(h.web.lt hb2).2
   omega
end
theorem NumsOf.mono {T T':List Tm} {ql:List Nat} {l:List Tm} (h:NumsOf T ql l) (hp:∃s,T'=T++s):NumsOf T' ql l:=by
 obtain ⟨s,rfl⟩:=hp
 exact h.pre s
theorem filter_step {l:List Tm} {k:Nat} {x:Tm} (hx:l[k]?=some x) (P:Tm→Bool):(l.take (k+1)).filter P=(l.take k).filter P++if P x then [x] else []:=by
 rw [List.take_add_one,hx,Option.toList_some,List.filter_append,List.filter_cons,List.filter_nil]
theorem cV (b0:Nat) (w:World) (g m:Nat) (T:List Tm) (AL:List (Value×List Nat)) (vs va s:Value) (bl:List Tm) (hweb:WebN b0 w g m T T AL vs va) (hnm:Nm T AL) (hs:SlT (fun b=>b<b0) w s bl) (hbl:bl.length≤10000) (hB:(webWs (bl.filter isT) T).length≤10000) :
  Calls Tryz.prog 25 #[.pointer (some ⟨g,0,none⟩),s] w fun e w'=>∃(AL':List (Value×List Nat)) (vs' va' vr:Value) (ql:List Nat),e=.returned vr∧Nm (webWs (bl.filter isT) T) AL'∧Aa b0 w w' (Fp g m AL vs va) g m (webWs (bl.filter isT) T) AL' vs' va' vr ql∧NumsOf (webWs (bl.filter isT) T) ql (bl.filter isT):=by
 obtain ⟨pp,cap,rfl,hcap⟩:=hs.len
 obtain ⟨mm,hml⟩:∃m,m=bl.length:=⟨_,rfl⟩
 have HM:Hid (∀_:Unit,mm=bl.length):=fun _=>hml
 have HS:Hid (SlT (fun b=>b<b0) w (.slice pp mm cap) bl):=by rw [hml];exact hs
 rw [←hml]
 have hm4:mm≤10000:=by rw [hml];exact hbl
 have HB:Hid ((webWs (bl.filter isT) T).length≤10000):=hB
 have HP0:Hid (b0≤w.heap.size):=by have h1:=hweb.row.lt;have h2:=hweb.new.1;show _≤_;omega
 have HPB:Hid (∀b,Fp g m AL vs va b→b0≤b):=fun b hb=>(hweb.lt hb).1
 have HN0:Hid (Nm T AL):=hnm
 have HA0:Hid (Aa b0 w w (Fp g m AL vs va) g m T AL vs va (.slice none 0 0) []):=⟨hweb,⟨rfl,rfl,rfl,Nat.le_refl _,fun _ _ _=>rfl⟩,fun b hb=>Or.inl hb,World.ownsRow_nil _ _ _ _,fun b hb=>(by cases hb)⟩
 clear hs hml hcap hbl hB hweb hnm
 go_enter Tryz.func25,Tryz.ntmps25
 go_wp2_with fail
 go_loopw [10,5] (fun vi vr wr=>∃(k:Nat) (AL1:List (Value×List Nat)) (vs1 va1:Value) (ql:List Nat),vi=.int .i64 (k:Int)∧k≤mm∧Hid (Aa b0 w wr (Fp g m AL vs va) g m (webWs ((bl.take k).filter isT) T) AL1 vs1 va1 vr ql)∧Hid (Nm (webWs ((bl.take k).filter isT) T) AL1)∧Hid (NumsOf (webWs ((bl.take k).filter isT) T) ql ((bl.take k).filter isT))) (fun vi _ _=>mm - (intOf vi).toNat)
 case atStart=>exact ⟨0,AL,vs,va,[],rfl,Nat.zero_le _,HA0.out,HN0.out,NumsOf.nil T⟩
 case round =>
  clear HA0
  obtain ⟨k,AL1,vs1,va1,ql,rfl,hk,HA,HN,HQ⟩:=hrel
  by_cases hlt:k<mm
  ·have hki:(k:Int)<(mm:Int):=by omega
   obtain ⟨b,o,rfl⟩:=HS.out.at (show 0<mm by omega)
   obtain ⟨x,hx⟩:=aX (HM.out ()) hlt
   obtain ⟨px,mx,cx,c0,c1,c2,hmx,hsx⟩:=(HA.out.fr.tree HPB.out HP0.out HS.out).cells hx
   have hst:=filter_step hx isT
   have HSX:Hid (SlT (fun b=>b<b0) wr (.slice px mx cx) x.l):=hsx
   obtain ⟨F1,hF1⟩:∃F1,F1=(bl.take k).filter isT:=⟨_,rfl⟩
   obtain ⟨T1,hT1⟩:∃T1,T1=webWs F1 T:=⟨_,rfl⟩
   have HF2:Hid (∀_:Unit,(bl.take (k+1)).filter isT=F1++if isT x then [x] else []):=fun _=>by rw [hF1];exact hst
   rw [←hF1] at HA HN HQ
   have HT1:Hid (∀_:Unit,T1=webWs F1 T):=fun _=>hT1
   rw [←hT1] at HA HN HQ
   have HLE:Hid ((webWs ((bl.take (k+1)).filter isT) T).length≤10000):=by
    show _≤_
    have e:bl.filter isT=(bl.take (k+1)).filter isT++(bl.drop (k+1)).filter isT:=by rw [←List.filter_append,List.take_append_drop]
    have h:=dC (l:=bl.filter isT) (fun y hy=>dd (List.mem_filter.1 hy).2) HN0.out.web ((bl.take (k+1)).filter isT).length
    rw [e,List.take_left] at h
    rw [e] at HB
    exact Nat.le_trans h HB.out
   obtain ⟨nq,hnq⟩:∃n,n=ql.length:=⟨_,rfl⟩
   obtain ⟨pr,cr,hvr⟩:=bN HA.out.own
   rw [←hnq] at hvr
   subst hvr
   have hnq4:nq≤10000:=by
    have h1:=HQ.out.1
    have h2:F1.length≤(bl.take k).length:=by rw [hF1];exact List.length_filter_le _ _
    rw [List.length_take] at h2
    omega
   have HNQ:Hid (∀_:Unit,nq=ql.length):=fun _=>hnq
   clear hst hsx hx hmx hT1 hF1 hnq
   have hm:=Mem.start wr
   cases hix:isT x with
   | false =>
    have HIS:Hid (∀W,Below wr.heap.size wr W→Calls Tryz.prog 23 #[.agg (tcs x (.slice px mx cx)).toArray] W fun e w'=>e=.returned (.bool false)∧Below W.heap.size W w'):=fun W hW=>by have h:=dL x _ W (HSX.out.below hW);rw [hix] at h;exact h
    rw [hix] at HF2
    go_wp2_with (first
     | ((with_reducible refine af (some 12) (.indexAddr 22 (.tmp 8) (.tmp 10)) ?_);go_must (refine aa (.pointer (some ⟨b,o+k * 3,none⟩)) rfl (ak k rfl rfl rfl hlt) ?_))
     | ((with_reducible refine af (some 13) (.load 24 (.tmp 12)) ?_);go_must (refine aa (.agg (tcs x (.slice px mx cx)).toArray) rfl (am rfl c0 c1 c2) ?_))
     | ((with_reducible refine af (some 7) (.alloc 24) ?_);go_must (refine ap _ ax hm ?_);clear hm;intro w5 g7 hm)
     | ((with_reducible refine af none (.store 24 (.tmp 7) (.tmp 13)) ?_);go_must (refine au 0 (tcs x (.slice px mx cx)) hm rfl rfl rfl 3 aj rfl rfl (aY _ _ _ _) ?_);clear hm;intro w6 hm)
     | ((with_reducible refine af (some 14) (.load 24 (.tmp 7)) ?_);go_must (refine aE 0 hm rfl rfl _ Tryz.underlying24 rfl 3 aj rfl ?_))
     | (go_at_call 23;go_must (refine (HIS.out _ hm.below).mono ?_);rintro e wi ⟨he,hb⟩;subst he;replace hm:=hm.call hb;clear hb))
    go_roundw
    case rel =>
     refine ⟨k+1,AL1,vs1,va1,ql,by go_num,by omega,?_,?_,?_⟩<;>rw [HF2.out (),if_neg (by simp),List.append_nil,←HT1.out ()]
     ·exact HA.out.below hm.below
     ·exact HN.out
     ·exact HQ.out
    case measure=>simp [intOf];omega
   | true =>
    have HIS:Hid (∀W,Below wr.heap.size wr W→Calls Tryz.prog 23 #[.agg (tcs x (.slice px mx cx)).toArray] W fun e w'=>e=.returned (.bool true)∧Below W.heap.size W w'):=fun W hW=>by have h:=dL x _ W (HSX.out.below hW);rw [hix] at h;exact h
    rw [hix] at HF2
    have HT2:Hid (∀_:Unit,webWs ((bl.take (k+1)).filter isT) T=webW x T1):=fun _=>by
     rw [HF2.out (),if_pos rfl,webWs_app,←HT1.out ()]
     rfl
    rw [HT2.out ()] at HLE
    have HCALL:Hid (∀W,Below wr.heap.size wr W→Calls Tryz.prog 26 #[.pointer (some ⟨g,0,none⟩),.agg (tcs x (.slice px mx cx)).toArray] W fun e w'=>∃(AL':List (Value×List Nat)) (vs' va':Value),e=.returned (.int .i64 (idxT (webW x T1) x:Int))∧WebN b0 w' g m (webW x T1) (webW x T1) AL' vs' va'∧Nm (webW x T1) AL'∧Fr (Fp g m AL1 vs1 va1) W w'∧∀b,Fp g m AL' vs' va' b→Fp g m AL1 vs1 va1 b∨W.heap.size≤b):=fun W hW=>add_any x b0 W g m T1 AL1 vs1 va1 (.slice px mx cx) (HA.out.web.below hW) HN.out (HSX.out.below hW) (dd hix) HLE.out
    have HAD:Hid (Added x T1 (webW x T1)):=cw x (dd hix) T1 HN.out.web
    obtain ⟨T2,hT2⟩:∃T2,T2=webW x T1:=⟨_,rfl⟩
    rw [←hT2] at HCALL HAD HT2 HLE
    obtain ⟨qx,hqx⟩:∃q,q=idxT T2 x:=⟨_,rfl⟩
    rw [←hqx] at HCALL
    have HQX:Hid (T2[qx]?=some x):=by show _=_;rw [hqx];exact a7 HAD.out.web.ok HAD.out.has
    clear hT2 hqx
    go_wp2_with (first
     | ((with_reducible refine af (some 12) (.indexAddr 22 (.tmp 8) (.tmp 10)) ?_);go_must (refine aa (.pointer (some ⟨b,o+k * 3,none⟩)) rfl (ak k rfl rfl rfl hlt) ?_))
     | ((with_reducible refine af (some 13) (.load 24 (.tmp 12)) ?_);go_must (refine aa (.agg (tcs x (.slice px mx cx)).toArray) rfl (am rfl c0 c1 c2) ?_))
     | ((with_reducible refine af (some 7) (.alloc 24) ?_);go_must (refine ap _ ax hm ?_);clear hm;intro w5 g7 hm)
     | ((with_reducible refine af none (.store 24 (.tmp 7) (.tmp 13)) ?_);go_must (refine au 0 (tcs x (.slice px mx cx)) hm rfl rfl rfl 3 aj rfl rfl (aY _ _ _ _) ?_);clear hm;intro w6 hm)
     | ((with_reducible refine af (some 14) (.load 24 (.tmp 7)) ?_);go_must (refine aE 0 hm rfl rfl _ Tryz.underlying24 rfl 3 aj rfl ?_))
     | (go_at_call 23;go_must (refine (HIS.out _ hm.below).mono ?_);rintro e wi ⟨he,hb⟩;subst he;replace hm:=hm.call hb;clear hb)
     | ((with_reducible refine af (some 18) (.load 24 (.tmp 7)) ?_);go_must (refine aE 0 hm rfl rfl _ Tryz.underlying24 rfl 3 aj rfl ?_))
     | (go_at_call 26;go_must (refine (HCALL.out _ hm.below).mono ?_);rintro e w7 ⟨AL2,vs2,va2,he,hw7,hn7,hf7,hs7⟩;subst he;have HA7:Hid (Aa b0 w w7 (Fp g m AL vs va) g m T2 AL2 vs2 va2 (.slice pr nq cr) ql):=(HA.out.below hm.below).step hw7 hf7 hs7;have HN7:Hid (Nm T2 AL2):=hn7;clear hw7 hn7 hf7 hs7 hm HA HN;have hm:=Mem.start w7)
     | ((with_reducible refine af (some 20) (.buildSlice 41 1 #[(0,.tmp 19)]) ?_);go_must (refine bL rfl (.int .i64 0) (.int .i64 (qx:Int)) aU bV rfl rfl rfl hm ?_);clear hm;intro w8 g8 hb8 hm;have HA8:Hid (Aa b0 w w8 (Fp g m AL vs va) g m T2 AL2 vs2 va2 (.slice pr nq cr) ql):=HA7.out.below hm.below;clear hb8)
     | ((with_reducible refine af (some 21) (.call {callee:=.builtin .append,args:=#[.tmp 16,.tmp 20],argTypes:=#[41,41]}) ?_);go_must (refine bP (.int .i64 0) 1 8 rfl aU dp rfl (by omega) (by omega) HA8.out.own HA8.out.fr.size rfl rfl (hm.get 0 rfl) rfl (by intro u hu;rw [List.mem_singleton.1 hu];rfl) (by have h:=HNQ.out ();omega) ?_);intro v9 w9 ho9 hg9 hl9;have HA9:Hid (Aa b0 w w9 (Fp g m AL vs va) g m T2 AL2 vs2 va2 v9 (ql++[qx])):=HA8.out.push ho9 hg9 hl9;clear ho9 hg9 hl9 hm HA8 HA7))
    go_roundw
    case rel =>
     refine ⟨k+1,AL2,vs2,va2,ql++[qx],by go_num,by omega,?_,?_,?_⟩<;>rw [HT2.out ()]
     ·exact HA9.out
     ·exact HN7.out
     ·have e:=HF2.out ()
      simp only [if_true] at e
      rw [e]
      exact (HQ.out.mono HAD.out.pre).snoc HQX.out
    case measure=>simp [intOf];omega
  ·have hke:k=mm:=by omega
   subst hke
   have hki:¬(k:Int)<(k:Int):=by omega
   rw [HM.out (),List.take_length] at HA HN HQ
   go_wp2_with fail
   go_ret
   exact ⟨AL1,vs1,va1,_,rfl,HN.out,ql,HA.out,HQ.out⟩
end Go.Proofs.YtcibhfcjbokdlaaGreatDoor
