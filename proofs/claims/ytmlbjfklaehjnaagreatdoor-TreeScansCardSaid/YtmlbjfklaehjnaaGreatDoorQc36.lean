import Derived.Test.YtmlbjfklaehjnaaGreatDoorQc35
set_option maxRecDepth 100000
set_option maxHeartbeats 4000000
namespace Go.Proofs.YtmlbjfklaehjnaaGreatDoor
open Go Go.RowKit Go.Maps
theorem info_chk:(Tryz.prog.info? 96).map (fun i=>(i.zero,i.size))=some (some (.agg (List.toArray [.pointer none,.map none,.int .i64 0,.int .i64 0])),4):=by kernel_rfl
theorem zero_chk:∀w,(zeroValue 96).run Tryz.prog w=.ok (.agg (List.toArray [.pointer none,.map none,.int .i64 0,.int .i64 0])) w:=(zero_of_info info_chk).1
theorem sz_chk:(Tryz.prog.info? 96).map (·.size)=some 4:=by kernel_rfl
theorem ag_erT:∀w,(isAgg 31).run Tryz.prog w=.ok false w:=by intro w;simp [go_sem]
theorem built_chk (gp q:Nat):Tryz.prog.built 96 [(0,.agg (List.toArray [.pointer (some ⟨gp,0,none⟩),.map (some q)]))]=some (List.toArray [.pointer (some ⟨gp,0,none⟩),.map (some q),.int .i64 0,.int .i64 0]):=by rfl
theorem less_nil (a:ByteArray):Op.bytesLess a.toList []=false:=by
 cases a.toList<;>rfl
theorem UpdS.two {w w1 w2:World} {q g:Nat} (h:UpdS [q] w w1) (k:UpdS [g] w1 w2):UpdS [q,g] w w2 :=
 (h.mono (by simp)).trans (k.mono (by simp))
/-- A reader's map and the caller's own first block turned. -/
theorem Mem.new2 {w0 w w':World} {rows:List (Nat×List Value×TypeId)} {q c g:Nat} {L L':List Value} {t:TypeId} {es:Array MapEntry} (hm:Mem w0 [] w ((g,L,t)::rows)) (hu:UpdS [q,g] w w') (hq:w0.heap.size≤q) (hmap:w.heap[q]?=some (.map es c)) (hr:Row w' g L' t):Mem w0 [] w' ((g,L',t)::rows):=by
 have hg:w0.heap.size≤g:=by
  have h9:=hm.fresh _ (List.mem_cons_self ..)
  simpa using h9
 refine ⟨hu.os.trans hm.os,hu.tape.trans hm.tape,hu.output.trans hm.output,Nat.le_trans hm.size hu.size,fun k hk _=>(hu.block k (Nat.lt_of_lt_of_le hk hm.size) (by simp only [List.mem_cons,List.not_mem_nil,or_false];omega)).trans (hm.block k hk (by simp)),fun r hr2=>?_,hm.nodup,fun r hr2=>?_⟩
 ·rcases List.mem_cons.1 hr2 with e|e
  ·subst e;exact hr
  ·have h1:=hm.row r (List.mem_cons_of_mem _ e)
   refine hu.row h1 (fun e2=>?_)
   simp only [List.mem_cons,List.not_mem_nil,or_false] at e2
   rcases e2 with e2|e2
   ·exact ax h1 hmap e2
   ·have h2:=hm.nodup
    rw [List.map_cons,List.nodup_cons] at h2
    exact h2.1 (List.mem_map.2 ⟨r,e,e2⟩)
 ·rcases List.mem_cons.1 hr2 with e|e
  ·subst e;exact Or.inr hg
  ·exact hm.fresh r (List.mem_cons_of_mem _ e)
theorem jS (p:Option Addr) (n c:Nat) (w:World):Calls Tryz.prog 102 #[.agg (List.toArray [.slice p n c,.slice none 0 0,.slice none 0 0])] w fun e w'=>e=.returned (.bool (decide (n=0)))∧Below w.heap.size w w':=by
 have hm:=Mem.start w
 by_cases h0:n=0
 ·subst h0
  go_enter Tryz.func102,Tryz.ntmps102
  go_wp2_with (first
   | ((with_reducible refine aa (some 1) (.box 84 (.tmp 0)) ?_);refine ak [.slice p 0 c,.slice none 0 0,.slice none 0 0] rfl hm ?_;clear hm;intro w1 g hm)
   | ((with_reducible refine aa (some 3) (.load 84 (.tmp 1)) ?_);obtain ⟨fs,hfs⟩:=aS;go_must (refine am 0 hm rfl rfl _ hfs rfl 3 aA rfl ?_);clear hfs fs)
   | (go_at_call 56;refine (ea _ _ _ _).mono ?_;rintro e w2 ⟨rfl,hb⟩;replace hm:=hm.call hb;clear hb)
   | ((with_reducible refine aM (some 7) (.load 28 (.tmp 6)) (some (2,true)) ?_);go_must (refine ae (.slice p 0 c) rfl (aj (.slice p 0 c) (((hm.get 0 rfl).cell 0).trans rfl) rfl bZ) ?_)))
  go_ret
  exact ⟨rfl,hm.below⟩
 ·have hi:¬(n:Int)=0:=by omega
  go_enter Tryz.func102,Tryz.ntmps102
  go_wp2_with (first
   | ((with_reducible refine aa (some 1) (.box 84 (.tmp 0)) ?_);refine ak [.slice p n c,.slice none 0 0,.slice none 0 0] rfl hm ?_;clear hm;intro w1 g hm)
   | ((with_reducible refine aa (some 3) (.load 84 (.tmp 1)) ?_);obtain ⟨fs,hfs⟩:=aS;go_must (refine am 0 hm rfl rfl _ hfs rfl 3 aA rfl ?_);clear hfs fs)
   | (go_at_call 56;refine (ea _ _ _ _).mono ?_;rintro e w2 ⟨rfl,hb⟩;replace hm:=hm.call hb;clear hb)
   | ((with_reducible refine aM (some 7) (.load 28 (.tmp 6)) (some (2,true)) ?_);go_must (refine ae (.slice p n c) rfl (aj (.slice p n c) (((hm.get 0 rfl).cell 0).trans rfl) rfl bZ) ?_)))
  go_ret
  exact ⟨by simp [h0],hm.below⟩
theorem isBelow_nil (key:ByteArray) (w:World):Calls Tryz.prog 67 #[.string key,.string {data:=#[]}] w fun e w'=>e=.returned (.bool true)∧w'=w:=by
 go_enter Tryz.func67,Tryz.ntmps67
 go_wp2_with fail
 go_ret
 exact ⟨rfl,rfl⟩
theorem chkleaf_none (gp q gc c:Nat) (p:Option Addr) (w:World) (hr:Row w gc [.pointer (some ⟨gp,0,none⟩),.map (some q),.int .i64 0,.int .i64 0] 96) :
  Calls Tryz.prog 66 #[.pointer (some ⟨gc,0,none⟩),.agg (List.toArray [.slice p 0 c,.slice none 0 0,.slice none 0 0]),.int .i64 1,.string {data:=#[]},.string {data:=#[]}] w fun e w'=>e=.returned (.int .i64 0)∧UpdS [gc] w w'∧Row w' gc [.pointer (some ⟨gp,0,none⟩),.map (some q),.int .i64 1,.int .i64 0] 96:=by
 have hm:=Mem.ownS hr
 have HE:Hid (∀_:Unit,decide ((0:Nat)=0)=true):=fun _=>rfl
 clear hr
 go_enter Tryz.func66,Tryz.ntmps66
 go_wp2_with (first
  | ((with_reducible refine aa (some 6) (.box 84 (.tmp 1)) ?_);refine ak [.slice p 0 c,.slice none 0 0,.slice none 0 0] rfl hm ?_;clear hm;intro w1 g6 hm)
  | ((with_reducible refine aa (some 14) (.load 3 (.tmp 13)) ?_);refine ai 1 2 (.int .i64 0) hm rfl rfl em rfl ?_)
  | ((with_reducible refine aa none (.store 3 (.tmp 19) (.tmp 17)) ?_);go_must (refine aD 1 2 (.int .i64 1) hm rfl rfl rfl sz_int (by simp) rfl rfl ?_);clear hm;intro w2 hm;replace hm:Mem w [gc] w2 [(g6,[.slice p 0 c,.slice none 0 0,.slice none 0 0],84),(gc,[.pointer (some ⟨gp,0,none⟩),.map (some q),.int .i64 1,.int .i64 0],96)]:=hm)
  | ((with_reducible refine aa (some 23) (.load 3 (.tmp 22)) ?_);refine ai 1 2 (.int .i64 1) hm rfl rfl em rfl ?_)
  | ((with_reducible refine aa (some 26) (.load 84 (.tmp 6)) ?_);obtain ⟨fs,hfs⟩:=aS;go_must (refine am 0 hm rfl rfl _ hfs rfl 3 aA rfl ?_);clear hfs fs)
  | (go_at_call 102;refine (jS _ _ _ _).mono ?_;rintro e w3 ⟨he,hb⟩;rw [HE.out ()] at he;subst he;have HB3:Hid (Below w2.heap.size w2 w3):=hb;replace hm:=hm.call hb;clear hb))
 go_ret
 exact ⟨rfl,hm.upds,hm.get 1 rfl⟩
theorem chkleaf_some (gp q gc c n b o:Nat) (l:List Pr) (hn:l.length=n) (h0:0<n) (hnl:n≤1000) (w:World) (hr:Row w gc [.pointer (some ⟨gp,0,none⟩),.map (some q),.int .i64 0,.int .i64 0] 96) (hv:SlP w (.slice (some ⟨b,o,none⟩) n c) l) :
  Calls Tryz.prog 66 #[.pointer (some ⟨gc,0,none⟩),.agg (List.toArray [.slice (some ⟨b,o,none⟩) n c,.slice none 0 0,.slice none 0 0]),.int .i64 1,.string {data:=#[]},.string {data:=#[]}] w fun e w'=>e=.returned (.int .i64 0)∧UpdS [gc] w w'∧Row w' gc [.pointer (some ⟨gp,0,none⟩),.map (some q),.int .i64 1,.int .i64 0] 96:=by
 have HE:Hid (∀_:Unit,decide (n=0)=false):=fun _=>decide_eq_false (by omega)
 obtain ⟨j,rfl⟩:∃j,n=j+1:=⟨n - 1,by omega⟩
 have hbne:b≠gc:=by
  intro e
  have h1:=(SlP.cells hn hv 0 h0).1
  rw [e,hr.cell] at h1
  simp only [Nat.zero_mul,Nat.add_zero] at h1
  have h2:=List.mem_of_getElem? h1
  simp only [List.mem_cons,List.not_mem_nil,or_false] at h2
  rcases h2 with h2|h2|h2|h2<;>cases h2
 have hcell:∀i,i<j+1→∀W,UpdS [gc] w W→W.cell? ⟨b,o+i * 2,none⟩=some (.string (l.getD i (noStr,noStr)).1):=by
  intro i hi W hu
  have h1:=(SlP.cells hn hv i hi).1
  rw [World.cell?_of_block (w:=w) (a:=⟨b,o+i * 2,none⟩) (hu.block b (block_lt_of_cell h1) (by simpa using hbne))]
  exact h1
 obtain ⟨k0,hk0⟩:∃x,x=(l.getD 0 (noStr,noStr)).1:=⟨_,rfl⟩
 obtain ⟨k1,hk1⟩:∃x,x=(l.getD j (noStr,noStr)).1:=⟨_,rfl⟩
 have HC0:Hid (∀W,UpdS [gc] w W→W.cell? ⟨b,o+0 * 2,none⟩=some (.string k0)):=by rw [hk0];exact hcell 0 (by omega)
 have HC1:Hid (∀W,UpdS [gc] w W→W.cell? ⟨b,o+j * 2,none⟩=some (.string k1)):=by rw [hk1];exact hcell j (by omega)
 have hl0:Op.bytesLess k0.toList []=false:=less_nil k0
 have hji:((j:Int)+1 - 1)=(j:Int):=by omega
 have hm:=Mem.ownS hr
 clear hr hv hn hcell hk0 hk1 hbne
 go_enter Tryz.func66,Tryz.ntmps66
 go_wp2_with (first
  | ((with_reducible refine aa (some 6) (.box 84 (.tmp 1)) ?_);refine ak [.slice (some ⟨b,o,none⟩) (j+1) c,.slice none 0 0,.slice none 0 0] rfl hm ?_;clear hm;intro w1 g6 hm)
  | ((with_reducible refine aa (some 14) (.load 3 (.tmp 13)) ?_);refine ai 1 2 (.int .i64 0) hm rfl rfl em rfl ?_)
  | ((with_reducible refine aa none (.store 3 (.tmp 19) (.tmp 17)) ?_);go_must (refine aD 1 2 (.int .i64 1) hm rfl rfl rfl sz_int (by simp) rfl rfl ?_);clear hm;intro w2 hm;replace hm:Mem w [gc] w2 [(g6,[.slice (some ⟨b,o,none⟩) (j+1) c,.slice none 0 0,.slice none 0 0],84),(gc,[.pointer (some ⟨gp,0,none⟩),.map (some q),.int .i64 1,.int .i64 0],96)]:=hm)
  | ((with_reducible refine aa (some 23) (.load 3 (.tmp 22)) ?_);refine ai 1 2 (.int .i64 1) hm rfl rfl em rfl ?_)
  | ((with_reducible refine aa (some 26) (.load 84 (.tmp 6)) ?_);obtain ⟨fs,hfs⟩:=aS;go_must (refine am 0 hm rfl rfl _ hfs rfl 3 aA rfl ?_);clear hfs fs)
  | (go_at_call 102;refine (jS _ _ _ _).mono ?_;rintro e w3 ⟨he,hb⟩;rw [HE.out ()] at he;subst he;have HB3:Hid (Below w2.heap.size w2 w3):=hb;replace hm:=hm.call hb;clear hb)
  | ((with_reducible refine aa (some 31) (.load 28 (.tmp 30)) ?_);refine ai 0 0 (.slice (some ⟨b,o,none⟩) (j+1) c) hm rfl rfl bZ rfl ?_)
  | ((with_reducible refine aa (some 32) (.indexAddr 28 (.tmp 31) (.const (.int .i64 0))) ?_);go_must (refine ae (.pointer (some ⟨b,o+0 * 2,none⟩)) rfl (aV 0 rfl rfl rfl (by omega)) ?_))
  | ((with_reducible refine aa (some 34) (.load 9 (.tmp 33)) ?_);go_must (refine ae (.string k0) rfl (aj (.string k0) (HC0.out _ hm.upds) rfl a8) ?_))
  | ((with_reducible refine aM (some 39) (.load 28 (.tmp 38)) (some (7,false)) ?_);go_must (refine ae (.slice (some ⟨b,o,none⟩) (j+1) c) rfl (aj (.slice (some ⟨b,o,none⟩) (j+1) c) (((hm.get 0 rfl).cell 0).trans rfl) rfl bZ) ?_))
  | ((with_reducible refine aM (some 41) (.load 28 (.tmp 40)) (some (7,false)) ?_);go_must (refine ae (.slice (some ⟨b,o,none⟩) (j+1) c) rfl (aj (.slice (some ⟨b,o,none⟩) (j+1) c) (((hm.get 0 rfl).cell 0).trans rfl) rfl bZ) ?_))
  | ((with_reducible refine aM (some 44) (.indexAddr 28 (.tmp 39) (.tmp 43)) (some (7,false)) ?_);go_must (refine ae (.pointer (some ⟨b,o+j * 2,none⟩)) rfl (aV j rfl rfl (by first|rfl|omega|(simp;omega)) (by omega)) ?_))
  | ((with_reducible refine aM (some 46) (.load 9 (.tmp 45)) (some (7,false)) ?_);go_must (refine ae (.string k1) rfl (aj (.string k1) (HC1.out _ hm.upds) rfl a8) ?_))
  | (go_at_call 67;refine (isBelow_nil _ _).mono ?_;rintro e w4 ⟨rfl,hw⟩;replace hw:=hw.symm;subst hw))
 go_ret
 exact ⟨rfl,hm.upds,hm.get 1 rfl⟩
theorem chkleaf_any (gp q gc c:Nat) (p:Option Addr) (l:List Pr) (hnl:l.length≤1000) (w:World) (hr:Row w gc [.pointer (some ⟨gp,0,none⟩),.map (some q),.int .i64 0,.int .i64 0] 96) (hv:SlP w (.slice p l.length c) l) :
  Calls Tryz.prog 66 #[.pointer (some ⟨gc,0,none⟩),.agg (List.toArray [.slice p l.length c,.slice none 0 0,.slice none 0 0]),.int .i64 1,.string {data:=#[]},.string {data:=#[]}] w fun e w'=>e=.returned (.int .i64 0)∧UpdS [gc] w w'∧Row w' gc [.pointer (some ⟨gp,0,none⟩),.map (some q),.int .i64 1,.int .i64 0] 96:=by
 rcases Nat.eq_zero_or_pos l.length with h0|h0
 ·rw [h0]
  exact chkleaf_none gp q gc c p w hr
 ·obtain ⟨b,o,hp⟩:=SlP.at hv rfl h0
  subst hp
  exact chkleaf_some gp q gc c l.length b o l rfl h0 hnl w hr hv
theorem chkpage_leaf {w0:World} {gp g mb:Nat} {kv:Value} {kP:List Int} {pg k:Nat} {U:Nat→Option (Option (List Int))} {L:Nat→Option (List Int)} {root:Int} {mt:ByteArray} (gc:Nat) (hpg:pg≤400) (q r:Nat) (l:List Pr) (hU:U r=some (some (leafB l))) (hr32:r<4294967296) (hlc:leafCode l=0) (w1 w:World) (hS:PgS w0 w1 gp g mb kv kP pg k U L root mt) (hb:Below w1.heap.size w1 w) (hq:w1.heap.size≤q) (hmap:w.heap[q]?=some (.map #[] 0)) (hll:l.length≤1000) (hgc:Row w gc [.pointer (some ⟨gp,0,none⟩),.map (some q),.int .i64 0,.int .i64 0] 96) :
  Calls Tryz.prog 36 #[.pointer (some ⟨gc,0,none⟩),.int .u32 (r:Int),.int .i64 1,.string {data:=#[]},.string {data:=#[]}] w fun e w'=>e=.returned (.int .i64 0)∧UpdS [q,gc] w w'∧Row w' gc [.pointer (some ⟨gp,0,none⟩),.map (some q),.int .i64 1,.int .i64 0] 96:=by
 have HGC:Hid (Row w gc [.pointer (some ⟨gp,0,none⟩),.map (some q),.int .i64 0,.int .i64 0] 96):=hgc
 have HNQ:Hid (gc ∉ [q]):=by
  intro e
  simp only [List.mem_cons,List.not_mem_nil,or_false] at e
  exact ax hgc hmap e
 clear hgc
 have HS:Hid (PgS w0 w1 gp g mb kv kP pg k U L root mt):=hS
 have HB:Hid (Below w1.heap.size w1 w∧w1.heap.size≤q):=⟨hb,hq⟩
 have HM:Hid (w.heap[q]?=some (.map #[] 0)):=hmap
 have HQL:Hid (q<w.heap.size):=(Array.getElem?_eq_some_iff.1 hmap).1
 have HUU:Hid (U r=some (some (leafB l))):=hU
 have HLC:Hid (leafCode l=0):=hlc
 have hm:=Mem.start w
 clear hS hb hq hmap hU hlc
 go_enter Tryz.func36,Tryz.ntmps36
 go_wp2_with (first
  | ((with_reducible refine aa (some 21) (.load 78 (.tmp 20)) ?_);obtain ⟨fs,hfs⟩:=fq;go_must (refine ae (.agg (List.toArray [.pointer (some ⟨gp,0,none⟩),.map (some q)])) rfl (ao 0 [.pointer (some ⟨gp,0,none⟩),.map (some q)] HGC.out rfl _ hfs rfl 2 dK (by simp) rfl) ?_);clear hfs fs)
  | (go_at_call 55;refine (iQ hpg q r l HUU.out hr32 HLC.out w1 _ HS.out (HB.out.1.trans (hm.below.mono HB.out.1.size)) HB.out.2 ((hm.block q HQL.out (by simp)).trans HM.out)).mono ?_;rintro e w2 ⟨pl,cl,rfl,hvl,hu⟩;have HVL:Hid (SlP w2 (.slice pl l.length cl) l):=hvl;replace HGC:Hid (Row w2 gc [.pointer (some ⟨gp,0,none⟩),.map (some q),.int .i64 0,.int .i64 0] 96):=hu.row HGC.out HNQ.out;replace hm:=Mem.onlyQ hm hu HQL.out;clear hu hvl)
  | ((with_reducible refine aa (some 11) (.alloc 84) ?_);go_must (refine az _ be hm ?_);clear hm;intro w3 g11 hb8 hm;replace HVL:Hid (SlP w3 (.slice pl l.length cl) l):=SlV.below HVL.out hb8;replace HGC:Hid (Row w3 gc [.pointer (some ⟨gp,0,none⟩),.map (some q),.int .i64 0,.int .i64 0] 96):=Row.below' HGC.out hb8;clear hb8)
  | ((with_reducible refine aa none (.store 84 (.tmp 11) (.tmp 24)) ?_);go_must (refine bn 0 [.slice pl l.length cl,.slice none 0 0,.slice none 0 0] hm rfl rfl rfl 3 aA rfl rfl (by intro u hu;simp only [List.mem_cons,List.not_mem_nil,or_false] at hu;rcases hu with rfl|rfl|rfl<;>rfl) ?_);have HRX:Hid (Row _ _ [.slice none 0 0,.slice none 0 0,.slice none 0 0] 84):=hm.get 0 rfl;clear hm;intro w4 hu hm;replace HVL:Hid (SlP w4 (.slice pl l.length cl) l):=SlP.turned HVL.out HRX.out (bN none 0 0) hu;replace HGC:Hid (Row w4 gc [.pointer (some ⟨gp,0,none⟩),.map (some q),.int .i64 0,.int .i64 0] 96):=hu.row HGC.out (aQ HGC.out HRX.out (by decide));clear hu HRX)
  | ((with_reducible refine aa (some 43) (.load 84 (.tmp 11)) ?_);obtain ⟨fs,hfs⟩:=aS;go_must (refine am 0 hm rfl rfl _ hfs rfl 3 aA rfl ?_);clear hfs fs)
  | (go_at_call 56;refine (ea _ _ _ _).mono ?_;rintro e w5 ⟨rfl,hb⟩;replace hm:=hm.call hb;replace HVL:Hid (SlP w5 (.slice pl l.length cl) l):=SlV.below HVL.out hb;replace HGC:Hid (Row w5 gc [.pointer (some ⟨gp,0,none⟩),.map (some q),.int .i64 0,.int .i64 0] 96):=Row.below' HGC.out hb;clear hb)
  | ((with_reducible refine aa (some 46) (.load 84 (.tmp 11)) ?_);obtain ⟨fs,hfs⟩:=aS;go_must (refine am 0 hm rfl rfl _ hfs rfl 3 aA rfl ?_);clear hfs fs)
  | (go_at_call 66;refine (chkleaf_any gp q gc cl pl l hll _ HGC.out HVL.out).mono ?_;rintro e w6 ⟨rfl,hu,hr6⟩;have H6:Hid (UpdS [q,gc] w w6∧Row w6 gc [.pointer (some ⟨gp,0,none⟩),.map (some q),.int .i64 1,.int .i64 0] 96):=⟨UpdS.two hm.upds hu,hr6⟩;clear hu hr6))
 go_ret
 exact ⟨rfl,H6.out.1,H6.out.2⟩
theorem check_leaf {w0:World} {gp g mb:Nat} {kv:Value} {kP:List Int} {pg k:Nat} {U:Nat→Option (Option (List Int))} {L:Nat→Option (List Int)} {root:Int} {mt:ByteArray} (hpg:pg≤400) (r:Nat) (l:List Pr) (hU:U r=some (some (leafB l))) (hr32:r<4294967296) (hs:Srt l) (hf:Fit l) (hz:szP l≤480) (hll:l.length≤400) (w:World) (hS:PgS w0 w gp g mb kv kP pg k U L root mt) :
  Calls Tryz.prog 22 #[.pointer (some ⟨gp,0,none⟩),.int .u32 (r:Int)] w fun e w'=>e=.returned (.int .i64 0)∧Below w.heap.size w w':=by
 have HS:Hid (PgS w0 w gp g mb kv kP pg k U L root mt):=hS
 have HUU:Hid (U r=some (some (leafB l))):=hU
 have HLC:Hid (leafCode l=0):=eV hs hf hz
 have hm:=Mem.start w
 clear hS hU hs hf
 go_enter Tryz.func22,Tryz.ntmps22
 go_wp2_with (first
  | (go_at_call 30;refine (bT gp _).mono ?_;rintro e w2 ⟨q,rfl,hq4,hqg,hb⟩;have HQ:Hid (w2.heap[q]?=some (.map #[] 0)):=hq4;have HQG:Hid (w.heap.size≤q):=Nat.le_trans hm.size hqg;replace hm:=hm.call hb;clear hb hq4 hqg)
  | ((with_reducible refine aa (some 9) (.build 96 #[(0,.tmp 8)]) ?_);go_must (refine aB [.pointer (some ⟨gp,0,none⟩),.map (some q),.int .i64 0,.int .i64 0] _ rfl (built_chk _ _) ?_))
  | ((with_reducible refine aa (some 5) (.alloc 96) ?_);go_must (refine az _ zero_chk hm ?_);clear hm;intro w3 gc hb5 hm;replace HQ:Hid (w3.heap[q]?=some (.map #[] 0)):=(hb5.block q (Array.getElem?_eq_some_iff.1 HQ.out).1).trans HQ.out;clear hb5)
  | ((with_reducible refine aa none (.store 96 (.tmp 5) (.tmp 9)) ?_);go_must (refine bn 0 [.pointer (some ⟨gp,0,none⟩),.map (some q),.int .i64 0,.int .i64 0] hm rfl rfl rfl 4 sz_chk rfl rfl (by intro u hu;simp only [List.mem_cons,List.not_mem_nil,or_false] at hu;rcases hu with rfl|rfl|rfl|rfl<;>rfl) ?_);have HRX:Hid (Row w3 gc _ 96):=hm.get 0 rfl;clear hm;intro w4 hu hm;replace HQ:Hid (w4.heap[q]?=some (.map #[] 0)):=(hu.block q (Array.getElem?_eq_some_iff.1 HQ.out).1 (fun e=>ax HRX.out HQ.out e.symm)).trans HQ.out;replace hm:Mem w [] w4 [(gc,[.pointer (some ⟨gp,0,none⟩),.map (some q),.int .i64 0,.int .i64 0],96)]:=hm;clear hu HRX)
  | (go_at_call 36;refine (chkpage_leaf gc hpg q r l HUU.out hr32 HLC.out w _ HS.out hm.below HQG.out HQ.out (by omega) (hm.get 0 rfl)).mono ?_;rintro e w5 ⟨rfl,hu,hr5⟩;replace hm:=Mem.new2 hm hu HQG.out HQ.out hr5;clear hu hr5 HQ)
  | ((with_reducible refine aa (some 16) (.load 31 (.tmp 15)) ?_);refine ai 0 3 (.int .i64 0) hm rfl rfl ag_erT rfl ?_))
 go_ret
 exact ⟨rfl,hm.below⟩
open Go Go.RowKit Go.Maps
def leS (a b:ByteArray):Bool:=less a b||a.toList==b.toList
def ahS (to key:ByteArray):Bool:=decide (to=noStr)||less key to
def scanK (l:List Pr) (fr to:ByteArray) (M:Int):Nat→List Pr
 | 0=>[]
 | k+1=>if (leS fr (l.getD k (noStr,noStr)).1&&(ahS to (l.getD k (noStr,noStr)).1&&decide (((scanK l fr to M k).length:Int)<M)))=true then scanK l fr to M k++[l.getD k (noStr,noStr)] else scanK l fr to M k
theorem j0 (l:List Pr) (fr to:ByteArray) (M:Int):∀k,(scanK l fr to M k).length≤k
 | 0=>Nat.le_refl _
 | k+1=>by
  rw [scanK]
  have:=j0 l fr to M k
  split
  ·rw [List.length_append];simp;omega
  ·omega
structure Sc (gp q gs:Nat) (fr to:ByteArray) (M:Int) (wB wr:World) (v:Value) (F:List Pr):Prop where
 lt:gs<wB.heap.size
 row0:Row wB gs [.pointer (some ⟨gp,0,none⟩),.map (some q),.string fr,.string to,.int .i64 M,.slice none 0 0] 92
 upd:UpdS [gs] wB wr
 row:Row wr gs [.pointer (some ⟨gp,0,none⟩),.map (some q),.string fr,.string to,.int .i64 M,v] 92
 own:wr.ownsRow wB.heap.size 44 2 v F.length (prs F)
section
variable {gp q gs:Nat} {fr to:ByteArray} {M:Int} {wB wr W w9 wA:World} {v v':Value} {F:List Pr}
theorem Sc.start (h:Row wB gs [.pointer (some ⟨gp,0,none⟩),.map (some q),.string fr,.string to,.int .i64 M,.slice none 0 0] 92):Sc gp q gs fr to M wB wB (.slice none 0 0) []:=⟨h.lt,h,UpdS.refl _ _,h,World.ownsRow_nil _ _ _ _⟩
theorem Sc.below (h:Sc gp q gs fr to M wB wr v F) (hb:Below wr.heap.size wr W):Sc gp q gs fr to M wB W v F :=
 ⟨h.lt,h.row0,h.upd.trans (UpdS.of_below hb),Row.below' h.row hb,bM h.own hb⟩
theorem Sc.str (h:Sc gp q gs fr to M wB wr v F) {b o:Nat} {s:ByteArray} (hc:wB.cell? ⟨b,o,none⟩=some (.string s)):wr.cell? ⟨b,o,none⟩=some (.string s):=by
 by_cases e:b=gs
 ·subst e
  rw [h.row0.cell] at hc
  rw [h.row.cell]
  match o,hc with
  | 0,hc=>exact hc
  | 1,hc=>exact hc
  | 2,hc=>exact hc
  | 3,hc=>exact hc
  | 4,hc=>exact hc
  | 5,hc=>simp at hc
  | n+6,hc=>simp at hc
 ·rw [World.cell?_of_block (w:=wB) (a:=⟨b,o,none⟩) (h.upd.block b (block_lt_of_cell hc) (by simpa using e))]
  exact hc
theorem Sc.form (h:Sc gp q gs fr to M wB wr v F):∃p c,v=.slice p F.length c:=by
 obtain ⟨_,h2⟩:=h.own
 rcases h2 with ⟨h3,h4⟩|⟨g,cap,cur,h3,_⟩
 ·exact ⟨none,0,by rw [h3,h4]⟩
 ·exact ⟨_,_,h3⟩
theorem Sc.ownN (h:Sc gp q gs fr to M wB wr v F) {n:Nat} (hn:F.length=n):wr.ownsRow wB.heap.size 44 2 v n (prs F):=by subst hn;exact h.own
theorem gE {g n:Nat} {L cs:List Value} {t:TypeId} {B:Nat} (hr:Row W g L t) (ho:W.ownsRow B 44 2 v n cs) (ht:t≠44) (hg:W.grownBy w9 v.ownBlock):Row w9 g L t:=by
 have hne:some g≠v.ownBlock:=by
  rcases ho.2 with ⟨h3,_⟩|⟨g',cap,cur,h3,_,hh,_⟩
  ·rw [h3];simp [Value.ownBlock]
  ·rw [h3]
   intro e
   simp only [Value.ownBlock,Option.some.injEq] at e
   subst e
   unfold Row at hr
   rw [hr] at hh
   simp only [Option.some.injEq,Obj.cells.injEq] at hh
   exact ht hh.2.1
 unfold Row
 rw [hg.block g hr.lt hne]
 exact hr
theorem own_updP {g n:Nat} {L cs:List Value} {t:TypeId} {B:Nat} (ho:w9.ownsRow B 44 2 v n cs) (hr:Row w9 g L t) (ht:t≠44) (hu:UpdS [g] w9 wA):wA.ownsRow B 44 2 v n cs:=by
 refine ⟨ho.1,?_⟩
 rcases ho.2 with h3|⟨g',cap,cur,h3,hb,hh,rest⟩
 ·exact Or.inl h3
 ·refine Or.inr ⟨g',cap,cur,h3,hb,?_,rest⟩
  rw [hu.block g' (Array.getElem?_eq_some_iff.1 hh).1 ?_]
  ·exact hh
  ·intro e
   simp only [List.mem_cons,List.not_mem_nil,or_false] at e
   subst e
   unfold Row at hr
   rw [hr] at hh
   simp only [Option.some.injEq,Obj.cells.injEq] at hh
   exact ht hh.2.1
theorem Sc.app {kk vv:ByteArray} (h:Sc gp q gs fr to M wB W v F) (ho:w9.ownsRow wB.heap.size 44 2 v' (F.length+1) (prs F++[.string kk,.string vv])) (hg:W.grownBy w9 v.ownBlock)
  (hu:UpdS [gs] w9 wA) (hr:Row wA gs [.pointer (some ⟨gp,0,none⟩),.map (some q),.string fr,.string to,.int .i64 M,v'] 92):Sc gp q gs fr to M wB wA v' (F++[(kk,vv)]):=by
 have hr9:Row w9 gs [.pointer (some ⟨gp,0,none⟩),.map (some q),.string fr,.string to,.int .i64 M,v] 92:=gE h.row h.own (by decide) hg
 refine ⟨h.lt,h.row0,⟨hu.os.trans (hg.os.trans h.upd.os),hu.tape.trans (hg.tape.trans h.upd.tape),hu.output.trans (hg.output.trans h.upd.output),Nat.le_trans h.upd.size (Nat.le_trans hg.size hu.size),fun k hk hn=>?_⟩,hr,?_⟩
 ·have h1:=Nat.lt_of_lt_of_le hk h.upd.size
  rw [hu.block k (Nat.lt_of_lt_of_le h1 hg.size) hn,hg.block k h1 (fun e=>?_),h.upd.block k hk hn]
  have h2:=(World.ownsRow.lt h.own k e.symm).1
  omega
 ·rw [List.length_append,cX]
  exact own_updP ho hr9 (by decide) hu
end
theorem iX {a:Act} {w:World} {dst:Option Tmp} {typ:TypeId} {pos:String} {aft:Array Edge} {gd:Option (Nat×Bool)} {t:TypeId} {x y:Operand} {rt:TypeId} (s s':ByteArray) (v:Bool) (hx:a.eval x=.string s) (hy:a.eval y=.string s') (hv:leS s s'=v) :
  (execOp a.eval {dst:=dst,op:=.binOp .leq t x y rt,type:=typ,pos:=pos,after:=aft,guard:=gd}).run Tryz.prog w=.ok (.value (.bool v)) w:=by
 subst hv
 unfold execOp leS
 simp only [hx,hy]
 simp [eqGuard,binOp,Op.stringOp,less]
theorem exec_eqls {a:Act} {w:World} {dst:Option Tmp} {typ:TypeId} {pos:String} {aft:Array Edge} {gd:Option (Nat×Bool)} {x y:Operand} (s s':ByteArray) (v:Bool) (hx:a.eval x=.string s) (hy:a.eval y=.string s') (hv:decide (s=s')=v) :
  (execOp a.eval {dst:=dst,op:=.binOp .eql 9 x y 9,type:=typ,pos:=pos,after:=aft,guard:=gd}).run Tryz.prog w=.ok (.value (.bool v)) w:=by
 unfold execOp
 simp only [hx,hy]
 simp [eqGuard,binOp,go_sem,Op.stringOp]
 rw [←hv]
 by_cases e:s=s'
 ·subst e;simp
 ·have e2:¬s.toList=s'.toList:=fun h=>e (ba_ext h)
  simp [e,e2]
theorem exec_lsss {a:Act} {w:World} {dst:Option Tmp} {typ:TypeId} {pos:String} {aft:Array Edge} {gd:Option (Nat×Bool)} {t:TypeId} {x y:Operand} {rt:TypeId} (s s':ByteArray) (v:Bool) (hx:a.eval x=.string s) (hy:a.eval y=.string s') (hv:less s s'=v) :
  (execOp a.eval {dst:=dst,op:=.binOp .lss t x y rt,type:=typ,pos:=pos,after:=aft,guard:=gd}).run Tryz.prog w=.ok (.value (.bool v)) w:=by
 subst hv
 unfold execOp
 simp only [hx,hy]
 simp [eqGuard,binOp,Op.stringOp,less]
theorem kA (gp q gs:Nat) (fr to key:ByteArray) (M:Int) (v:Value) (w:World) (hr:Row w gs [.pointer (some ⟨gp,0,none⟩),.map (some q),.string fr,.string to,.int .i64 M,v] 92) :
  Calls Tryz.prog 65 #[.pointer (some ⟨gs,0,none⟩),.string key] w fun e w'=>e=.returned (.bool (ahS to key))∧w'=w:=by
 have HR:Hid (Row w gs [.pointer (some ⟨gp,0,none⟩),.map (some q),.string fr,.string to,.int .i64 M,v] 92):=hr
 clear hr
 unfold ahS
 cases h:decide (to=noStr) with
 | true =>
  have HE:Hid (decide (to=noStr)=true):=h
  clear h
  go_enter Tryz.func65,Tryz.ntmps65
  go_wp2_with (first
   | ((with_reducible refine aa (some 8) (.load 9 (.tmp 7)) ?_);go_must (refine ae (.string to) rfl (aj (.string to) ((HR.out.cell 3).trans rfl) rfl a8) ?_))
   | ((with_reducible refine aa (some 9) (.binOp .eql 9 (.tmp 8) (.const (.string {data:=#[]})) 9) ?_);go_must (refine ae (.bool true) rfl (exec_eqls to noStr true rfl rfl HE.out) ?_)))
  go_ret
  exact ⟨rfl,rfl⟩
 | false =>
  have HE:Hid (decide (to=noStr)=false):=h
  obtain ⟨c,hc⟩:∃c,c=less key to:=⟨_,rfl⟩
  have HC:Hid (less key to=c):=hc.symm
  rw [←hc]
  clear h hc
  go_enter Tryz.func65,Tryz.ntmps65
  go_wp2_with (first
   | ((with_reducible refine aa (some 8) (.load 9 (.tmp 7)) ?_);go_must (refine ae (.string to) rfl (aj (.string to) ((HR.out.cell 3).trans rfl) rfl a8) ?_))
   | ((with_reducible refine aa (some 9) (.binOp .eql 9 (.tmp 8) (.const (.string {data:=#[]})) 9) ?_);go_must (refine ae (.bool false) rfl (exec_eqls to noStr false rfl rfl HE.out) ?_))
   | ((with_reducible refine aM (some 15) (.load 9 (.tmp 14)) (some (5,false)) ?_);go_must (refine ae (.string to) rfl (aj (.string to) ((HR.out.cell 3).trans rfl) rfl a8) ?_))
   | ((with_reducible refine aM (some 16) (.binOp .lss 9 (.tmp 11) (.tmp 15) 9) (some (5,false)) ?_);go_must (refine ae (.bool c) rfl (exec_lsss key to c rfl rfl HC.out) ?_)))
  go_ret
  exact ⟨by simp,rfl⟩
end Go.Proofs.YtmlbjfklaehjnaaGreatDoor
