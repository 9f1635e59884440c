import Derived.Test.YtmlbjfklaehjnaaGreatDoorQc34
set_option maxRecDepth 100000
set_option maxHeartbeats 4000000
namespace Go.Proofs.YtmlbjfklaehjnaaGreatDoor
open Go Go.RowKit Go.Maps
theorem built_prT (k v:ByteArray):Tryz.prog.built 44 [(0,.string k),(1,.string v)]=some (List.toArray [.string k,.string v]):=by rfl
theorem Mem.newQ {w0 w w':World} {rows:List (Nat×List Value×TypeId)} {q c:Nat} {es:Array MapEntry} (hm:Mem w0 [] w rows) (hu:UpdS [q] w w') (hq:w0.heap.size≤q) (hmap:w.heap[q]?=some (.map es c)):Mem w0 [] w' rows:=by
 refine ⟨hu.os.trans hm.os,hu.tape.trans hm.tape,hu.output.trans hm.output,Nat.le_trans hm.size hu.size,fun k hk _=>(hu.block k (Nat.lt_of_lt_of_le hk hm.size) (by simp only [List.mem_cons,List.not_mem_nil,or_false];omega)).trans (hm.block k hk (by simp)),fun r hr=>?_,hm.nodup,hm.fresh⟩
 refine hu.row (hm.row r hr) (fun e=>?_)
 simp only [List.mem_cons,List.not_mem_nil,or_false] at e
 exact ax (hm.row r hr) hmap e
theorem ins_is (l:List Pr) (k v:ByteArray):lows l k++[(k,v)]++highs l k=insP l k v:=by unfold insP;rw [List.append_assoc];rfl
theorem insP_len (l:List Pr) (k v:ByteArray):(insP l k v).length≤l.length+1+l.length:=by
 unfold insP
 rw [List.length_append,List.length_cons]
 have h1:(lows l k).length≤l.length:=List.length_filter_le _ _
 have h2:(highs l k).length≤l.length:=List.length_filter_le _ _
 omega
theorem fit_big {l:List Pr} (h:Fit l):∀q∈l,q.1.size≤1152921504606846976∧q.2.size≤1152921504606846976:=by
 intro q hq
 have h1:=h q hq
 unfold fitK at h1
 simp only [Bool.and_eq_true,decide_eq_true_eq] at h1
 omega
theorem one_ok {k v:ByteArray} (hk:fitK k=true) (hv:v.size≤150):okPairs [(k,v)] 1=true∧szP [(k,v)]≤480:=by
 have h1:=hk
 unfold fitK at h1
 simp only [Bool.and_eq_true,decide_eq_true_eq] at h1
 refine ⟨ok_of (l:=[(k,v)]) (List.pairwise_singleton _ _) (fun p hp=>?_),?_⟩
 ·simp only [List.mem_cons,List.not_mem_nil,or_false] at hp
  subst hp
  exact ⟨hk,hv⟩
 ·unfold szP psz
  simp
  omega
theorem eV {l:List Pr} (hs:Srt l) (hf:Fit l) (hz:szP l≤480):leafCode l=0:=by
 unfold leafCode
 rw [ok_of hs hf,if_neg (by simp),if_neg (by omega)]
theorem put_leaf {w0:World} {gp g mb:Nat} {kv:Value} {kP:List Int} {pg k:Nat} {U:Nat→Option (Option (List Int))} {L:Nat→Option (List Int)} {root:Int} {mt:ByteArray} (hpg:pg≤400) (hk7:k<7000000) (i r:Nat) (l:List Pr) (key val:ByteArray) (hi:i<pg) (hfr:((U i).isSome||(L i).isSome)=false) (hlow:∀j,j<i→((U j).isSome||(L j).isSome)=true) (hU:U r=some (some (leafB l))) (hr32:r<4294967296) (hs:Srt l) (hf:Fit l) (hz:szP l≤480) (hll:l.length≤400) (hk:fitK key=true) (hv:val.size≤150) (hz2:szP (insP l key val)≤480) (w:World) (hS:PgS w0 w gp g mb kv kP pg k U L root mt) :
  Calls Tryz.prog 11 #[.pointer (some ⟨gp,0,none⟩),.int .u32 (r:Int),.string key,.string val] w fun e w'=>e=.returned (.tuple #[.int .u32 (i:Int),.int .i64 0])∧PgS w0 w' gp g mb kv kP pg (k+74) (upf (upf U i (some none)) i (some (some (leafB (insP l key val))))) L root mt∧Fr w w':=by
 have HS:Hid (PgS w0 w gp g mb kv kP pg k U L root mt):=hS
 have HFR:Hid (((U i).isSome||(L i).isSome)=false):=hfr
 have HLW:Hid (∀j,j<i→((U j).isSome||(L j).isSome)=true):=hlow
 have HUU:Hid (U r=some (some (leafB l))):=hU
 have HSR:Hid (Srt l∧Fit l):=⟨hs,hf⟩
 have HLC:Hid (leafCode l=0):=eV hs hf hz
 have HONE:Hid (okPairs [(key,val)] 1=true∧szP [(key,val)]≤480):=one_ok hk hv
 obtain ⟨R,hR⟩:∃R,R=insP l key val:=⟨_,rfl⟩
 have HRI:Hid (∀_:Unit,lows l key++[(key,val)]++highs l key=R):=fun _=>(ins_is l key val).trans hR.symm
 have HRO:Hid (okPairs R R.length=true∧(∀q∈R,q.1.size≤1152921504606846976∧q.2.size≤1152921504606846976)∧R.length≤1000):=by
  rw [hR]
  exact ⟨ok_of (insP_srt hs) (lL hf hk hv),fit_big (lL hf hk hv),by have:=insP_len l key val;omega⟩
 rw [←hR] at hz2 ⊢
 have hm:=Mem.start w
 clear hS hfr hlow hU hs hf hR hk hv
 go_enter Tryz.func11,Tryz.ntmps11
 go_wp2_with (first
  | ((with_reducible refine aa (some 19) (.build 44 #[(0,.tmp 17),(1,.tmp 18)]) ?_);go_must (refine aB [.string key,.string val] _ rfl (built_prT _ _) ?_))
  | ((with_reducible refine aa (some 20) (.buildSlice 28 1 #[(0,.tmp 19)]) ?_);go_must (refine fE key val rfl rfl hm ?_);clear hm;intro w2 gi hm)
  | (go_at_call 29;refine (kp [(key,val)] 1 _ rfl (by omega) HONE.out.1 HONE.out.2 _ (jE (l:=[(key,val)]) rfl (hm.get 0 rfl))).mono ?_;rintro e w3 ⟨gb,rfl,hgb,hrb,hb⟩;replace hm:=hm.call hb;clear hb hrb hgb)
  | (go_at_call 30;refine (bT gp _).mono ?_;rintro e w4 ⟨q,rfl,hq4,hqg,hb⟩;have HQ:Hid (w4.heap[q]?=some (.map #[] 0)):=hq4;have HQG:Hid (w.heap.size≤q):=Nat.le_trans hm.size hqg;replace hm:=hm.call hb;clear hb hq4 hqg)
  | ((with_reducible refine aa (some 13) (.alloc 78) ?_);go_must (refine az _ jU hm ?_);clear hm;intro w5 g13 hb5 hm;replace HQ:Hid (w5.heap[q]?=some (.map #[] 0)):=(hb5.block q (Array.getElem?_eq_some_iff.1 HQ.out).1).trans HQ.out;clear hb5)
  | ((with_reducible refine aa none (.store 78 (.tmp 13) (.tmp 30)) ?_);go_must (refine bn 0 [.pointer (some ⟨gp,0,none⟩),.map (some q)] hm rfl rfl rfl 2 dK rfl rfl (by intro u hu;simp only [List.mem_cons,List.not_mem_nil,or_false] at hu;rcases hu with rfl|rfl<;>rfl) ?_);have HRX:Hid (Row w5 g13 _ 78):=hm.get 0 rfl;clear hm;intro w6 hu hm;replace HQ:Hid (w6.heap[q]?=some (.map #[] 0)):=(hu.block q (Array.getElem?_eq_some_iff.1 HQ.out).1 (fun e=>ax HRX.out HQ.out e.symm)).trans HQ.out;clear hu HRX)
  | ((with_reducible refine aa (some 32) (.load 78 (.tmp 13)) ?_);obtain ⟨fs,hfs⟩:=fq;go_must (refine am 0 hm rfl rfl _ hfs rfl 2 dK rfl ?_);clear hfs fs)
  | (go_at_call 31;refine (dP key hpg q r l HUU.out hr32 HLC.out w _ HS.out hm.below HQG.out HQ.out).mono ?_;rintro e w7 ⟨pl,cl,rfl,hvl,hu⟩;have HVL:Hid (SlP w7 (.slice pl l.length cl) l):=hvl;replace hm:=Mem.newQ hm hu HQG.out HQ.out;clear hu hvl HQ)
  | ((with_reducible refine aa (some 15) (.alloc 84) ?_);go_must (refine az _ be hm ?_);clear hm;intro w8 g15 hb8 hm;replace HVL:Hid (SlP w8 (.slice pl l.length cl) l):=SlV.below HVL.out hb8;clear hb8)
  | ((with_reducible refine aa none (.store 84 (.tmp 15) (.tmp 37)) ?_);go_must (refine bn 0 [.slice pl l.length cl,.slice none 0 0,.slice none 0 0] hm rfl rfl rfl 3 aA rfl rfl (by intro u hu;simp only [List.mem_cons,List.not_mem_nil,or_false] at hu;rcases hu with rfl|rfl|rfl<;>rfl) ?_);have HRX:Hid (Row _ _ [.slice none 0 0,.slice none 0 0,.slice none 0 0] 84):=hm.get 0 rfl;clear hm;intro w9 hu hm;replace HVL:Hid (SlP w9 (.slice pl l.length cl) l):=SlP.turned HVL.out HRX.out (bN none 0 0) hu;clear hu HRX))
 replace hm:Mem w [] w9 [(g15,[.slice pl l.length cl,.slice none 0 0,.slice none 0 0],84),(g13,[.pointer (some ⟨gp,0,none⟩),.map (some q)],78),(gi,[.string key,.string val],44)]:=hm
 refine au ?_
 refine cL (T:=fun W=>Row W g13 [.pointer (some ⟨gp,0,none⟩),.map (some q)] 78∧Row W g15 [.slice pl l.length cl,.slice none 0 0,.slice none 0 0] 84) (by kernel_rfl) hm ?_
 clear hm
 intro wa hba hm
 replace HVL:Hid (SlP wa (.slice pl l.length cl) l):=SlV.below HVL.out hba
 have HRR:Hid (Row wa g13 [.pointer (some ⟨gp,0,none⟩),.map (some q)] 78∧Row wa g15 [.slice pl l.length cl,.slice none 0 0,.slice none 0 0] 84):=⟨hm.get 1 rfl,hm.get 0 rfl⟩
 clear hba
 obtain ⟨fs,hfs⟩:=aS
 obtain ⟨fr,hfr⟩:=fq
 refine aT 0 (v:=.agg (List.toArray [.pointer (some ⟨gp,0,none⟩),.map (some q)])) rfl (by kernel_rfl) rfl (fun W hW=>ao 0 [.pointer (some ⟨gp,0,none⟩),.map (some q)] hW.1 rfl _ hfr rfl 2 dK (Nat.le_refl 2) rfl) HRR.out ?_
 go_simp
 refine aT 1 (v:=.slice none 0 0) rfl (by kernel_rfl) rfl (fun W _=>by go_simp) HRR.out ?_
 go_simp
 refine aT 2 (v:=.agg (List.toArray [.slice pl l.length cl,.slice none 0 0,.slice none 0 0])) rfl (by kernel_rfl) rfl (fun W hW=>ao 0 [.slice pl l.length cl,.slice none 0 0,.slice none 0 0] hW.2 rfl _ hfs rfl 3 aA (Nat.le_refl 3) rfl) HRR.out ?_
 go_simp
 refine aT 3 (v:=.string key) rfl (by kernel_rfl) rfl (fun W _=>by go_simp) HRR.out ?_
 go_simp
 refine aT 4 (v:=.slice (some ⟨gi,0,none⟩) 1 1) rfl (by kernel_rfl) rfl (fun W _=>by go_simp) HRR.out ?_
 go_simp
 refine aO 5 (by kernel_rfl) rfl rfl ?_
 intro K hK
 go_wp2_with (go_at_call 33;refine (i0 l [(key,val)] pl _ l.length cl 1 1 key rfl rfl (by omega) (by omega) HSR.out.1 _ HVL.out (jE (l:=[(key,val)]) rfl (hm.get 2 rfl))).mono ?_;rintro e wb ⟨gq,N,rfl,hN,hgq,hrq,hb⟩;rw [HRI.out ()] at hN hrq;subst hN;have HRQ:Hid (Row wb gq (prs R) 44):=hrq;replace HRR:Hid (Row wb g13 [.pointer (some ⟨gp,0,none⟩),.map (some q)] 78∧Row wb g15 [.slice pl l.length cl,.slice none 0 0,.slice none 0 0] 84):=⟨Row.below' HRR.out.1 hb,Row.below' HRR.out.2 hb⟩;replace hm:=hm.call hb;clear hb hrq hgq)
 refine hK _ _ HRR.out ?_
 clear hK K
 refine aO 6 (by kernel_rfl) rfl rfl ?_
 intro K hK
 go_wp2_with (go_at_call 32;refine (kV q hpg hk7 i gq R.length R hi HFR.out HLW.out rfl HRO.out.2.2 HRO.out.1 HRO.out.2.1 hz2 _ (PgS.below HS.out hm.below) HRQ.out).mono ?_;rintro e wc ⟨rfl,hsc,hfc⟩;have HSC:Hid (PgS w0 wc gp g mb kv kP pg (k+74) (upf (upf U i (some none)) i (some (some (leafB R)))) L root mt∧Fr w wc):=⟨hsc,fun x hx hn=>ff (hm.block x hx (by simp)) hx hn hfc⟩;replace HRR:Hid (Row wc g13 [.pointer (some ⟨gp,0,none⟩),.map (some q)] 78∧Row wc g15 [.slice pl l.length cl,.slice none 0 0,.slice none 0 0] 84):=⟨cT (by unfold NotPg;decide) HRR.out.1 hfc,cT (by unfold NotPg;decide) HRR.out.2 hfc⟩;clear hsc hfc hm)
 refine hK _ _ HRR.out ?_
 clear hK K
 refine aT 7 (v:=.int .u32 (i:Int)) rfl (by kernel_rfl) rfl (fun W _=>by go_simp) HRR.out ?_
 go_simp
 refine aT 8 (v:=.int .i64 0) rfl (by kernel_rfl) rfl (fun W _=>by go_simp) HRR.out ?_
 go_simp
 refine aT 9 (v:=.int .u32 (i:Int)) rfl (by kernel_rfl) rfl (fun W _=>by go_simp) HRR.out ?_
 go_simp
 refine aT 10 (v:=.int .i64 0) rfl (by kernel_rfl) rfl (fun W _=>by go_simp) HRR.out ?_
 go_simp
 refine wpAnyH_done (by kernel_rfl) ?_ _
 simp only [endsIn]
 go_wp2_with fail
 go_ret2
 exact ⟨rfl,HSC.out.1,HSC.out.2⟩
open Go Go.RowKit Go.Maps
theorem get_had {w0:World} {gp g mb:Nat} {kv:Value} {kP:List Int} {pg k:Nat} {U:Nat→Option (Option (List Int))} {L:Nat→Option (List Int)} {root:Int} {mt:ByteArray} (key:ByteArray) (hpg:pg≤400) (r:Nat) (l:List Pr) (hU:U r=some (some (leafB l))) (hr32:r<4294967296) (hs:Srt l) (hf:Fit l) (hz:szP l≤480) (hll:l.length≤400) (hh:hadP l key=true) (w:World) (hS:PgS w0 w gp g mb kv kP pg k U L root mt) :
  Calls Tryz.prog 16 #[.pointer (some ⟨gp,0,none⟩),.int .u32 (r:Int),.string key] w fun e w'=>e=.returned (.tuple #[.string (l.getD (posP l key) (noStr,noStr)).2,.bool true,.int .i64 0])∧Below w.heap.size w w':=by
 have HS:Hid (PgS w0 w gp g mb kv kP pg k U L root mt):=hS
 have HUU:Hid (U r=some (some (leafB l))):=hU
 have HSR:Hid (Srt l):=hs
 have HLC:Hid (leafCode l=0):=eV hs hf hz
 have hm:=Mem.start w
 obtain ⟨P,hP⟩:∃P,P=posP l key:=⟨_,rfl⟩
 have HE:Hid (∀_:Unit,posP l key=P∧hadP l key=true):=fun _=>⟨hP.symm,hh⟩
 have hPl:P<l.length:=by
  have h1:=lr (k:=key) hs
  rw [hh,←hP] at h1
  exact of_decide_eq_true (Bool.and_eq_true _ _▸h1.symm:_∧_).1
 have hPi:(P:Int)<(l.length:Int):=by omega
 obtain ⟨vv,hvv⟩:∃v,v=(l.getD P (noStr,noStr)).2:=⟨_,rfl⟩
 have HVV:Hid (∀_:Unit,(l.getD P (noStr,noStr)).2=vv):=fun _=>hvv.symm
 rw [←hP,←hvv]
 clear hS hU hs hf hP hh hvv
 go_enter Tryz.func16,Tryz.ntmps16
 go_wp2_with (first
  | (go_at_call 30;refine (bT gp _).mono ?_;rintro e w2 ⟨q,rfl,hq4,hqg,hb⟩;have HQ:Hid (w2.heap[q]?=some (.map #[] 0)):=hq4;have HQG:Hid (w.heap.size≤q):=Nat.le_trans hm.size hqg;replace hm:=hm.call hb;clear hb hq4 hqg)
  | (go_at_call 31;refine (dP key hpg q r l HUU.out hr32 HLC.out w _ HS.out hm.below HQG.out HQ.out).mono ?_;rintro e w3 ⟨pl,cl,rfl,hvl,hu⟩;obtain ⟨bl,ol,hpl⟩:=SlP.at hvl rfl (by omega);subst hpl;have HVL:Hid (SlP w3 (.slice (some ⟨bl,ol,none⟩) l.length cl) l):=hvl;replace hm:=Mem.newQ hm hu HQG.out HQ.out;clear hu hvl HQ)
  | ((with_reducible refine aa (some 10) (.alloc 84) ?_);go_must (refine az _ be hm ?_);clear hm;intro w4 g10 hb8 hm;replace HVL:Hid (SlP w4 (.slice (some ⟨bl,ol,none⟩) l.length cl) l):=SlV.below HVL.out hb8;clear hb8)
  | ((with_reducible refine aa none (.store 84 (.tmp 10) (.tmp 21)) ?_);go_must (refine bn 0 [.slice (some ⟨bl,ol,none⟩) l.length cl,.slice none 0 0,.slice none 0 0] hm rfl rfl rfl 3 aA rfl rfl (by intro u hu;simp only [List.mem_cons,List.not_mem_nil,or_false] at hu;rcases hu with rfl|rfl|rfl<;>rfl) ?_);have HRX:Hid (Row _ _ [.slice none 0 0,.slice none 0 0,.slice none 0 0] 84):=hm.get 0 rfl;clear hm;intro w5 hu hm;replace HVL:Hid (SlP w5 (.slice (some ⟨bl,ol,none⟩) l.length cl) l):=SlP.turned HVL.out HRX.out (bN none 0 0) hu;clear hu HRX)
  | ((with_reducible refine aa (some 27) (.load 84 (.tmp 10)) ?_);obtain ⟨fs,hfs⟩:=aS;go_must (refine am 0 hm rfl rfl _ hfs rfl 3 aA rfl ?_);clear hfs fs)
  | (go_at_call 34;refine (fH l l.length cl _ key rfl (by omega) HSR.out _ HVL.out).mono ?_;rintro e w6 ⟨he,hb⟩;rw [(HE.out ()).1,(HE.out ()).2] at he;subst he;replace HVL:Hid (SlP w6 (.slice (some ⟨bl,ol,none⟩) l.length cl) l):=SlV.below HVL.out hb;replace hm:=hm.call hb;clear hb)
  | ((with_reducible refine aa (some 35) (.load 28 (.tmp 34)) ?_);refine ai 0 0 (.slice (some ⟨bl,ol,none⟩) l.length cl) hm rfl rfl bZ rfl ?_)
  | ((with_reducible refine aa (some 37) (.indexAddr 28 (.tmp 35) (.tmp 36)) ?_);go_must (refine ae (.pointer (some ⟨bl,ol+P * 2,none⟩)) rfl (aV P rfl rfl rfl hPl) ?_))
  | ((with_reducible refine aa (some 39) (.load 9 (.tmp 38)) ?_);go_must (refine ae (.string vv) rfl (aj (.string vv) (by rw [←HVV.out ()];exact (SlP.cells rfl HVL.out P hPl).2) rfl a8) ?_)))
 go_ret3
 exact ⟨rfl,hm.below⟩
theorem get_not {w0:World} {gp g mb:Nat} {kv:Value} {kP:List Int} {pg k:Nat} {U:Nat→Option (Option (List Int))} {L:Nat→Option (List Int)} {root:Int} {mt:ByteArray} (key:ByteArray) (hpg:pg≤400) (r:Nat) (l:List Pr) (hU:U r=some (some (leafB l))) (hr32:r<4294967296) (hs:Srt l) (hf:Fit l) (hz:szP l≤480) (hll:l.length≤400) (hh:hadP l key=false) (w:World) (hS:PgS w0 w gp g mb kv kP pg k U L root mt) :
  Calls Tryz.prog 16 #[.pointer (some ⟨gp,0,none⟩),.int .u32 (r:Int),.string key] w fun e w'=>e=.returned (.tuple #[.string {data:=#[]},.bool false,.int .i64 0])∧Below w.heap.size w w':=by
 have HS:Hid (PgS w0 w gp g mb kv kP pg k U L root mt):=hS
 have HUU:Hid (U r=some (some (leafB l))):=hU
 have HSR:Hid (Srt l):=hs
 have HLC:Hid (leafCode l=0):=eV hs hf hz
 have hm:=Mem.start w
 obtain ⟨P,hP⟩:∃P,P=posP l key:=⟨_,rfl⟩
 have HE:Hid (∀_:Unit,posP l key=P∧hadP l key=false):=fun _=>⟨hP.symm,hh⟩
 clear hS hU hs hf hP hh
 go_enter Tryz.func16,Tryz.ntmps16
 go_wp2_with (first
  | (go_at_call 30;refine (bT gp _).mono ?_;rintro e w2 ⟨q,rfl,hq4,hqg,hb⟩;have HQ:Hid (w2.heap[q]?=some (.map #[] 0)):=hq4;have HQG:Hid (w.heap.size≤q):=Nat.le_trans hm.size hqg;replace hm:=hm.call hb;clear hb hq4 hqg)
  | (go_at_call 31;refine (dP key hpg q r l HUU.out hr32 HLC.out w _ HS.out hm.below HQG.out HQ.out).mono ?_;rintro e w3 ⟨pl,cl,rfl,hvl,hu⟩;have HVL:Hid (SlP w3 (.slice pl l.length cl) l):=hvl;replace hm:=Mem.newQ hm hu HQG.out HQ.out;clear hu hvl HQ)
  | ((with_reducible refine aa (some 10) (.alloc 84) ?_);go_must (refine az _ be hm ?_);clear hm;intro w4 g10 hb8 hm;replace HVL:Hid (SlP w4 (.slice pl l.length cl) l):=SlV.below HVL.out hb8;clear hb8)
  | ((with_reducible refine aa none (.store 84 (.tmp 10) (.tmp 21)) ?_);go_must (refine bn 0 [.slice pl l.length cl,.slice none 0 0,.slice none 0 0] hm rfl rfl rfl 3 aA rfl rfl (by intro u hu;simp only [List.mem_cons,List.not_mem_nil,or_false] at hu;rcases hu with rfl|rfl|rfl<;>rfl) ?_);have HRX:Hid (Row _ _ [.slice none 0 0,.slice none 0 0,.slice none 0 0] 84):=hm.get 0 rfl;clear hm;intro w5 hu hm;replace HVL:Hid (SlP w5 (.slice pl l.length cl) l):=SlP.turned HVL.out HRX.out (bN none 0 0) hu;clear hu HRX)
  | ((with_reducible refine aa (some 27) (.load 84 (.tmp 10)) ?_);obtain ⟨fs,hfs⟩:=aS;go_must (refine am 0 hm rfl rfl _ hfs rfl 3 aA rfl ?_);clear hfs fs)
  | (go_at_call 34;refine (fH l l.length cl _ key rfl (by omega) HSR.out _ HVL.out).mono ?_;rintro e w6 ⟨he,hb⟩;rw [(HE.out ()).1,(HE.out ()).2] at he;subst he;replace HVL:Hid (SlP w6 (.slice pl l.length cl) l):=SlV.below HVL.out hb;replace hm:=hm.call hb;clear hb))
 go_ret3
 exact ⟨rfl,hm.below⟩
theorem count_leaf {w0:World} {gp g mb:Nat} {kv:Value} {kP:List Int} {pg k:Nat} {U:Nat→Option (Option (List Int))} {L:Nat→Option (List Int)} {root:Int} {mt:ByteArray} (hpg:pg≤400) (q r:Nat) (l:List Pr) (hU:U r=some (some (leafB l))) (hr32:r<4294967296) (hlc:leafCode l=0) (w1 w:World) (hS:PgS w0 w1 gp g mb kv kP pg k U L root mt) (hb:Below w1.heap.size w1 w) (hq:w1.heap.size≤q) (hmap:w.heap[q]?=some (.map #[] 0)) :
  Calls Tryz.prog 37 #[.agg (List.toArray [.pointer (some ⟨gp,0,none⟩),.map (some q)]),.int .u32 (r:Int)] w fun e w'=>e=.returned (.tuple #[.int .i64 (l.length:Int),.int .i64 0])∧UpdS [q] w w':=by
 have HS:Hid (PgS w0 w1 gp g mb kv kP pg k U L root mt):=hS
 have HB:Hid (Below w1.heap.size w1 w∧w1.heap.size≤q):=⟨hb,hq⟩
 have HM:Hid (w.heap[q]?=some (.map #[] 0)):=hmap
 have HQL:Hid (q<w.heap.size):=(Array.getElem?_eq_some_iff.1 hmap).1
 have HUU:Hid (U r=some (some (leafB l))):=hU
 have HLC:Hid (leafCode l=0):=hlc
 have hm:=Mem.start w
 clear hS hb hq hmap hU hlc
 go_enter Tryz.func37,Tryz.ntmps37
 go_wp2_with (first
  | ((with_reducible refine aa (some 2) (.box 78 (.tmp 0)) ?_);refine ak [.pointer (some ⟨gp,0,none⟩),.map (some q)] rfl hm ?_;clear hm;intro w2 g2 hm)
  | ((with_reducible refine aa (some 14) (.load 78 (.tmp 2)) ?_);obtain ⟨fs,hfs⟩:=fq;go_must (refine am 0 hm rfl rfl _ hfs rfl 2 dK rfl ?_);clear hfs fs)
  | (go_at_call 55;refine (iQ hpg q r l HUU.out hr32 HLC.out w1 _ HS.out (HB.out.1.trans (hm.below.mono HB.out.1.size)) HB.out.2 ((hm.block q HQL.out (by simp)).trans HM.out)).mono ?_;rintro e w3 ⟨pl,cl,rfl,hvl,hu⟩;have HVL:Hid (SlP w3 (.slice pl l.length cl) l):=hvl;replace hm:=Mem.onlyQ hm hu HQL.out;clear hu hvl)
  | ((with_reducible refine aa (some 6) (.alloc 84) ?_);go_must (refine az _ be hm ?_);clear hm;intro w4 g6 hb8 hm;replace HVL:Hid (SlP w4 (.slice pl l.length cl) l):=SlV.below HVL.out hb8;clear hb8)
  | ((with_reducible refine aa none (.store 84 (.tmp 6) (.tmp 17)) ?_);go_must (refine bn 0 [.slice pl l.length cl,.slice none 0 0,.slice none 0 0] hm rfl rfl rfl 3 aA rfl rfl (by intro u hu;simp only [List.mem_cons,List.not_mem_nil,or_false] at hu;rcases hu with rfl|rfl|rfl<;>rfl) ?_);have HRX:Hid (Row _ _ [.slice none 0 0,.slice none 0 0,.slice none 0 0] 84):=hm.get 0 rfl;clear hm;intro w5 hu hm;replace HVL:Hid (SlP w5 (.slice pl l.length cl) l):=SlP.turned HVL.out HRX.out (bN none 0 0) hu;clear hu HRX)
  | ((with_reducible refine aa (some 23) (.load 28 (.tmp 22)) ?_);refine ai 0 0 (.slice pl l.length cl) hm rfl rfl bZ rfl ?_)
  | ((with_reducible refine aa (some 26) (.load 82 (.tmp 25)) ?_);refine ai 0 2 (.slice none 0 0) hm rfl rfl dO rfl ?_))
 refine wp_loop_rounds 1 ?_
 rw [rounds_succ]
 go_wp2_with fail
 go_ret2
 exact ⟨rfl,hm.upds⟩
theorem len_leaf {w0:World} {gp g mb:Nat} {kv:Value} {kP:List Int} {pg k:Nat} {U:Nat→Option (Option (List Int))} {L:Nat→Option (List Int)} {root:Int} {mt:ByteArray} (hpg:pg≤400) (r:Nat) (l:List Pr) (hU:U r=some (some (leafB l))) (hr32:r<4294967296) (hs:Srt l) (hf:Fit l) (hz:szP l≤480) (w:World) (hS:PgS w0 w gp g mb kv kP pg k U L root mt) :
  Calls Tryz.prog 23 #[.pointer (some ⟨gp,0,none⟩),.int .u32 (r:Int)] w fun e w'=>e=.returned (.tuple #[.int .i64 (l.length:Int),.int .i64 0])∧Below w.heap.size w w':=by
 have HS:Hid (PgS w0 w gp g mb kv kP pg k U L root mt):=hS
 have HUU:Hid (U r=some (some (leafB l))):=hU
 have HSR:Hid (Srt l):=hs
 have HLC:Hid (leafCode l=0):=eV hs hf hz
 have hm:=Mem.start w
 clear hS hU hs hf
 go_enter Tryz.func23,Tryz.ntmps23
 go_wp2_with (first
  | (go_at_call 30;refine (bT gp _).mono ?_;rintro e w2 ⟨q,rfl,hq4,hqg,hb⟩;have HQ:Hid (w2.heap[q]?=some (.map #[] 0)):=hq4;have HQG:Hid (w.heap.size≤q):=Nat.le_trans hm.size hqg;replace hm:=hm.call hb;clear hb hq4 hqg)
  | (go_at_call 37;refine (count_leaf hpg q r l HUU.out hr32 HLC.out w _ HS.out hm.below HQG.out HQ.out).mono ?_;rintro e w3 ⟨rfl,hu⟩;replace hm:=Mem.newQ hm hu HQG.out HQ.out;clear hu HQ))
 go_ret2
 exact ⟨rfl,hm.below⟩
open Go Go.RowKit Go.Maps
theorem slp_nil {w:World} {n:Nat} {l:List Pr} (hn:l.length=n) (h0:n=0):SlP w (.slice none n n) l:=by
 subst h0
 have hl:=List.length_eq_zero_iff.1 hn
 subst hl
 exact ⟨_,_,rfl,Nat.le_refl _,rfl,fun h=>absurd h (by simp)⟩
theorem built_part0:Tryz.prog.built 84 []=some (List.toArray [.slice none 0 0,.slice none 0 0,.slice none 0 0]):=by rfl
theorem built_kid0 (g:Nat):Tryz.prog.built 137 [(1,.pointer (some ⟨g,0,none⟩))]=some (List.toArray [.int .u32 0,.pointer (some ⟨g,0,none⟩)]):=by rfl
theorem write_nil {w0:World} {gp g mb:Nat} {kv:Value} {kP:List Int} {pg k:Nat} {U:Nat→Option (Option (List Int))} {L:Nat→Option (List Int)} {root:Int} {mt:ByteArray} (g1:Nat) (hpg:pg≤400) (hk7:k<7000000) (i n:Nat) (h0:n=0) (l:List Pr) (hi:i<pg) (hfr:((U i).isSome||(L i).isSome)=false) (hlow:∀j,j<i→((U j).isSome||(L j).isSome)=true) (hn:l.length=n) (hnl:n≤1000) (hok:okPairs l n=true) (hsz:szP l≤480) (w:World) (hS:PgS w0 w gp g mb kv kP pg k U L root mt) (h1:Row w g1 [.slice none n n,.slice none 0 0,.slice none 0 0] 84) :
  Calls Tryz.prog 49 #[.pointer (some ⟨gp,0,none⟩),.agg (List.toArray [.int .u32 0,.pointer (some ⟨g1,0,none⟩)])] w fun e w'=>e=.returned (.tuple #[.int .u32 (i:Int),.int .i64 0])∧PgS w0 w' gp g mb kv kP pg (k+74) (upf (upf U i (some none)) i (some (some (leafB l)))) L root mt∧Fr w w':=by
 have HS:Hid (PgS w0 w gp g mb kv kP pg k U L root mt):=hS
 have H1:Hid (Row w g1 [.slice none n n,.slice none 0 0,.slice none 0 0] 84):=h1
 have H0:Hid (n=0):=h0
 have HOK:Hid (okPairs l n=true):=hok
 have HN:Hid (l.length=n):=hn
 have HFR:Hid (((U i).isSome||(L i).isSome)=false):=hfr
 have HLW:Hid (∀j,j<i→((U j).isSome||(L j).isSome)=true):=hlow
 have hm:=Mem.start w
 clear h0 hS h1 hok hn hfr hlow
 go_enter Tryz.func49,Tryz.ntmps49
 go_wp2_with (first
  | ((with_reducible refine aa (some 3) (.box 137 (.tmp 1)) ?_);refine ak [.int .u32 0,.pointer (some ⟨g1,0,none⟩)] rfl hm ?_;clear hm;intro w2 g3 hm)
  | ((with_reducible refine aa (some 12) (.load 137 (.tmp 3)) ?_);obtain ⟨fs,hfs⟩:=jn;go_must (refine am 0 hm rfl rfl _ hfs rfl 2 fm rfl ?_);clear hfs fs)
  | (go_at_call 84;refine (kJ g1 n n _ _ (Row.below' H1.out hm.below)).mono ?_;rintro e w3 ⟨rfl,hb⟩;replace hm:=hm.call hb;clear hb)
  | (go_at_call 83;refine (alloc_one hpg i hi HFR.out HLW.out _ (PgS.below HS.out hm.below)).mono ?_;rintro e w4 ⟨ba,oa,ca,rfl,hc4,hc1,hs4,hf4⟩;have HS4:Hid (PgS w0 w4 gp g mb kv kP pg k (upf U i (some none)) L root mt):=hs4;have HR4:Hid (Row w4 g3 [.int .u32 0,.pointer (some ⟨g1,0,none⟩)] 137∧Row w4 g1 [.slice none n n,.slice none 0 0,.slice none 0 0] 84∧True∧w4.cell? ⟨ba,oa,none⟩=some (.int .u32 (i:Int))):=⟨cT (by unfold NotPg;decide) (hm.get 0 rfl) hf4,cT (by unfold NotPg;decide) (Row.below' H1.out hm.below) hf4,trivial,hc4⟩;have HF4:Hid (Fr w w4):=fun q hq hn=>ff (hm.block q hq (by simp)) hq hn hf4;clear hm hc4 hc1 hs4 hf4;have hm:=Mem.start w4)
  | ((with_reducible refine aa (some 22) (.build 177 #[(0,.tmp 20),(1,.tmp 21)]) ?_);go_must (refine aB [.pointer (some ⟨gp,0,none⟩),.slice (some ⟨ba,oa,none⟩) 1 ca] _ rfl (built_wri _ _ _ _) ?_))
  | ((with_reducible refine aa (some 8) (.alloc 177) ?_);go_must (refine af _ zero_wri hm ?_);clear hm;intro w5 gw hm)
  | ((with_reducible refine aa none (.store 177 (.tmp 8) (.tmp 22)) ?_);go_must (refine ag 0 [.pointer (some ⟨gp,0,none⟩),.slice (some ⟨ba,oa,none⟩) 1 ca] hm rfl rfl rfl 2 sz_wri rfl rfl (by intro u hu;simp only [List.mem_cons,List.not_mem_nil,or_false] at hu;rcases hu with rfl|rfl<;>rfl) ?_);clear hm;intro w6 hm;have HGW:Hid (w4.heap.size≤gw):=(by have h9:=hm.fresh _ (List.mem_of_getElem? (i:=0) rfl);show _≤_;simpa using h9))
  | ((with_reducible refine aa (some 24) (.load 137 (.tmp 3)) ?_);obtain ⟨fs,hfs⟩:=jn;go_must (refine ae (.agg (List.toArray [.int .u32 0,.pointer (some ⟨g1,0,none⟩)])) rfl (ao 0 [.int .u32 0,.pointer (some ⟨g1,0,none⟩)] (Row.below' HR4.out.1 hm.below) rfl _ hfs rfl 2 fm (Nat.le_refl 2) rfl) ?_);clear hfs fs)
  | (go_at_call 85;go_loud (refine (k6 hpg hk7 i gw g1 ba oa ca n n _ l hi (by rw [upf_sameT];have h9:=HFR.out;rw [Bool.or_eq_false_iff] at h9;rw [h9.2];rfl) HN.out hnl HOK.out hsz _ (PgS.below HS4.out hm.below) (hm.get 0 rfl) (Nat.le_trans (PgS.bl HS4.out).size HGW.out) (Row.below' HR4.out.2.1 hm.below) (slp_nil HN.out H0.out) (dX HR4.out.2.2.2 hm.below)).mono ?_;rintro e w7 ⟨rfl,hs7,hf7⟩;have HS7:Hid (PgS w0 w7 gp g mb kv kP pg (k+74) (upf (upf U i (some none)) i (some (some (leafB l)))) L root mt∧Fr w w7):=⟨hs7,fr_two HF4.out hm HGW.out hf7⟩;clear hs7 hf7)))
 go_ret2
 exact ⟨rfl,HS7.out.1,HS7.out.2⟩
theorem empty_any {w0:World} {gp g mb:Nat} {kv:Value} {kP:List Int} {pg k:Nat} {U:Nat→Option (Option (List Int))} {L:Nat→Option (List Int)} {root:Int} {mt:ByteArray} (hpg:pg≤400) (hk7:k<7000000) (i:Nat) (hi:i<pg) (hfr:((U i).isSome||(L i).isSome)=false) (hlow:∀j,j<i→((U j).isSome||(L j).isSome)=true) (w:World) (hS:PgS w0 w gp g mb kv kP pg k U L root mt) :
  Calls Tryz.prog 28 #[.pointer (some ⟨gp,0,none⟩)] w fun e w'=>e=.returned (.tuple #[.int .u32 (i:Int),.int .i64 0])∧PgS w0 w' gp g mb kv kP pg (k+74) (upf (upf U i (some none)) i (some (some (leafB [])))) L root mt∧Fr w w':=by
 have HS:Hid (PgS w0 w gp g mb kv kP pg k U L root mt):=hS
 have HFR:Hid (((U i).isSome||(L i).isSome)=false):=hfr
 have HLW:Hid (∀j,j<i→((U j).isSome||(L j).isSome)=true):=hlow
 have hm:=Mem.start w
 clear hS hfr hlow
 go_enter Tryz.func28,Tryz.ntmps28
 go_wp2_with (first
  | ((with_reducible refine aa (some 5) (.build 84 #[]) ?_);go_must (refine aB [.slice none 0 0,.slice none 0 0,.slice none 0 0] _ rfl built_part0 ?_))
  | ((with_reducible refine aa (some 6) (.box 84 (.tmp 5)) ?_);refine ak [.slice none 0 0,.slice none 0 0,.slice none 0 0] rfl hm ?_;clear hm;intro w2 g6 hm)
  | ((with_reducible refine aa (some 7) (.build 137 #[(1,.tmp 6)]) ?_);go_must (refine aB [.int .u32 0,.pointer (some ⟨g6,0,none⟩)] _ rfl (built_kid0 _) ?_))
  | (go_at_call 49;refine (write_nil g6 hpg hk7 i 0 rfl [] hi HFR.out HLW.out rfl (by omega) rfl (by decide) _ (PgS.below HS.out hm.below) (hm.get 0 rfl)).mono ?_;rintro e w3 ⟨rfl,hs3,hf3⟩;have HS3:Hid (PgS w0 w3 gp g mb kv kP pg (k+74) (upf (upf U i (some none)) i (some (some (leafB [])))) L root mt∧Fr w w3):=⟨hs3,fun x hx hn=>ff (hm.block x hx (by simp)) hx hn hf3⟩;clear hs3 hf3))
 go_ret2
 exact ⟨rfl,HS3.out.1,HS3.out.2⟩
theorem put_bad (gp:Nat) (r:Int) (key val:ByteArray) (hc:leafCode [(key,val)]=90) (hk:key.size≤1000) (hv:val.size≤1000) (w:World) :
  Calls Tryz.prog 11 #[.pointer (some ⟨gp,0,none⟩),.int .u32 r,.string key,.string val] w fun e w'=>e=.returned (.tuple #[.int .u32 0,.int .i64 90])∧Below w.heap.size w w':=by
 have HC:Hid (leafCode [(key,val)]=90):=hc
 have HSZ:Hid (∀q∈[(key,val)],q.1.size≤1152921504606846976∧q.2.size≤1152921504606846976):=by
  intro q hq
  simp only [List.mem_cons,List.not_mem_nil,or_false] at hq
  subst hq
  exact ⟨by show key.size≤_;omega,by show val.size≤_;omega⟩
 have hm:=Mem.start w
 clear hc hk hv
 go_enter Tryz.func11,Tryz.ntmps11
 go_wp2_with (first
  | ((with_reducible refine aa (some 19) (.build 44 #[(0,.tmp 17),(1,.tmp 18)]) ?_);go_must (refine aB [.string key,.string val] _ rfl (built_prT _ _) ?_))
  | ((with_reducible refine aa (some 20) (.buildSlice 28 1 #[(0,.tmp 19)]) ?_);go_must (refine fE key val rfl rfl hm ?_);clear hm;intro w2 gi hm)
  | (go_at_call 29;refine (jP [(key,val)] _ (by show (1:Nat)≤1000;omega) HSZ.out _ (jE (l:=[(key,val)]) rfl (hm.get 0 rfl))).mono ?_;rintro e w3 ⟨vb,he,hvb,hb⟩;rw [HC.out] at he;subst he;replace hm:=hm.call hb;clear hb hvb))
 go_ret2
 exact ⟨rfl,hm.below⟩
theorem delete_not {w0:World} {gp g mb:Nat} {kv:Value} {kP:List Int} {pg k:Nat} {U:Nat→Option (Option (List Int))} {L:Nat→Option (List Int)} {root:Int} {mt:ByteArray} (key:ByteArray) (hpg:pg≤400) (r:Nat) (l:List Pr) (hU:U r=some (some (leafB l))) (hr32:r<4294967296) (hs:Srt l) (hf:Fit l) (hz:szP l≤480) (hll:l.length≤400) (hh:hadP l key=false) (w:World) (hS:PgS w0 w gp g mb kv kP pg k U L root mt) :
  Calls Tryz.prog 14 #[.pointer (some ⟨gp,0,none⟩),.int .u32 (r:Int),.string key] w fun e w'=>e=.returned (.tuple #[.int .u32 (r:Int),.bool false,.int .i64 0])∧Below w.heap.size w w':=by
 have HS:Hid (PgS w0 w gp g mb kv kP pg k U L root mt):=hS
 have HUU:Hid (U r=some (some (leafB l))):=hU
 have HSR:Hid (Srt l):=hs
 have HLC:Hid (leafCode l=0):=eV hs hf hz
 have hm:=Mem.start w
 obtain ⟨P,hP⟩:∃P,P=posP l key:=⟨_,rfl⟩
 have HE:Hid (∀_:Unit,posP l key=P∧hadP l key=false):=fun _=>⟨hP.symm,hh⟩
 clear hS hU hs hf hP hh
 go_enter Tryz.func14,Tryz.ntmps14
 go_wp2_with (first
  | (go_at_call 30;refine (bT gp _).mono ?_;rintro e w2 ⟨q,rfl,hq4,hqg,hb⟩;have HQ:Hid (w2.heap[q]?=some (.map #[] 0)):=hq4;have HQG:Hid (w.heap.size≤q):=Nat.le_trans hm.size hqg;replace hm:=hm.call hb;clear hb hq4 hqg)
  | ((with_reducible refine aa (some 9) (.alloc 78) ?_);go_must (refine az _ jU hm ?_);clear hm;intro w3 g9 hb5 hm;replace HQ:Hid (w3.heap[q]?=some (.map #[] 0)):=(hb5.block q (Array.getElem?_eq_some_iff.1 HQ.out).1).trans HQ.out;clear hb5)
  | ((with_reducible refine aa none (.store 78 (.tmp 9) (.tmp 16)) ?_);go_must (refine bn 0 [.pointer (some ⟨gp,0,none⟩),.map (some q)] hm rfl rfl rfl 2 dK rfl rfl (by intro u hu;simp only [List.mem_cons,List.not_mem_nil,or_false] at hu;rcases hu with rfl|rfl<;>rfl) ?_);have HRX:Hid (Row w3 g9 _ 78):=hm.get 0 rfl;clear hm;intro w4 hu hm;replace HQ:Hid (w4.heap[q]?=some (.map #[] 0)):=(hu.block q (Array.getElem?_eq_some_iff.1 HQ.out).1 (fun e=>ax HRX.out HQ.out e.symm)).trans HQ.out;clear hu HRX)
  | ((with_reducible refine aa (some 18) (.load 78 (.tmp 9)) ?_);obtain ⟨fs,hfs⟩:=fq;go_must (refine am 0 hm rfl rfl _ hfs rfl 2 dK rfl ?_);clear hfs fs)
  | (go_at_call 31;refine (dP key hpg q r l HUU.out hr32 HLC.out w _ HS.out hm.below HQG.out HQ.out).mono ?_;rintro e w5 ⟨pl,cl,rfl,hvl,hu⟩;have HVL:Hid (SlP w5 (.slice pl l.length cl) l):=hvl;replace hm:=Mem.newQ hm hu HQG.out HQ.out;clear hu hvl HQ)
  | ((with_reducible refine aa (some 11) (.alloc 84) ?_);go_must (refine az _ be hm ?_);clear hm;intro w6 g11 hb8 hm;replace HVL:Hid (SlP w6 (.slice pl l.length cl) l):=SlV.below HVL.out hb8;clear hb8)
  | ((with_reducible refine aa none (.store 84 (.tmp 11) (.tmp 23)) ?_);go_must (refine bn 0 [.slice pl l.length cl,.slice none 0 0,.slice none 0 0] hm rfl rfl rfl 3 aA rfl rfl (by intro u hu;simp only [List.mem_cons,List.not_mem_nil,or_false] at hu;rcases hu with rfl|rfl|rfl<;>rfl) ?_);have HRX:Hid (Row _ _ [.slice none 0 0,.slice none 0 0,.slice none 0 0] 84):=hm.get 0 rfl;clear hm;intro w7 hu hm;replace HVL:Hid (SlP w7 (.slice pl l.length cl) l):=SlP.turned HVL.out HRX.out (bN none 0 0) hu;clear hu HRX)
  | ((with_reducible refine aa (some 29) (.load 84 (.tmp 11)) ?_);obtain ⟨fs,hfs⟩:=aS;go_must (refine am 0 hm rfl rfl _ hfs rfl 3 aA rfl ?_);clear hfs fs)
  | (go_at_call 34;refine (fH l l.length cl _ key rfl (by omega) HSR.out _ HVL.out).mono ?_;rintro e w8 ⟨he,hb⟩;rw [(HE.out ()).1,(HE.out ()).2] at he;subst he;replace HVL:Hid (SlP w8 (.slice pl l.length cl) l):=SlV.below HVL.out hb;replace hm:=hm.call hb;clear hb))
 go_ret3
 exact ⟨rfl,hm.below⟩
theorem delete_had {w0:World} {gp g mb:Nat} {kv:Value} {kP:List Int} {pg k:Nat} {U:Nat→Option (Option (List Int))} {L:Nat→Option (List Int)} {root:Int} {mt:ByteArray} (key:ByteArray) (hpg:pg≤400) (r:Nat) (l:List Pr) (hU:U r=some (some (leafB l))) (hr32:r<4294967296) (hs:Srt l) (hf:Fit l) (hz:szP l≤480) (hll:l.length≤400) (hk7:k<7000000) (i:Nat) (hi:i<pg) (hfr:((U i).isSome||(L i).isSome)=false) (hlow:∀j,j<i→((U j).isSome||(L j).isSome)=true) (hz2:szP (delP l key)≤480) (hh:hadP l key=true) (w:World) (hS:PgS w0 w gp g mb kv kP pg k U L root mt) :
  Calls Tryz.prog 14 #[.pointer (some ⟨gp,0,none⟩),.int .u32 (r:Int),.string key] w fun e w'=>e=.returned (.tuple #[.int .u32 (i:Int),.bool true,.int .i64 0])∧PgS w0 w' gp g mb kv kP pg (k+74) (upf (upf U i (some none)) i (some (some (leafB (delP l key))))) L root mt∧Fr w w':=by
 have HS:Hid (PgS w0 w gp g mb kv kP pg k U L root mt):=hS
 have HUU:Hid (U r=some (some (leafB l))):=hU
 have HSR:Hid (Srt l):=hs
 have HLC:Hid (leafCode l=0):=eV hs hf hz
 have hm:=Mem.start w
 obtain ⟨P,hP⟩:∃P,P=posP l key:=⟨_,rfl⟩
 have HE:Hid (∀_:Unit,posP l key=P∧hadP l key=true):=fun _=>⟨hP.symm,hh⟩
 have HFR:Hid (((U i).isSome||(L i).isSome)=false):=hfr
 have HLW:Hid (∀j,j<i→((U j).isSome||(L j).isSome)=true):=hlow
 obtain ⟨R,hR⟩:∃R,R=delP l key:=⟨_,rfl⟩
 have HRI:Hid (∀_:Unit,lows l key++[]++highs l key=R):=fun _=>by rw [List.append_nil,hR];rfl
 have HRO:Hid (okPairs R R.length=true∧(∀q∈R,q.1.size≤1152921504606846976∧q.2.size≤1152921504606846976)∧R.length≤1000):=by
  rw [hR]
  refine ⟨ok_of (delP_srt hs) (mI hf),fit_big (mI hf),?_⟩
  unfold delP
  rw [List.length_append]
  have h1:(lows l key).length≤l.length:=List.length_filter_le _ _
  have h2:(highs l key).length≤l.length:=List.length_filter_le _ _
  omega
 rw [←hR] at hz2 ⊢
 clear hS hU hs hf hP hh hR hfr hlow
 go_enter Tryz.func14,Tryz.ntmps14
 go_wp2_with (first
  | (go_at_call 30;refine (bT gp _).mono ?_;rintro e w2 ⟨q,rfl,hq4,hqg,hb⟩;have HQ:Hid (w2.heap[q]?=some (.map #[] 0)):=hq4;have HQG:Hid (w.heap.size≤q):=Nat.le_trans hm.size hqg;replace hm:=hm.call hb;clear hb hq4 hqg)
  | ((with_reducible refine aa (some 9) (.alloc 78) ?_);go_must (refine az _ jU hm ?_);clear hm;intro w3 g9 hb5 hm;replace HQ:Hid (w3.heap[q]?=some (.map #[] 0)):=(hb5.block q (Array.getElem?_eq_some_iff.1 HQ.out).1).trans HQ.out;clear hb5)
  | ((with_reducible refine aa none (.store 78 (.tmp 9) (.tmp 16)) ?_);go_must (refine bn 0 [.pointer (some ⟨gp,0,none⟩),.map (some q)] hm rfl rfl rfl 2 dK rfl rfl (by intro u hu;simp only [List.mem_cons,List.not_mem_nil,or_false] at hu;rcases hu with rfl|rfl<;>rfl) ?_);have HRX:Hid (Row w3 g9 _ 78):=hm.get 0 rfl;clear hm;intro w4 hu hm;replace HQ:Hid (w4.heap[q]?=some (.map #[] 0)):=(hu.block q (Array.getElem?_eq_some_iff.1 HQ.out).1 (fun e=>ax HRX.out HQ.out e.symm)).trans HQ.out;clear hu HRX)
  | ((with_reducible refine aa (some 18) (.load 78 (.tmp 9)) ?_);obtain ⟨fs,hfs⟩:=fq;go_must (refine am 0 hm rfl rfl _ hfs rfl 2 dK rfl ?_);clear hfs fs)
  | (go_at_call 31;refine (dP key hpg q r l HUU.out hr32 HLC.out w _ HS.out hm.below HQG.out HQ.out).mono ?_;rintro e w5 ⟨pl,cl,rfl,hvl,hu⟩;have HVL:Hid (SlP w5 (.slice pl l.length cl) l):=hvl;replace hm:=Mem.newQ hm hu HQG.out HQ.out;clear hu hvl HQ)
  | ((with_reducible refine aa (some 11) (.alloc 84) ?_);go_must (refine az _ be hm ?_);clear hm;intro w6 g11 hb8 hm;replace HVL:Hid (SlP w6 (.slice pl l.length cl) l):=SlV.below HVL.out hb8;clear hb8)
  | ((with_reducible refine aa none (.store 84 (.tmp 11) (.tmp 23)) ?_);go_must (refine bn 0 [.slice pl l.length cl,.slice none 0 0,.slice none 0 0] hm rfl rfl rfl 3 aA rfl rfl (by intro u hu;simp only [List.mem_cons,List.not_mem_nil,or_false] at hu;rcases hu with rfl|rfl|rfl<;>rfl) ?_);have HRX:Hid (Row _ _ [.slice none 0 0,.slice none 0 0,.slice none 0 0] 84):=hm.get 0 rfl;clear hm;intro w7 hu hm;replace HVL:Hid (SlP w7 (.slice pl l.length cl) l):=SlP.turned HVL.out HRX.out (bN none 0 0) hu;clear hu HRX)
  | ((with_reducible refine aa (some 29) (.load 84 (.tmp 11)) ?_);obtain ⟨fs,hfs⟩:=aS;go_must (refine am 0 hm rfl rfl _ hfs rfl 3 aA rfl ?_);clear hfs fs)
  | (go_at_call 34;refine (fH l l.length cl _ key rfl (by omega) HSR.out _ HVL.out).mono ?_;rintro e w8 ⟨he,hb⟩;rw [(HE.out ()).1,(HE.out ()).2] at he;subst he;replace HVL:Hid (SlP w8 (.slice pl l.length cl) l):=SlV.below HVL.out hb;replace hm:=hm.call hb;clear hb))
 replace hm:Mem w [] w8 [(g11,[.slice pl l.length cl,.slice none 0 0,.slice none 0 0],84),(g9,[.pointer (some ⟨gp,0,none⟩),.map (some q)],78)]:=hm
 refine au ?_
 refine cL (T:=fun W=>Row W g9 [.pointer (some ⟨gp,0,none⟩),.map (some q)] 78∧Row W g11 [.slice pl l.length cl,.slice none 0 0,.slice none 0 0] 84) (by kernel_rfl) hm ?_
 clear hm
 intro wa hba hm
 replace HVL:Hid (SlP wa (.slice pl l.length cl) l):=SlV.below HVL.out hba
 have HRR:Hid (Row wa g9 [.pointer (some ⟨gp,0,none⟩),.map (some q)] 78∧Row wa g11 [.slice pl l.length cl,.slice none 0 0,.slice none 0 0] 84):=⟨hm.get 1 rfl,hm.get 0 rfl⟩
 clear hba
 obtain ⟨fs,hfs⟩:=aS
 obtain ⟨fr,hfr⟩:=fq
 refine aT 0 (v:=.agg (List.toArray [.pointer (some ⟨gp,0,none⟩),.map (some q)])) rfl (by kernel_rfl) rfl (fun W hW=>ao 0 [.pointer (some ⟨gp,0,none⟩),.map (some q)] hW.1 rfl _ hfr rfl 2 dK (Nat.le_refl 2) rfl) HRR.out ?_
 go_simp
 refine aT 1 (v:=.slice none 0 0) rfl (by kernel_rfl) rfl (fun W _=>by go_simp) HRR.out ?_
 go_simp
 refine aT 2 (v:=.agg (List.toArray [.slice pl l.length cl,.slice none 0 0,.slice none 0 0])) rfl (by kernel_rfl) rfl (fun W hW=>ao 0 [.slice pl l.length cl,.slice none 0 0,.slice none 0 0] hW.2 rfl _ hfs rfl 3 aA (Nat.le_refl 3) rfl) HRR.out ?_
 go_simp
 refine aT 3 (v:=.string key) rfl (by kernel_rfl) rfl (fun W _=>by go_simp) HRR.out ?_
 go_simp
 refine aO 4 (by kernel_rfl) rfl rfl ?_
 intro K hK
 go_wp2_with (go_at_call 33;refine (i0 l [] pl none l.length cl 0 0 key rfl rfl (by omega) (by omega) HSR.out _ HVL.out (slp_nil (l:=[]) rfl rfl)).mono ?_;rintro e wb ⟨gq,N,rfl,hN,hgq,hrq,hb⟩;rw [HRI.out ()] at hN hrq;subst hN;have HRQ:Hid (Row wb gq (prs R) 44):=hrq;replace HRR:Hid (Row wb g9 [.pointer (some ⟨gp,0,none⟩),.map (some q)] 78∧Row wb g11 [.slice pl l.length cl,.slice none 0 0,.slice none 0 0] 84):=⟨Row.below' HRR.out.1 hb,Row.below' HRR.out.2 hb⟩;replace hm:=hm.call hb;clear hb hrq hgq)
 refine hK _ _ HRR.out ?_
 clear hK K
 refine aO 5 (by kernel_rfl) rfl rfl ?_
 intro K hK
 go_wp2_with (go_at_call 32;refine (kV q hpg hk7 i gq R.length R hi HFR.out HLW.out rfl HRO.out.2.2 HRO.out.1 HRO.out.2.1 hz2 _ (PgS.below HS.out hm.below) HRQ.out).mono ?_;rintro e wc ⟨rfl,hsc,hfc⟩;have HSC:Hid (PgS w0 wc gp g mb kv kP pg (k+74) (upf (upf U i (some none)) i (some (some (leafB R)))) L root mt∧Fr w wc):=⟨hsc,fun x hx hn=>ff (hm.block x hx (by simp)) hx hn hfc⟩;replace HRR:Hid (Row wc g9 [.pointer (some ⟨gp,0,none⟩),.map (some q)] 78∧Row wc g11 [.slice pl l.length cl,.slice none 0 0,.slice none 0 0] 84):=⟨cT (by unfold NotPg;decide) HRR.out.1 hfc,cT (by unfold NotPg;decide) HRR.out.2 hfc⟩;clear hsc hfc hm)
 refine hK _ _ HRR.out ?_
 clear hK K
 refine aT 6 (v:=.tuple #[.int .u32 (i:Int),.int .i64 0]) rfl (by kernel_rfl) rfl (fun W _=>by go_simp) HRR.out ?_
 go_simp
 refine aT 7 (v:=.int .u32 (i:Int)) rfl (by kernel_rfl) rfl (fun W _=>by go_simp) HRR.out ?_
 go_simp
 refine aT 8 (v:=.int .i64 0) rfl (by kernel_rfl) rfl (fun W _=>by go_simp) HRR.out ?_
 go_simp
 refine aT 9 (v:=.int .u32 (i:Int)) rfl (by kernel_rfl) rfl (fun W _=>by go_simp) HRR.out ?_
 go_simp
 refine aT 10 (v:=.int .i64 0) rfl (by kernel_rfl) rfl (fun W _=>by go_simp) HRR.out ?_
 go_simp
 refine wpAnyH_done (by kernel_rfl) ?_ _
 simp only [endsIn]
 go_wp2_with fail
 go_ret3
 exact ⟨rfl,HSC.out.1,HSC.out.2⟩
end Go.Proofs.YtmlbjfklaehjnaaGreatDoor
