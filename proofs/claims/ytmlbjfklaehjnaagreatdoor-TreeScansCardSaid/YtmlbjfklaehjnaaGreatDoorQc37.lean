import Derived.Test.YtmlbjfklaehjnaaGreatDoorQc36
set_option maxRecDepth 100000
set_option maxHeartbeats 4000000
namespace Go.Proofs.YtmlbjfklaehjnaaGreatDoor
open Go Go.RowKit Go.Maps
theorem info_scn:(Tryz.prog.info? 92).map (fun i=>(i.zero,i.size))=some (some (.agg (List.toArray [.pointer none,.map none,.string noStr,.string noStr,.int .i64 0,.slice none 0 0])),6):=by kernel_rfl
theorem zero_scn:∀w,(zeroValue 92).run Tryz.prog w=.ok (.agg (List.toArray [.pointer none,.map none,.string noStr,.string noStr,.int .i64 0,.slice none 0 0])) w:=(zero_of_info info_scn).1
theorem sz_scn:(Tryz.prog.info? 92).map (·.size)=some 6:=by kernel_rfl
theorem built_scn (gp q:Nat) (fr to:ByteArray) (M:Int):Tryz.prog.built 92 [(0,.agg (List.toArray [.pointer (some ⟨gp,0,none⟩),.map (some q)])),(1,.string fr),(2,.string to),(3,.int .i64 M)]=some (List.toArray [.pointer (some ⟨gp,0,none⟩),.map (some q),.string fr,.string to,.int .i64 M,.slice none 0 0]):=by rfl
theorem lE:(Tryz.prog.info? 28).map (·.size)=some 1:=by kernel_rfl
theorem iy {w:World} {B C n:Nat} {v:Value} {cs:List Value} (h:w.ownsRow B 44 2 v n cs) (hB:C≤B):w.ownsRow C 44 2 v n cs :=
 ⟨h.1,h.2.elim Or.inl (fun ⟨g,cap,cur,h3,h4,h5⟩=>Or.inr ⟨g,cap,cur,h3,Nat.le_trans hB h4,h5⟩)⟩
theorem eI {w:World} {B n:Nat} {v:Value} {cs:List Value} (h:w.ownsRow B 44 2 v n cs):∃p c,v=.slice p n c:=by
 rcases h.2 with ⟨h3,h4⟩|⟨g,cap,cur,h3,_⟩
 ·exact ⟨none,0,by rw [h3,h4]⟩
 ·exact ⟨_,_,h3⟩
theorem nc {w0:World} {gp g mb:Nat} {kv:Value} {kP:List Int} {pg k:Nat} {U:Nat→Option (Option (List Int))} {L:Nat→Option (List Int)} {root:Int} {mt:ByteArray} (gs:Nat) (fr to:ByteArray) (M:Int) (hpg:pg≤400) (q r:Nat) (l:List Pr) (hU:U r=some (some (leafB l))) (hr32:r<4294967296) (hlc:leafCode l=0) (w1 w:World) (hS:PgS w0 w1 gp g mb kv kP pg k U L root mt) (hb:Below w1.heap.size w1 w) (hq:w1.heap.size≤q) (hmap:w.heap[q]?=some (.map #[] 0)) (hll:l.length≤1000) (hgs:Row w gs [.pointer (some ⟨gp,0,none⟩),.map (some q),.string fr,.string to,.int .i64 M,.slice none 0 0] 92) :
  Calls Tryz.prog 35 #[.pointer (some ⟨gs,0,none⟩),.int .u32 (r:Int)] w fun e w'=>∃v',e=.returned (.int .i64 0)∧UpdS [q,gs] w w'∧Row w' gs [.pointer (some ⟨gp,0,none⟩),.map (some q),.string fr,.string to,.int .i64 M,v'] 92∧w'.ownsRow w.heap.size 44 2 v' (scanK l fr to M l.length).length (prs (scanK l fr to M l.length)):=by
 have HGC:Hid (Row w gs [.pointer (some ⟨gp,0,none⟩),.map (some q),.string fr,.string to,.int .i64 M,.slice none 0 0] 92):=hgs
 have HNQ:Hid (gs ∉ [q]):=by
  intro e
  simp only [List.mem_cons,List.not_mem_nil,or_false] at e
  exact ax hgs hmap e
 clear hgs
 have HS:Hid (PgS w0 w1 gp g mb kv kP pg k U L root mt):=hS
 have HB:Hid (Below w1.heap.size w1 w∧w1.heap.size≤q):=⟨hb,hq⟩
 have HM:Hid (w.heap[q]?=some (.map #[] 0)):=hmap
 have HQL:Hid (q<w.heap.size):=(Array.getElem?_eq_some_iff.1 hmap).1
 have HUU:Hid (U r=some (some (leafB l))):=hU
 have HLC:Hid (leafCode l=0):=hlc
 have hm:=Mem.start w
 clear hS hb hq hmap hU hlc
 go_enter Tryz.func35,Tryz.ntmps35
 go_wp2_with (first
  | ((with_reducible refine aa (some 16) (.load 78 (.tmp 15)) ?_);obtain ⟨fs,hfs⟩:=fq;go_must (refine ae (.agg (List.toArray [.pointer (some ⟨gp,0,none⟩),.map (some q)])) rfl (ao 0 [.pointer (some ⟨gp,0,none⟩),.map (some q)] HGC.out rfl _ hfs rfl 2 dK (by simp) rfl) ?_);clear hfs fs)
  | (go_at_call 55;refine (iQ hpg q r l HUU.out hr32 HLC.out w1 _ HS.out (HB.out.1.trans (hm.below.mono HB.out.1.size)) HB.out.2 ((hm.block q HQL.out (by simp)).trans HM.out)).mono ?_;rintro e w2 ⟨pl,cl,rfl,hvl,hu⟩;have HVL:Hid (SlP w2 (.slice pl l.length cl) l):=hvl;replace HGC:Hid (Row w2 gs [.pointer (some ⟨gp,0,none⟩),.map (some q),.string fr,.string to,.int .i64 M,.slice none 0 0] 92):=hu.row HGC.out HNQ.out;replace hm:=Mem.onlyQ hm hu HQL.out;clear hu hvl)
  | ((with_reducible refine aa (some 5) (.alloc 84) ?_);go_must (refine az _ be hm ?_);clear hm;intro w3 g5 hb8 hm;replace HVL:Hid (SlP w3 (.slice pl l.length cl) l):=SlV.below HVL.out hb8;replace HGC:Hid (Row w3 gs [.pointer (some ⟨gp,0,none⟩),.map (some q),.string fr,.string to,.int .i64 M,.slice none 0 0] 92):=Row.below' HGC.out hb8;clear hb8)
  | ((with_reducible refine aa none (.store 84 (.tmp 5) (.tmp 19)) ?_);go_must (refine bn 0 [.slice pl l.length cl,.slice none 0 0,.slice none 0 0] hm rfl rfl rfl 3 aA rfl rfl (by intro u hu;simp only [List.mem_cons,List.not_mem_nil,or_false] at hu;rcases hu with rfl|rfl|rfl<;>rfl) ?_);have HRX:Hid (Row _ _ [.slice none 0 0,.slice none 0 0,.slice none 0 0] 84):=hm.get 0 rfl;clear hm;intro wB hu hm;replace HVL:Hid (SlP wB (.slice pl l.length cl) l):=SlP.turned HVL.out HRX.out (bN none 0 0) hu;replace HGC:Hid (Row wB gs [.pointer (some ⟨gp,0,none⟩),.map (some q),.string fr,.string to,.int .i64 M,.slice none 0 0] 92):=hu.row HGC.out (aQ HGC.out HRX.out (by decide));clear hu HRX)
  | ((with_reducible refine aa (some 25) (.load 28 (.tmp 24)) ?_);refine ai 0 0 (.slice pl l.length cl) hm rfl rfl bZ rfl ?_))
 have HM5:Hid (Mem w [q] wB [(g5,[.slice pl l.length cl,.slice none 0 0,.slice none 0 0],84)]):=hm
 have HST:Hid (Sc gp q gs fr to M wB wB (.slice none 0 0) []):=Sc.start HGC.out
 have HG5:Hid (g5 ∉ [gs]):=by
  intro e
  simp only [List.mem_cons,List.not_mem_nil,or_false] at e
  exact absurd e (aQ (hm.get 0 rfl) HGC.out (by decide))
 obtain ⟨n,hn⟩:∃n,n=l.length:=⟨_,rfl⟩
 have HNL:Hid (l.length=n):=hn.symm
 rw [←hn] at hll ⊢
 rw [←hn] at HVL HM5
 clear hm hn
 go_loopw [27] (fun vi wr=>∃k:Nat,∃v:Value,k≤n∧vi=.int .i64 (k:Int)∧Hid (Sc gp q gs fr to M wB wr v (scanK l fr to M k))) (fun vi _=>n - (RowKit.intOf vi).toNat)
 case atStart=>exact ⟨0,.slice none 0 0,by omega,rfl,HST.out⟩
 case round =>
  clear HST
  obtain ⟨k,v,hk,rfl,HSC⟩:=hrel
  by_cases hlt:k<n
  ·have hki:(k:Int)<(n:Int):=by omega
   obtain ⟨b,o,hpl⟩:=SlP.at HVL.out HNL.out (by omega)
   subst hpl
   obtain ⟨kk,hkk⟩:∃a,a=(l.getD k (noStr,noStr)).1:=⟨_,rfl⟩
   obtain ⟨vv,hvv⟩:∃a,a=(l.getD k (noStr,noStr)).2:=⟨_,rfl⟩
   have HC:Hid (wr.cell? ⟨b,o+k * 2,none⟩=some (.string kk)∧wr.cell? ⟨b,o+k * 2+1,none⟩=some (.string vv)):=by
    have h9:=SlP.cells HNL.out HVL.out k hlt
    rw [hkk,hvv]
    exact ⟨HSC.out.str h9.1,HSC.out.str h9.2⟩
   have hkv:l.getD k (noStr,noStr)=(kk,vv):=by rw [hkk,hvv]
   obtain ⟨F,hF⟩:∃F,F=scanK l fr to M k:=⟨_,rfl⟩
   have hFl:F.length≤k:=by rw [hF];exact j0 l fr to M k
   have hSN:scanK l fr to M (k+1)=if (leS fr kk&&(ahS to kk&&decide ((F.length:Int)<M)))=true then F++[(kk,vv)] else F:=by rw [scanK,hkv,hF]
   rw [←hF] at HSC
   obtain ⟨pv,cv,hv⟩:=HSC.out.form
   subst hv
   obtain ⟨nv,hnv⟩:∃n,n=F.length:=⟨_,rfl⟩
   have HNV:Hid (F.length=nv):=hnv.symm
   rw [←hnv] at hSN hFl
   replace HSC:Hid (Sc gp q gs fr to M wB wr (.slice pv nv cv) F):=by rw [hnv];exact HSC.out
   have hm:=Mem.start wr
   clear hkk hvv hkv hF hnv
   cases hA:leS fr kk with
   | false =>
    have HA:Hid (leS fr kk=false):=hA
    have HSN:Hid (scanK l fr to M (k+1)=F):=by show _=_;rw [hSN,hA];rfl
    clear hA hSN
    go_wp2_with (first
     | ((with_reducible refine aa (some 29) (.indexAddr 28 (.tmp 25) (.tmp 27)) ?_);go_must (refine ae (.pointer (some ⟨b,o+k * 2,none⟩)) rfl (aV k rfl rfl rfl hlt) ?_))
     | ((with_reducible refine aa (some 30) (.load 44 (.tmp 29)) ?_);go_must (refine ae (.agg [.string kk,.string vv].toArray) rfl (bo kk vv rfl HC.out.1 HC.out.2) ?_))
     | ((with_reducible refine aa (some 8) (.alloc 44) ?_);refine af _ bB hm ?_;clear hm;intro w6 g8 hm)
     | ((with_reducible refine aa none (.store 44 (.tmp 8) (.tmp 30)) ?_);go_must (refine ag 0 [.string kk,.string vv] hm rfl rfl rfl 2 bA rfl rfl (by intro u hu;simp only [List.mem_cons,List.not_mem_nil,or_false] at hu;rcases hu with rfl|rfl<;>rfl) ?_);clear hm;intro w7 hm;replace hm:Mem wr [] w7 [(g8,[.string kk,.string vv],44)]:=hm))
    refine au ?_
    refine ap (T:=fun W=>Mem wr [] W [(g8,[.string kk,.string vv],44)]) (by kernel_rfl) hm ?_
    clear hm
    intro wc hm
    refine aT 0 (v:=.pointer (some ⟨gs,0,none⟩)) rfl (by kernel_rfl) rfl (fun W _=>by go_simp) hm ?_
    go_simp
    refine aT 1 (v:=.pointer (some ⟨gs,0,none⟩)) rfl (by kernel_rfl) rfl (fun W _=>by go_simp) hm ?_
    go_simp
    refine aT 2 (v:=.pointer (some ⟨gs,2,none⟩)) rfl (by kernel_rfl) rfl (fun W _=>by go_simp) hm ?_
    go_simp
    refine aT 3 (v:=.string fr) rfl (by kernel_rfl) rfl (fun W hW=>aj (.string fr) (((HSC.out.below (Mem.below hW)).row.cell 2).trans rfl) rfl a8) hm ?_
    go_simp
    refine aT 4 (v:=.pointer (some ⟨g8,0,none⟩)) rfl (by kernel_rfl) rfl (fun W _=>by go_simp) hm ?_
    go_simp
    refine aT 5 (v:=.string kk) rfl (by kernel_rfl) rfl (fun W hW=>aj (.string kk) (((Mem.get hW 0 rfl).cell 0).trans rfl) rfl a8) hm ?_
    go_simp
    refine aT 6 (v:=.bool false) rfl (by kernel_rfl) rfl (fun W _=>iX fr kk false rfl rfl HA.out) hm ?_
    go_simp
    refine aT 7 (v:=.bool false) rfl (by kernel_rfl) rfl (fun W _=>by go_simp) hm ?_
    go_simp
    refine aC 8 rfl (by kernel_rfl) (by kernel_rfl) (by kernel_rfl) rfl hm ?_
    go_simp
    refine aC 9 rfl (by kernel_rfl) (by kernel_rfl) (by kernel_rfl) rfl hm ?_
    go_simp
    refine aC 10 rfl (by kernel_rfl) (by kernel_rfl) (by kernel_rfl) rfl hm ?_
    go_simp
    refine aC 11 rfl (by kernel_rfl) (by kernel_rfl) (by kernel_rfl) rfl hm ?_
    go_simp
    refine aT 12 (v:=.bool false) rfl (by kernel_rfl) rfl (fun W _=>by go_simp) hm ?_
    go_simp
    refine aT 13 (v:=.bool false) rfl (by kernel_rfl) rfl (fun W _=>by go_simp) hm ?_
    go_simp
    refine aC 14 rfl (by kernel_rfl) (by kernel_rfl) (by kernel_rfl) rfl hm ?_
    go_simp
    refine aC 15 rfl (by kernel_rfl) (by kernel_rfl) (by kernel_rfl) rfl hm ?_
    go_simp
    refine aC 16 rfl (by kernel_rfl) (by kernel_rfl) (by kernel_rfl) rfl hm ?_
    go_simp
    refine aC 17 rfl (by kernel_rfl) (by kernel_rfl) (by kernel_rfl) rfl hm ?_
    go_simp
    refine aC 18 rfl (by kernel_rfl) (by kernel_rfl) (by kernel_rfl) rfl hm ?_
    go_simp
    refine aC 19 rfl (by kernel_rfl) (by kernel_rfl) (by kernel_rfl) rfl hm ?_
    go_simp
    refine aC 20 rfl (by kernel_rfl) (by kernel_rfl) (by kernel_rfl) rfl hm ?_
    go_simp
    refine aC 21 rfl (by kernel_rfl) (by kernel_rfl) (by kernel_rfl) rfl hm ?_
    go_simp
    refine aC 22 rfl (by kernel_rfl) (by kernel_rfl) (by kernel_rfl) rfl hm ?_
    go_simp
    refine aC 23 rfl (by kernel_rfl) (by kernel_rfl) (by kernel_rfl) rfl hm ?_
    go_simp
    refine aT 24 (v:=.bool false) rfl (by kernel_rfl) rfl (fun W _=>by go_simp) hm ?_
    go_simp
    refine wpAnyH_done (by kernel_rfl) ?_ _
    simp only [endsIn]
    go_wp2_with fail
    go_roundw
    case rel=>exact ⟨k+1,.slice pv nv cv,by omega,by go_num,by rw [Hid];rw [HSN.out];exact HSC.out.below hm.below⟩
    case measure=>simp [RowKit.intOf];omega
   | true =>
    have HA:Hid (leS fr kk=true):=hA
    cases hB:ahS to kk with
    | false =>
     have HB9:Hid (∀_:Unit,ahS to kk=false):=fun _=>hB
     have HSN:Hid (scanK l fr to M (k+1)=F):=by show _=_;rw [hSN,hA,hB];rfl
     clear hA hB hSN
     go_wp2_with (first
      | ((with_reducible refine aa (some 29) (.indexAddr 28 (.tmp 25) (.tmp 27)) ?_);go_must (refine ae (.pointer (some ⟨b,o+k * 2,none⟩)) rfl (aV k rfl rfl rfl hlt) ?_))
      | ((with_reducible refine aa (some 30) (.load 44 (.tmp 29)) ?_);go_must (refine ae (.agg [.string kk,.string vv].toArray) rfl (bo kk vv rfl HC.out.1 HC.out.2) ?_))
      | ((with_reducible refine aa (some 8) (.alloc 44) ?_);refine af _ bB hm ?_;clear hm;intro w6 g8 hm)
      | ((with_reducible refine aa none (.store 44 (.tmp 8) (.tmp 30)) ?_);go_must (refine ag 0 [.string kk,.string vv] hm rfl rfl rfl 2 bA rfl rfl (by intro u hu;simp only [List.mem_cons,List.not_mem_nil,or_false] at hu;rcases hu with rfl|rfl<;>rfl) ?_);clear hm;intro w7 hm;replace hm:Mem wr [] w7 [(g8,[.string kk,.string vv],44)]:=hm))
     refine au ?_
     refine ap (T:=fun W=>Mem wr [] W [(g8,[.string kk,.string vv],44)]) (by kernel_rfl) hm ?_
     clear hm
     intro wc hm
     refine aT 0 (v:=.pointer (some ⟨gs,0,none⟩)) rfl (by kernel_rfl) rfl (fun W _=>by go_simp) hm ?_
     go_simp
     refine aT 1 (v:=.pointer (some ⟨gs,0,none⟩)) rfl (by kernel_rfl) rfl (fun W _=>by go_simp) hm ?_
     go_simp
     refine aT 2 (v:=.pointer (some ⟨gs,2,none⟩)) rfl (by kernel_rfl) rfl (fun W _=>by go_simp) hm ?_
     go_simp
     refine aT 3 (v:=.string fr) rfl (by kernel_rfl) rfl (fun W hW=>aj (.string fr) (((HSC.out.below (Mem.below hW)).row.cell 2).trans rfl) rfl a8) hm ?_
     go_simp
     refine aT 4 (v:=.pointer (some ⟨g8,0,none⟩)) rfl (by kernel_rfl) rfl (fun W _=>by go_simp) hm ?_
     go_simp
     refine aT 5 (v:=.string kk) rfl (by kernel_rfl) rfl (fun W hW=>aj (.string kk) (((Mem.get hW 0 rfl).cell 0).trans rfl) rfl a8) hm ?_
     go_simp
     refine aT 6 (v:=.bool true) rfl (by kernel_rfl) rfl (fun W _=>iX fr kk true rfl rfl HA.out) hm ?_
     go_simp
     refine aT 7 (v:=.bool true) rfl (by kernel_rfl) rfl (fun W _=>by go_simp) hm ?_
     go_simp
     refine aG 8 (v:=.pointer (some ⟨gs,0,none⟩)) rfl (by kernel_rfl) rfl (fun W _=>by go_simp) hm ?_
     go_simp
     refine aG 9 (v:=.pointer (some ⟨g8,0,none⟩)) rfl (by kernel_rfl) rfl (fun W _=>by go_simp) hm ?_
     go_simp
     refine aG 10 (v:=.string kk) rfl (by kernel_rfl) rfl (fun W hW=>aj (.string kk) (((Mem.get hW 0 rfl).cell 0).trans rfl) rfl a8) hm ?_
     go_simp
     refine aO 11 (by kernel_rfl) rfl rfl ?_
     intro K hK
     go_wp2_with (go_at_call 65;refine (kA gp q gs fr to kk M _ _ (HSC.out.below hm.below).row).mono ?_;rintro e wf ⟨he,hw⟩;rw [HB9.out ()] at he;subst he;replace hw:=hw.symm;subst hw)
     refine hK _ _ hm ?_
     clear hK K
     refine aT 12 (v:=.bool false) rfl (by kernel_rfl) rfl (fun W _=>by go_simp) hm ?_
     go_simp
     refine aT 13 (v:=.bool false) rfl (by kernel_rfl) rfl (fun W _=>by go_simp) hm ?_
     go_simp
     refine aC 14 rfl (by kernel_rfl) (by kernel_rfl) (by kernel_rfl) rfl hm ?_
     go_simp
     refine aC 15 rfl (by kernel_rfl) (by kernel_rfl) (by kernel_rfl) rfl hm ?_
     go_simp
     refine aC 16 rfl (by kernel_rfl) (by kernel_rfl) (by kernel_rfl) rfl hm ?_
     go_simp
     refine aC 17 rfl (by kernel_rfl) (by kernel_rfl) (by kernel_rfl) rfl hm ?_
     go_simp
     refine aC 18 rfl (by kernel_rfl) (by kernel_rfl) (by kernel_rfl) rfl hm ?_
     go_simp
     refine aC 19 rfl (by kernel_rfl) (by kernel_rfl) (by kernel_rfl) rfl hm ?_
     go_simp
     refine aC 20 rfl (by kernel_rfl) (by kernel_rfl) (by kernel_rfl) rfl hm ?_
     go_simp
     refine aC 21 rfl (by kernel_rfl) (by kernel_rfl) (by kernel_rfl) rfl hm ?_
     go_simp
     refine aC 22 rfl (by kernel_rfl) (by kernel_rfl) (by kernel_rfl) rfl hm ?_
     go_simp
     refine aC 23 rfl (by kernel_rfl) (by kernel_rfl) (by kernel_rfl) rfl hm ?_
     go_simp
     refine aT 24 (v:=.bool false) rfl (by kernel_rfl) rfl (fun W _=>by go_simp) hm ?_
     go_simp
     refine wpAnyH_done (by kernel_rfl) ?_ _
     simp only [endsIn]
     go_wp2_with fail
     go_roundw
     case rel=>exact ⟨k+1,.slice pv nv cv,by omega,by go_num,by rw [Hid];rw [HSN.out];exact HSC.out.below hm.below⟩
     case measure=>simp [RowKit.intOf];omega
    | true =>
     have HB9:Hid (∀_:Unit,ahS to kk=true):=fun _=>hB
     by_cases hC:(nv:Int)<M
     ·have HSN:Hid (scanK l fr to M (k+1)=F++[(kk,vv)]):=by show _=_;rw [hSN,hA,hB,decide_eq_true hC];rfl
      clear hA hB hSN
      go_wp2_with (first
       | ((with_reducible refine aa (some 29) (.indexAddr 28 (.tmp 25) (.tmp 27)) ?_);go_must (refine ae (.pointer (some ⟨b,o+k * 2,none⟩)) rfl (aV k rfl rfl rfl hlt) ?_))
       | ((with_reducible refine aa (some 30) (.load 44 (.tmp 29)) ?_);go_must (refine ae (.agg [.string kk,.string vv].toArray) rfl (bo kk vv rfl HC.out.1 HC.out.2) ?_))
       | ((with_reducible refine aa (some 8) (.alloc 44) ?_);refine af _ bB hm ?_;clear hm;intro w6 g8 hm)
       | ((with_reducible refine aa none (.store 44 (.tmp 8) (.tmp 30)) ?_);go_must (refine ag 0 [.string kk,.string vv] hm rfl rfl rfl 2 bA rfl rfl (by intro u hu;simp only [List.mem_cons,List.not_mem_nil,or_false] at hu;rcases hu with rfl|rfl<;>rfl) ?_);clear hm;intro w7 hm;replace hm:Mem wr [] w7 [(g8,[.string kk,.string vv],44)]:=hm))
      refine au ?_
      refine ap (T:=fun W=>Mem wr [] W [(g8,[.string kk,.string vv],44)]) (by kernel_rfl) hm ?_
      clear hm
      intro wc hm
      refine aT 0 (v:=.pointer (some ⟨gs,0,none⟩)) rfl (by kernel_rfl) rfl (fun W _=>by go_simp) hm ?_
      go_simp
      refine aT 1 (v:=.pointer (some ⟨gs,0,none⟩)) rfl (by kernel_rfl) rfl (fun W _=>by go_simp) hm ?_
      go_simp
      refine aT 2 (v:=.pointer (some ⟨gs,2,none⟩)) rfl (by kernel_rfl) rfl (fun W _=>by go_simp) hm ?_
      go_simp
      refine aT 3 (v:=.string fr) rfl (by kernel_rfl) rfl (fun W hW=>aj (.string fr) (((HSC.out.below (Mem.below hW)).row.cell 2).trans rfl) rfl a8) hm ?_
      go_simp
      refine aT 4 (v:=.pointer (some ⟨g8,0,none⟩)) rfl (by kernel_rfl) rfl (fun W _=>by go_simp) hm ?_
      go_simp
      refine aT 5 (v:=.string kk) rfl (by kernel_rfl) rfl (fun W hW=>aj (.string kk) (((Mem.get hW 0 rfl).cell 0).trans rfl) rfl a8) hm ?_
      go_simp
      refine aT 6 (v:=.bool true) rfl (by kernel_rfl) rfl (fun W _=>iX fr kk true rfl rfl HA.out) hm ?_
      go_simp
      refine aT 7 (v:=.bool true) rfl (by kernel_rfl) rfl (fun W _=>by go_simp) hm ?_
      go_simp
      refine aG 8 (v:=.pointer (some ⟨gs,0,none⟩)) rfl (by kernel_rfl) rfl (fun W _=>by go_simp) hm ?_
      go_simp
      refine aG 9 (v:=.pointer (some ⟨g8,0,none⟩)) rfl (by kernel_rfl) rfl (fun W _=>by go_simp) hm ?_
      go_simp
      refine aG 10 (v:=.string kk) rfl (by kernel_rfl) rfl (fun W hW=>aj (.string kk) (((Mem.get hW 0 rfl).cell 0).trans rfl) rfl a8) hm ?_
      go_simp
      refine aO 11 (by kernel_rfl) rfl rfl ?_
      intro K hK
      go_wp2_with (go_at_call 65;refine (kA gp q gs fr to kk M _ _ (HSC.out.below hm.below).row).mono ?_;rintro e wf ⟨he,hw⟩;rw [HB9.out ()] at he;subst he;replace hw:=hw.symm;subst hw)
      refine hK _ _ hm ?_
      clear hK K
      refine aT 12 (v:=.bool true) rfl (by kernel_rfl) rfl (fun W _=>by go_simp) hm ?_
      go_simp
      refine aT 13 (v:=.bool true) rfl (by kernel_rfl) rfl (fun W _=>by go_simp) hm ?_
      go_simp
      refine aG 14 (v:=.pointer (some ⟨gs,0,none⟩)) rfl (by kernel_rfl) rfl (fun W _=>by go_simp) hm ?_
      go_simp
      refine aG 15 (v:=.pointer (some ⟨gs,0,none⟩)) rfl (by kernel_rfl) rfl (fun W _=>by go_simp) hm ?_
      go_simp
      refine aG 16 (v:=.pointer (some ⟨gs,5,none⟩)) rfl (by kernel_rfl) rfl (fun W _=>by go_simp) hm ?_
      go_simp
      refine aG 17 (v:=.slice pv nv cv) rfl (by kernel_rfl) rfl (fun W hW=>aj (.slice pv nv cv) (((HSC.out.below (Mem.below hW)).row.cell 5).trans rfl) rfl bZ) hm ?_
      go_simp
      refine aG 18 (v:=.int .i64 (nv:Int)) rfl (by kernel_rfl) rfl (fun W _=>by go_simp) hm ?_
      go_simp
      refine aG 19 (v:=.pointer (some ⟨gs,0,none⟩)) rfl (by kernel_rfl) rfl (fun W _=>by go_simp) hm ?_
      go_simp
      refine aG 20 (v:=.pointer (some ⟨gs,0,none⟩)) rfl (by kernel_rfl) rfl (fun W _=>by go_simp) hm ?_
      go_simp
      refine aG 21 (v:=.pointer (some ⟨gs,4,none⟩)) rfl (by kernel_rfl) rfl (fun W _=>by go_simp) hm ?_
      go_simp
      refine aG 22 (v:=.int .i64 M) rfl (by kernel_rfl) rfl (fun W hW=>aj (.int .i64 M) (((HSC.out.below (Mem.below hW)).row.cell 4).trans rfl) rfl em) hm ?_
      go_simp
      refine aG 23 (v:=.bool true) rfl (by kernel_rfl) rfl (fun W _=>by go_simp) hm ?_
      go_simp
      refine aT 24 (v:=.bool true) rfl (by kernel_rfl) rfl (fun W _=>by go_simp) hm ?_
      go_simp
      refine wpAnyH_done (by kernel_rfl) ?_ _
      simp only [endsIn]
      go_wp2_with fail
      refine au ?_
      refine ap (T:=fun _=>True) (by kernel_rfl) hm ?_
      clear hm
      intro wd hm
      refine aT 0 (v:=.pointer (some ⟨gs,0,none⟩)) rfl (by kernel_rfl) rfl (fun W _=>by go_simp) trivial ?_
      go_simp
      refine aT 1 (v:=.pointer (some ⟨gs,0,none⟩)) rfl (by kernel_rfl) rfl (fun W _=>by go_simp) trivial ?_
      go_simp
      refine aT 2 (v:=.pointer (some ⟨gs,0,none⟩)) rfl (by kernel_rfl) rfl (fun W _=>by go_simp) trivial ?_
      go_simp
      refine aT 3 (v:=.pointer (some ⟨gs,5,none⟩)) rfl (by kernel_rfl) rfl (fun W _=>by go_simp) trivial ?_
      go_simp
      refine wpAnyH_all (rs:=[4,5]) (by kernel_rfl) (by simp) ?_
      intro i hi
      simp only [List.mem_cons,List.not_mem_nil,or_false] at hi
      rcases hi with rfl|rfl
      ·refine aL 4 rfl rfl ?_
       intro K hK
       refine ae (.slice pv nv cv) rfl (aj (.slice pv nv cv) (((HSC.out.below hm.below).row.cell 5).trans rfl) rfl bZ) ?_
       refine wpList_nil ?_
       refine hK _ _ trivial ?_
       clear hK K
       go_simp
       refine aO 5 (by kernel_rfl) rfl rfl ?_
       intro K hK
       refine ae (.agg [.string kk,.string vv].toArray) rfl (bo kk vv rfl (((hm.get 0 rfl).cell 0).trans rfl) (((hm.get 0 rfl).cell 1).trans rfl)) ?_
       refine wpList_nil ?_
       refine hK _ _ trivial ?_
       clear hK K
       go_simp
       refine aO 6 (by kernel_rfl) rfl rfl ?_
       intro K hK
       refine fE kk vv rfl rfl hm ?_
       clear hm
       intro wx3 g9 hm
       refine wpList_nil ?_
       refine hK _ _ trivial ?_
       clear hK K
       go_simp
       refine aO 7 (by kernel_rfl) rfl rfl ?_
       intro K hK
       refine cU (.agg [.string ByteArray.empty,.string ByteArray.empty].toArray) 2 32 rfl bw eC rfl (by omega) (by omega) ((HSC.out.below hm.below).ownN HNV.out) (Nat.le_trans HSC.out.upd.size hm.size) rfl rfl (hm.get 0 rfl) rfl (by simp [Value.oneCell']) (by omega) ?_
       intro v9 w9 ho9 hg9 hl9
       have HO9:Hid (w9.ownsRow wB.heap.size 44 2 v9 (nv+1) (prs F++[.string kk,.string vv])):=ho9
       have HG9:Hid (Sc gp q gs fr to M wB _ (.slice pv nv cv) F∧World.grownBy _ w9 (Value.ownBlock (.slice pv nv cv))):=⟨HSC.out.below hm.below,hg9⟩
       have hm9:=Mem.ownS (gE (HSC.out.below hm.below).row (HSC.out.below hm.below).own (by decide) hg9)
       obtain ⟨p9,c9,rfl⟩:=eI ho9
       clear ho9 hg9 hl9 hm
       refine wpList_nil ?_
       refine hK _ _ trivial ?_
       clear hK K
       go_simp
       refine aT 8 (v:=.pointer (some ⟨gs,0,none⟩)) rfl (by kernel_rfl) rfl (fun W _=>by go_simp) trivial ?_
       go_simp
       refine aT 9 (v:=.pointer (some ⟨gs,5,none⟩)) rfl (by kernel_rfl) rfl (fun W _=>by go_simp) trivial ?_
       go_simp
       refine aO 10 (by kernel_rfl) rfl rfl ?_
       intro K hK
       refine aD 0 5 (.slice p9 (nv+1) c9) hm9 rfl rfl rfl lE (by simp) rfl rfl ?_
       intro wA hmA
       replace hmA:Mem w9 [gs] wA [(gs,[.pointer (some ⟨gp,0,none⟩),.map (some q),.string fr,.string to,.int .i64 M,.slice p9 (nv+1) c9],92)]:=hmA
       clear hm9
       have HSA:Hid (Sc gp q gs fr to M wB wA (.slice p9 (nv+1) c9) (F++[(kk,vv)])):=Sc.app HG9.out.1 (by have h9:=HO9.out;rw [HNV.out];exact h9) HG9.out.2 hmA.upds (hmA.get 0 rfl)
       clear hmA HG9 HO9
       refine wpList_nil ?_
       refine hK _ _ trivial ?_
       clear hK K
       refine wpAnyH_done (by kernel_rfl) ?_ _
       simp only [endsIn]
       go_wp2_with fail
       go_roundw
       case rel=>exact ⟨k+1,.slice p9 (nv+1) c9,by omega,by go_num,by rw [Hid];rw [HSN.out];exact HSA.out⟩
       case measure=>simp [RowKit.intOf];omega
      ·refine aL 5 rfl rfl ?_
       intro K hK
       refine ae (.agg [.string kk,.string vv].toArray) rfl (bo kk vv rfl (((hm.get 0 rfl).cell 0).trans rfl) (((hm.get 0 rfl).cell 1).trans rfl)) ?_
       refine wpList_nil ?_
       refine hK _ _ trivial ?_
       clear hK K
       go_simp
       refine wpAnyH_all (rs:=[4,6]) (by kernel_rfl) (by simp) ?_
       intro i hi
       simp only [List.mem_cons,List.not_mem_nil,or_false] at hi
       rcases hi with rfl|rfl
       ·refine aL 4 rfl rfl ?_
        intro K hK
        refine ae (.slice pv nv cv) rfl (aj (.slice pv nv cv) (((HSC.out.below hm.below).row.cell 5).trans rfl) rfl bZ) ?_
        refine wpList_nil ?_
        refine hK _ _ trivial ?_
        clear hK K
        go_simp
        refine aO 6 (by kernel_rfl) rfl rfl ?_
        intro K hK
        refine fE kk vv rfl rfl hm ?_
        clear hm
        intro wx3 g9 hm
        refine wpList_nil ?_
        refine hK _ _ trivial ?_
        clear hK K
        go_simp
        refine aO 7 (by kernel_rfl) rfl rfl ?_
        intro K hK
        refine cU (.agg [.string ByteArray.empty,.string ByteArray.empty].toArray) 2 32 rfl bw eC rfl (by omega) (by omega) ((HSC.out.below hm.below).ownN HNV.out) (Nat.le_trans HSC.out.upd.size hm.size) rfl rfl (hm.get 0 rfl) rfl (by simp [Value.oneCell']) (by omega) ?_
        intro v9 w9 ho9 hg9 hl9
        have HO9:Hid (w9.ownsRow wB.heap.size 44 2 v9 (nv+1) (prs F++[.string kk,.string vv])):=ho9
        have HG9:Hid (Sc gp q gs fr to M wB _ (.slice pv nv cv) F∧World.grownBy _ w9 (Value.ownBlock (.slice pv nv cv))):=⟨HSC.out.below hm.below,hg9⟩
        have hm9:=Mem.ownS (gE (HSC.out.below hm.below).row (HSC.out.below hm.below).own (by decide) hg9)
        obtain ⟨p9,c9,rfl⟩:=eI ho9
        clear ho9 hg9 hl9 hm
        refine wpList_nil ?_
        refine hK _ _ trivial ?_
        clear hK K
        go_simp
        refine aT 8 (v:=.pointer (some ⟨gs,0,none⟩)) rfl (by kernel_rfl) rfl (fun W _=>by go_simp) trivial ?_
        go_simp
        refine aT 9 (v:=.pointer (some ⟨gs,5,none⟩)) rfl (by kernel_rfl) rfl (fun W _=>by go_simp) trivial ?_
        go_simp
        refine aO 10 (by kernel_rfl) rfl rfl ?_
        intro K hK
        refine aD 0 5 (.slice p9 (nv+1) c9) hm9 rfl rfl rfl lE (by simp) rfl rfl ?_
        intro wA hmA
        replace hmA:Mem w9 [gs] wA [(gs,[.pointer (some ⟨gp,0,none⟩),.map (some q),.string fr,.string to,.int .i64 M,.slice p9 (nv+1) c9],92)]:=hmA
        clear hm9
        have HSA:Hid (Sc gp q gs fr to M wB wA (.slice p9 (nv+1) c9) (F++[(kk,vv)])):=Sc.app HG9.out.1 (by have h9:=HO9.out;rw [HNV.out];exact h9) HG9.out.2 hmA.upds (hmA.get 0 rfl)
        clear hmA HG9 HO9
        refine wpList_nil ?_
        refine hK _ _ trivial ?_
        clear hK K
        refine wpAnyH_done (by kernel_rfl) ?_ _
        simp only [endsIn]
        go_wp2_with fail
        go_roundw
        case rel=>exact ⟨k+1,.slice p9 (nv+1) c9,by omega,by go_num,by rw [Hid];rw [HSN.out];exact HSA.out⟩
        case measure=>simp [RowKit.intOf];omega
       ·refine aL 6 rfl rfl ?_
        intro K hK
        refine fE kk vv rfl rfl hm ?_
        clear hm
        intro wx2 g9 hm
        refine wpList_nil ?_
        refine hK _ _ trivial ?_
        clear hK K
        go_simp
        refine aO 4 (by kernel_rfl) rfl rfl ?_
        intro K hK
        refine ae (.slice pv nv cv) rfl (aj (.slice pv nv cv) (((HSC.out.below hm.below).row.cell 5).trans rfl) rfl bZ) ?_
        refine wpList_nil ?_
        refine hK _ _ trivial ?_
        clear hK K
        go_simp
        refine aO 7 (by kernel_rfl) rfl rfl ?_
        intro K hK
        refine cU (.agg [.string ByteArray.empty,.string ByteArray.empty].toArray) 2 32 rfl bw eC rfl (by omega) (by omega) ((HSC.out.below hm.below).ownN HNV.out) (Nat.le_trans HSC.out.upd.size hm.size) rfl rfl (hm.get 0 rfl) rfl (by simp [Value.oneCell']) (by omega) ?_
        intro v9 w9 ho9 hg9 hl9
        have HO9:Hid (w9.ownsRow wB.heap.size 44 2 v9 (nv+1) (prs F++[.string kk,.string vv])):=ho9
        have HG9:Hid (Sc gp q gs fr to M wB _ (.slice pv nv cv) F∧World.grownBy _ w9 (Value.ownBlock (.slice pv nv cv))):=⟨HSC.out.below hm.below,hg9⟩
        have hm9:=Mem.ownS (gE (HSC.out.below hm.below).row (HSC.out.below hm.below).own (by decide) hg9)
        obtain ⟨p9,c9,rfl⟩:=eI ho9
        clear ho9 hg9 hl9 hm
        refine wpList_nil ?_
        refine hK _ _ trivial ?_
        clear hK K
        go_simp
        refine aT 8 (v:=.pointer (some ⟨gs,0,none⟩)) rfl (by kernel_rfl) rfl (fun W _=>by go_simp) trivial ?_
        go_simp
        refine aT 9 (v:=.pointer (some ⟨gs,5,none⟩)) rfl (by kernel_rfl) rfl (fun W _=>by go_simp) trivial ?_
        go_simp
        refine aO 10 (by kernel_rfl) rfl rfl ?_
        intro K hK
        refine aD 0 5 (.slice p9 (nv+1) c9) hm9 rfl rfl rfl lE (by simp) rfl rfl ?_
        intro wA hmA
        replace hmA:Mem w9 [gs] wA [(gs,[.pointer (some ⟨gp,0,none⟩),.map (some q),.string fr,.string to,.int .i64 M,.slice p9 (nv+1) c9],92)]:=hmA
        clear hm9
        have HSA:Hid (Sc gp q gs fr to M wB wA (.slice p9 (nv+1) c9) (F++[(kk,vv)])):=Sc.app HG9.out.1 (by have h9:=HO9.out;rw [HNV.out];exact h9) HG9.out.2 hmA.upds (hmA.get 0 rfl)
        clear hmA HG9 HO9
        refine wpList_nil ?_
        refine hK _ _ trivial ?_
        clear hK K
        refine wpAnyH_done (by kernel_rfl) ?_ _
        simp only [endsIn]
        go_wp2_with fail
        go_roundw
        case rel=>exact ⟨k+1,.slice p9 (nv+1) c9,by omega,by go_num,by rw [Hid];rw [HSN.out];exact HSA.out⟩
        case measure=>simp [RowKit.intOf];omega
     ·have HSN:Hid (scanK l fr to M (k+1)=F):=by show _=_;rw [hSN,hA,hB,decide_eq_false hC];rfl
      clear hA hB hSN
      go_wp2_with (first
       | ((with_reducible refine aa (some 29) (.indexAddr 28 (.tmp 25) (.tmp 27)) ?_);go_must (refine ae (.pointer (some ⟨b,o+k * 2,none⟩)) rfl (aV k rfl rfl rfl hlt) ?_))
       | ((with_reducible refine aa (some 30) (.load 44 (.tmp 29)) ?_);go_must (refine ae (.agg [.string kk,.string vv].toArray) rfl (bo kk vv rfl HC.out.1 HC.out.2) ?_))
       | ((with_reducible refine aa (some 8) (.alloc 44) ?_);refine af _ bB hm ?_;clear hm;intro w6 g8 hm)
       | ((with_reducible refine aa none (.store 44 (.tmp 8) (.tmp 30)) ?_);go_must (refine ag 0 [.string kk,.string vv] hm rfl rfl rfl 2 bA rfl rfl (by intro u hu;simp only [List.mem_cons,List.not_mem_nil,or_false] at hu;rcases hu with rfl|rfl<;>rfl) ?_);clear hm;intro w7 hm;replace hm:Mem wr [] w7 [(g8,[.string kk,.string vv],44)]:=hm))
      refine au ?_
      refine ap (T:=fun W=>Mem wr [] W [(g8,[.string kk,.string vv],44)]) (by kernel_rfl) hm ?_
      clear hm
      intro wc hm
      refine aT 0 (v:=.pointer (some ⟨gs,0,none⟩)) rfl (by kernel_rfl) rfl (fun W _=>by go_simp) hm ?_
      go_simp
      refine aT 1 (v:=.pointer (some ⟨gs,0,none⟩)) rfl (by kernel_rfl) rfl (fun W _=>by go_simp) hm ?_
      go_simp
      refine aT 2 (v:=.pointer (some ⟨gs,2,none⟩)) rfl (by kernel_rfl) rfl (fun W _=>by go_simp) hm ?_
      go_simp
      refine aT 3 (v:=.string fr) rfl (by kernel_rfl) rfl (fun W hW=>aj (.string fr) (((HSC.out.below (Mem.below hW)).row.cell 2).trans rfl) rfl a8) hm ?_
      go_simp
      refine aT 4 (v:=.pointer (some ⟨g8,0,none⟩)) rfl (by kernel_rfl) rfl (fun W _=>by go_simp) hm ?_
      go_simp
      refine aT 5 (v:=.string kk) rfl (by kernel_rfl) rfl (fun W hW=>aj (.string kk) (((Mem.get hW 0 rfl).cell 0).trans rfl) rfl a8) hm ?_
      go_simp
      refine aT 6 (v:=.bool true) rfl (by kernel_rfl) rfl (fun W _=>iX fr kk true rfl rfl HA.out) hm ?_
      go_simp
      refine aT 7 (v:=.bool true) rfl (by kernel_rfl) rfl (fun W _=>by go_simp) hm ?_
      go_simp
      refine aG 8 (v:=.pointer (some ⟨gs,0,none⟩)) rfl (by kernel_rfl) rfl (fun W _=>by go_simp) hm ?_
      go_simp
      refine aG 9 (v:=.pointer (some ⟨g8,0,none⟩)) rfl (by kernel_rfl) rfl (fun W _=>by go_simp) hm ?_
      go_simp
      refine aG 10 (v:=.string kk) rfl (by kernel_rfl) rfl (fun W hW=>aj (.string kk) (((Mem.get hW 0 rfl).cell 0).trans rfl) rfl a8) hm ?_
      go_simp
      refine aO 11 (by kernel_rfl) rfl rfl ?_
      intro K hK
      go_wp2_with (go_at_call 65;refine (kA gp q gs fr to kk M _ _ (HSC.out.below hm.below).row).mono ?_;rintro e wf ⟨he,hw⟩;rw [HB9.out ()] at he;subst he;replace hw:=hw.symm;subst hw)
      refine hK _ _ hm ?_
      clear hK K
      refine aT 12 (v:=.bool true) rfl (by kernel_rfl) rfl (fun W _=>by go_simp) hm ?_
      go_simp
      refine aT 13 (v:=.bool true) rfl (by kernel_rfl) rfl (fun W _=>by go_simp) hm ?_
      go_simp
      refine aG 14 (v:=.pointer (some ⟨gs,0,none⟩)) rfl (by kernel_rfl) rfl (fun W _=>by go_simp) hm ?_
      go_simp
      refine aG 15 (v:=.pointer (some ⟨gs,0,none⟩)) rfl (by kernel_rfl) rfl (fun W _=>by go_simp) hm ?_
      go_simp
      refine aG 16 (v:=.pointer (some ⟨gs,5,none⟩)) rfl (by kernel_rfl) rfl (fun W _=>by go_simp) hm ?_
      go_simp
      refine aG 17 (v:=.slice pv nv cv) rfl (by kernel_rfl) rfl (fun W hW=>aj (.slice pv nv cv) (((HSC.out.below (Mem.below hW)).row.cell 5).trans rfl) rfl bZ) hm ?_
      go_simp
      refine aG 18 (v:=.int .i64 (nv:Int)) rfl (by kernel_rfl) rfl (fun W _=>by go_simp) hm ?_
      go_simp
      refine aG 19 (v:=.pointer (some ⟨gs,0,none⟩)) rfl (by kernel_rfl) rfl (fun W _=>by go_simp) hm ?_
      go_simp
      refine aG 20 (v:=.pointer (some ⟨gs,0,none⟩)) rfl (by kernel_rfl) rfl (fun W _=>by go_simp) hm ?_
      go_simp
      refine aG 21 (v:=.pointer (some ⟨gs,4,none⟩)) rfl (by kernel_rfl) rfl (fun W _=>by go_simp) hm ?_
      go_simp
      refine aG 22 (v:=.int .i64 M) rfl (by kernel_rfl) rfl (fun W hW=>aj (.int .i64 M) (((HSC.out.below (Mem.below hW)).row.cell 4).trans rfl) rfl em) hm ?_
      go_simp
      refine aG 23 (v:=.bool false) rfl (by kernel_rfl) rfl (fun W _=>by go_simp) hm ?_
      go_simp
      refine aT 24 (v:=.bool false) rfl (by kernel_rfl) rfl (fun W _=>by go_simp) hm ?_
      go_simp
      refine wpAnyH_done (by kernel_rfl) ?_ _
      simp only [endsIn]
      go_wp2_with fail
      go_roundw
      case rel=>exact ⟨k+1,.slice pv nv cv,by omega,by go_num,by rw [Hid];rw [HSN.out];exact HSC.out.below hm.below⟩
      case measure=>simp [RowKit.intOf];omega
  ·have hkn:k=n:=by omega
   subst hkn
   have hki:¬(k:Int)<(k:Int):=by omega
   have HP5:Hid (Row wr g5 [.slice pl k cl,.slice none 0 0,.slice none 0 0] 84):=HSC.out.upd.row (HM5.out.get 0 rfl) HG5.out
   go_wp2_with (first
    | ((with_reducible refine aa (some 68) (.load 82 (.tmp 67)) ?_);go_must (refine ae (.slice none 0 0) rfl (aj (.slice none 0 0) ((HP5.out.cell 2).trans rfl) rfl dO) ?_)))
   refine wp_loop_rounds 1 ?_
   rw [rounds_succ]
   go_wp2_with fail
   go_ret
   refine ⟨v,rfl,UpdS.two HM5.out.upds HSC.out.upd,HSC.out.row,by rw [HNL.out];exact iy HSC.out.own HM5.out.size⟩
theorem scan_leaf {w0:World} {gp g mb:Nat} {kv:Value} {kP:List Int} {pg k:Nat} {U:Nat→Option (Option (List Int))} {L:Nat→Option (List Int)} {root:Int} {mt:ByteArray} (fr to:ByteArray) (M:Int) (hpg:pg≤400) (r:Nat) (l:List Pr) (hU:U r=some (some (leafB l))) (hr32:r<4294967296) (hs:Srt l) (hf:Fit l) (hz:szP l≤480) (hll:l.length≤400) (w:World) (hS:PgS w0 w gp g mb kv kP pg k U L root mt) :
  Calls Tryz.prog 18 #[.pointer (some ⟨gp,0,none⟩),.int .u32 (r:Int),.string fr,.string to,.int .i64 M] w fun e w'=>∃v',e=.returned (.tuple #[v',.int .i64 0])∧w'.ownsRow w.heap.size 44 2 v' (scanK l fr to M l.length).length (prs (scanK l fr to M l.length))∧Below w.heap.size w w':=by
 have HS:Hid (PgS w0 w gp g mb kv kP pg k U L root mt):=hS
 have HUU:Hid (U r=some (some (leafB l))):=hU
 have HLC:Hid (leafCode l=0):=eV hs hf hz
 have hm:=Mem.start w
 clear hS hU hs hf
 go_enter Tryz.func18,Tryz.ntmps18
 go_wp2_with (first
  | (go_at_call 30;refine (bT gp _).mono ?_;rintro e w2 ⟨q,rfl,hq4,hqg,hb⟩;have HQ:Hid (w2.heap[q]?=some (.map #[] 0)):=hq4;have HQG:Hid (w.heap.size≤q):=Nat.le_trans hm.size hqg;replace hm:=hm.call hb;clear hb hq4 hqg)
  | ((with_reducible refine aa (some 19) (.build 92 #[(0,.tmp 15),(1,.tmp 16),(2,.tmp 17),(3,.tmp 18)]) ?_);go_must (refine aB [.pointer (some ⟨gp,0,none⟩),.map (some q),.string fr,.string to,.int .i64 M,.slice none 0 0] _ rfl (built_scn _ _ _ _ _) ?_))
  | ((with_reducible refine aa (some 12) (.alloc 92) ?_);go_must (refine az _ zero_scn hm ?_);clear hm;intro w3 gs hb5 hm;replace HQ:Hid (w3.heap[q]?=some (.map #[] 0)):=(hb5.block q (Array.getElem?_eq_some_iff.1 HQ.out).1).trans HQ.out;clear hb5)
  | ((with_reducible refine aa none (.store 92 (.tmp 12) (.tmp 19)) ?_);go_must (refine bn 0 [.pointer (some ⟨gp,0,none⟩),.map (some q),.string fr,.string to,.int .i64 M,.slice none 0 0] hm rfl rfl rfl 6 sz_scn rfl rfl (by intro u hu;simp only [List.mem_cons,List.not_mem_nil,or_false] at hu;rcases hu with rfl|rfl|rfl|rfl|rfl|rfl<;>rfl) ?_);have HRX:Hid (Row w3 gs _ 92):=hm.get 0 rfl;clear hm;intro w4 hu hm;replace HQ:Hid (w4.heap[q]?=some (.map #[] 0)):=(hu.block q (Array.getElem?_eq_some_iff.1 HQ.out).1 (fun e=>ax HRX.out HQ.out e.symm)).trans HQ.out;replace hm:Mem w [] w4 [(gs,[.pointer (some ⟨gp,0,none⟩),.map (some q),.string fr,.string to,.int .i64 M,.slice none 0 0],92)]:=hm;clear hu HRX)
  | (go_at_call 35;refine (nc gs fr to M hpg q r l HUU.out hr32 HLC.out w _ HS.out hm.below HQG.out HQ.out (by omega) (hm.get 0 rfl)).mono ?_;rintro e w5 ⟨v',rfl,hu,hr5,ho5⟩;have HO5:Hid (w5.ownsRow w.heap.size 44 2 v' (scanK l fr to M l.length).length (prs (scanK l fr to M l.length))):=iy ho5 hm.size;replace hm:=Mem.new2 hm hu HQG.out HQ.out hr5;clear hu hr5 HQ ho5)
  | ((with_reducible refine aa (some 26) (.load 28 (.tmp 25)) ?_);refine ai 0 5 (v') hm rfl rfl bZ rfl ?_))
 go_ret2
 exact ⟨v',rfl,HO5.out,hm.below⟩
end Go.Proofs.YtmlbjfklaehjnaaGreatDoor
