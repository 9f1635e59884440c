import Derived.Test.YtcibhfcjbokdlaaGreatDoorQt15
set_option maxRecDepth 100000
set_option maxHeartbeats 4000000
namespace Go.Proofs.YtcibhfcjbokdlaaGreatDoor
open Go Go.RowKit
theorem term_zero (g:Nat) (R:List UInt8) (w:World) (hr:Row w g (rdv R 0) 80) :
  Calls Tryz.prog 51 #[.pointer (some ⟨g,0,none⟩)] w fun e w'=>e=.returned (.tuple #[.agg [.int .i64 0,.int .i64 0,.slice none 0 0].toArray,.bool false])∧(∃R1 r1,Row w' g (rdv R1 r1) 80)∧Upd g w w':=by
 have hm:=Mem.enter hr
 clear hr
 go_enter Tryz.func51,Tryz.ntmps51
 go_wp2_with (first
  | ((with_reducible refine af (some 2) (.alloc 24) ?_);go_must (refine ap _ ax hm ?_);clear hm;intro w1 g2 hm)
  | ((with_reducible refine af (some 11) (.load 3 (.tmp 10)) ?_);go_must (refine aa (.int .i64 0) rfl (ad (.int .i64 0) (Mem.cell hm 1 rfl 1) rfl ag) ?_))
  | ((with_reducible refine af none (.store 24 (.tmp 2) (.tmp 13)) ?_);go_must (refine au 0 ([.int .i64 0,.int .i64 0,.slice none 0 0]) hm rfl rfl rfl 3 aj rfl rfl ((by intro v hv;simp only [List.mem_cons,List.not_mem_nil,or_false] at hv;rcases hv with rfl|rfl|rfl<;>rfl)) ?_);clear hm;intro w2 hm))
 refine bJ 0 (.bool false) hm rfl Tryz.results51 rfl rfl _ Tryz.underlying24 rfl 3 aj rfl rfl ?_
 exact ⟨rfl,⟨_,_,hm.get 1 rfl⟩,hm.toUpd⟩
theorem term_nonum (g room q:Nat) (hq:room=q+1) (R:List UInt8) (w:World) (hRl:R.length≤100000) (hrm:room≤100) (hE:Esx w) (hg:10≤g) (hr:Row w g (rdv R room) 80) (k:Int) (hk:kdOf R=k) (hb:nb k=true) (hn:numV (ldg (R.drop (wd k).length))=none) :
  Calls Tryz.prog 51 #[.pointer (some ⟨g,0,none⟩)] w fun e w'=>e=.returned (.tuple #[.agg [.int .i64 0,.int .i64 0,.slice none 0 0].toArray,.bool false])∧(∃R1 r1,Row w' g (rdv R1 r1) 80)∧Upd g w w':=by
 have hm:=Mem.enter hr
 have hr0:((room:Int)==0)=false:=aD _ _ (by omega)
 have hw:IntKind.i64.wrap ((room:Int) - 1)=(q:Int):=(bm _ (by omega) (by omega)).trans (by omega)
 have hkr:1≤k∧k≤5:=by rw [←hk];exact bp R
 have HKD:Hid (∀W,Row W g (rdv R q) 80→Calls Tryz.prog 61 #[.pointer (some ⟨g,0,none⟩)] W fun e w'=>e=.returned (.int .i64 k)∧Row w' g (rdv (R.drop (wd k).length) q) 80∧Upd g W w'):=fun W hW=>by
  have:=cN R q g W hW
  rw [hk] at this
  exact this
 have HF1:Hid (∀_:Unit,∀v∈[Value.string (mkS (wd k)),.bool true,.int .i64 (kn k:Int)],v.oneCell'=true):=fun _=>by have h9:=bX k;rw [aW hkr,hb] at h9;exact h9
 have h91:=hE
 have h92:=hg
 clear h91 h92
 have HFO:Hid (∀W,Calls Tryz.prog 53 #[.int .i64 k] W fun e w'=>e=.returned (.tuple #[.agg [Value.string (mkS (wd k)),.bool true,.int .i64 (kn k:Int)].toArray,.bool true])∧Below W.heap.size W w'):=fun W=>by
  have:=bd k W
  rw [aW hkr,decide_eq_true hkr,hb] at this
  exact this
 have hdl:(R.drop (wd k).length).length≤100000:=by rw [List.length_drop];omega
 have HNU:Hid (∀W,Upd g w W→Row W g (rdv (R.drop (wd k).length) q) 80→Calls Tryz.prog 62 #[.pointer (some ⟨g,0,none⟩)] W fun e w'=>e=.returned (.tuple #[.int .i64 0,.bool false])∧Row w' g (rdv (R.drop (wd k).length) q) 80∧Upd g W w'):=fun W hW hr=>number_no hn q g W hdl (hE.upd hW hg) hg hr
 clear hE hr hk hb hn hkr hdl hRl hrm hq
 go_enter Tryz.func51,Tryz.ntmps51
 go_wp2_with (first
  | ((with_reducible refine af (some 2) (.alloc 24) ?_);go_must (refine ap _ ax hm ?_);clear hm;intro w1 g2 hm)
  | ((with_reducible refine af (some 11) (.load 3 (.tmp 10)) ?_);go_must (refine aa (.int .i64 (room:Int)) rfl (ad (.int .i64 (room:Int)) (Mem.cell hm 1 rfl 1) rfl ag) ?_))
  | ((with_reducible refine af (some 17) (.load 3 (.tmp 16)) ?_);go_must (refine aa (.int .i64 (room:Int)) rfl (ad (.int .i64 (room:Int)) (Mem.cell hm 1 rfl 1) rfl ag) ?_))
  | ((with_reducible refine af none (.store 3 (.tmp 20) (.tmp 18)) ?_);go_must (refine bz 1 1 (.int .i64 (q:Int)) hm rfl rfl rfl cG (by show 1<2;omega) rfl rfl ?_);clear hm;intro w3 hm)
  | (go_at_call 61;go_must (refine (HKD.out _ (hm.get 1 rfl)).mono ?_);rintro e w4 ⟨he,hr,hu⟩;subst he;replace hm:=hm.upd 1 rfl hu hr;clear hr hu)
  | ((with_reducible refine af (some 4) (.alloc 24) ?_);go_must (refine ap _ ax hm ?_);clear hm;intro w5 g4 hm)
  | ((with_reducible refine af none (.store 24 (.tmp 4) (.tmp 23)) ?_);go_must (refine au 0 ([.int .i64 k,.int .i64 0,.slice none 0 0]) hm rfl rfl rfl 3 aj rfl rfl ((by intro v hv;simp only [List.mem_cons,List.not_mem_nil,or_false] at hv;rcases hv with rfl|rfl|rfl<;>rfl)) ?_);clear hm;intro w6 hm)
  | ((with_reducible refine af (some 26) (.load 3 (.tmp 25)) ?_);go_must (refine aa (.int .i64 k) rfl (ad (.int .i64 k) (Mem.cell hm 0 rfl 0) rfl ag) ?_))
  | (go_at_call 53;go_must (refine (HFO.out _).mono ?_);rintro e w7 ⟨he,hb⟩;subst he;replace hm:=hm.call hb;clear hb)
  | ((with_reducible refine af (some 5) (.alloc 85) ?_);go_must (refine ap _ aI hm ?_);clear hm;intro w8 g5 hm)
  | ((with_reducible refine af none (.store 85 (.tmp 5) (.tmp 28)) ?_);go_must (refine au 0 ([Value.string (mkS (wd k)),.bool true,.int .i64 (kn k:Int)]) hm rfl rfl rfl 3 aJ rfl rfl ((HF1.out ())) ?_);clear hm;intro w9 hm)
  | ((with_reducible refine af (some 31) (.load 4 (.tmp 30)) ?_);go_must (refine aa (.bool true) rfl (ad (.bool true) (Mem.cell hm 0 rfl 1) rfl bM) ?_))
  | ((with_reducible refine af (some 42) (.load 3 (.tmp 41)) ?_);go_must (refine aa (.int .i64 (kn k:Int)) rfl (ad (.int .i64 (kn k:Int)) (Mem.cell hm 0 rfl 2) rfl ag) ?_))
  | (go_at_call 62;go_must (refine (HNU.out _ hm.toUpd (hm.get 3 rfl)).mono ?_);rintro e w10 ⟨he,hr,hu⟩;subst he;replace hm:=hm.upd 3 rfl hu hr;clear hr hu)
  | ((with_reducible refine af none (.store 3 (.tmp 37) (.tmp 35)) ?_);go_must (refine bz 1 1 (.int .i64 0) hm rfl rfl rfl cG (by show 1<3;omega) rfl rfl ?_);clear hm;intro w11 hm)
  | ((with_reducible refine af none (.store 24 (.tmp 2) (.tmp 40)) ?_);go_must (refine au 2 ([.int .i64 0,.int .i64 0,.slice none 0 0]) hm rfl rfl rfl 3 aj rfl rfl ((by intro v hv;simp only [List.mem_cons,List.not_mem_nil,or_false] at hv;rcases hv with rfl|rfl|rfl<;>rfl)) ?_);clear hm;intro w12 hm))
 refine bJ 2 (.bool false) hm rfl Tryz.results51 rfl rfl _ Tryz.underlying24 rfl 3 aj rfl rfl ?_
 exact ⟨rfl,⟨_,_,hm.get 3 rfl⟩,hm.toUpd⟩
theorem term_leaf (g room q:Nat) (hq:room=q+1) (R:List UInt8) (w:World) (hRl:R.length≤100000) (hrm:room≤100) (hE:Esx w) (hg:10≤g) (hr:Row w g (rdv R room) 80) (k:Int) (hk:kdOf R=k) (hb:nb k=true) (n:Int) (hn:numV (ldg (R.drop (wd k).length))=some n) (hk0:kn k=0) :
  Calls Tryz.prog 51 #[.pointer (some ⟨g,0,none⟩)] w fun e w'=>∃s,e=.returned (.tuple #[.agg (tcs (mkT k n []) s).toArray,.bool true])∧SlT (FN w.heap.size w'.heap.size) w' s []∧Row w' g (rdv ((R.drop (wd k).length).drop (ldg (R.drop (wd k).length)).length) q) 80∧Upd g w w':=by
 have hm:=Mem.enter hr
 have hr0:((room:Int)==0)=false:=aD _ _ (by omega)
 have hw:IntKind.i64.wrap ((room:Int) - 1)=(q:Int):=(bm _ (by omega) (by omega)).trans (by omega)
 have hkr:1≤k∧k≤5:=by rw [←hk];exact bp R
 have HKD:Hid (∀W,Row W g (rdv R q) 80→Calls Tryz.prog 61 #[.pointer (some ⟨g,0,none⟩)] W fun e w'=>e=.returned (.int .i64 k)∧Row w' g (rdv (R.drop (wd k).length) q) 80∧Upd g W w'):=fun W hW=>by
  have:=cN R q g W hW
  rw [hk] at this
  exact this
 have HF1:Hid (∀_:Unit,∀v∈[Value.string (mkS (wd k)),.bool true,.int .i64 (kn k:Int)],v.oneCell'=true):=fun _=>by have h9:=bX k;rw [aW hkr,hb] at h9;exact h9
 have h91:=hE
 have h92:=hg
 clear h91 h92
 have HFO:Hid (∀W,Calls Tryz.prog 53 #[.int .i64 k] W fun e w'=>e=.returned (.tuple #[.agg [Value.string (mkS (wd k)),.bool true,.int .i64 (kn k:Int)].toArray,.bool true])∧Below W.heap.size W w'):=fun W=>by
  have:=bd k W
  rw [aW hkr,decide_eq_true hkr,hb] at this
  exact this
 have hdl:(R.drop (wd k).length).length≤100000:=by rw [List.length_drop];omega
 have HNU:Hid (∀W,Upd g w W→Row W g (rdv (R.drop (wd k).length) q) 80→Calls Tryz.prog 62 #[.pointer (some ⟨g,0,none⟩)] W fun e w'=>e=.returned (.tuple #[.int .i64 n,.bool true])∧Row w' g (rdv ((R.drop (wd k).length).drop (ldg (R.drop (wd k).length)).length) q) 80∧Upd g W w'):=fun W _ hr=>dJ hn q g W hdl hr
 have hz:¬(kn k:Int) > 0:=by omega
 clear hE hr hk hb hn hkr hdl hRl hrm hq hk0
 go_enter Tryz.func51,Tryz.ntmps51
 go_wp2_with (first
  | ((with_reducible refine af (some 2) (.alloc 24) ?_);go_must (refine ap _ ax hm ?_);clear hm;intro w1 g2 hm)
  | ((with_reducible refine af (some 11) (.load 3 (.tmp 10)) ?_);go_must (refine aa (.int .i64 (room:Int)) rfl (ad (.int .i64 (room:Int)) (Mem.cell hm 1 rfl 1) rfl ag) ?_))
  | ((with_reducible refine af (some 17) (.load 3 (.tmp 16)) ?_);go_must (refine aa (.int .i64 (room:Int)) rfl (ad (.int .i64 (room:Int)) (Mem.cell hm 1 rfl 1) rfl ag) ?_))
  | ((with_reducible refine af none (.store 3 (.tmp 20) (.tmp 18)) ?_);go_must (refine bz 1 1 (.int .i64 (q:Int)) hm rfl rfl rfl cG (by show 1<2;omega) rfl rfl ?_);clear hm;intro w3 hm)
  | (go_at_call 61;go_must (refine (HKD.out _ (hm.get 1 rfl)).mono ?_);rintro e w4 ⟨he,hr,hu⟩;subst he;replace hm:=hm.upd 1 rfl hu hr;clear hr hu)
  | ((with_reducible refine af (some 4) (.alloc 24) ?_);go_must (refine ap _ ax hm ?_);clear hm;intro w5 g4 hm)
  | ((with_reducible refine af none (.store 24 (.tmp 4) (.tmp 23)) ?_);go_must (refine au 0 ([.int .i64 k,.int .i64 0,.slice none 0 0]) hm rfl rfl rfl 3 aj rfl rfl ((by intro v hv;simp only [List.mem_cons,List.not_mem_nil,or_false] at hv;rcases hv with rfl|rfl|rfl<;>rfl)) ?_);clear hm;intro w6 hm)
  | ((with_reducible refine af (some 26) (.load 3 (.tmp 25)) ?_);go_must (refine aa (.int .i64 k) rfl (ad (.int .i64 k) (Mem.cell hm 0 rfl 0) rfl ag) ?_))
  | (go_at_call 53;go_must (refine (HFO.out _).mono ?_);rintro e w7 ⟨he,hb⟩;subst he;replace hm:=hm.call hb;clear hb)
  | ((with_reducible refine af (some 5) (.alloc 85) ?_);go_must (refine ap _ aI hm ?_);clear hm;intro w8 g5 hm)
  | ((with_reducible refine af none (.store 85 (.tmp 5) (.tmp 28)) ?_);go_must (refine au 0 ([Value.string (mkS (wd k)),.bool true,.int .i64 (kn k:Int)]) hm rfl rfl rfl 3 aJ rfl rfl ((HF1.out ())) ?_);clear hm;intro w9 hm)
  | ((with_reducible refine af (some 31) (.load 4 (.tmp 30)) ?_);go_must (refine aa (.bool true) rfl (ad (.bool true) (Mem.cell hm 0 rfl 1) rfl bM) ?_))
  | ((with_reducible refine af (some 42) (.load 3 (.tmp 41)) ?_);go_must (refine aa (.int .i64 (kn k:Int)) rfl (ad (.int .i64 (kn k:Int)) (Mem.cell hm 0 rfl 2) rfl ag) ?_))
  | (go_at_call 62;go_must (refine (HNU.out _ hm.toUpd (hm.get 3 rfl)).mono ?_);rintro e w10 ⟨he,hr,hu⟩;subst he;replace hm:=hm.upd 3 rfl hu hr;clear hr hu)
  | ((with_reducible refine af none (.store 3 (.tmp 37) (.tmp 35)) ?_);go_must (refine bz 1 1 (.int .i64 n) hm rfl rfl rfl cG (by show 1<3;omega) rfl rfl ?_);clear hm;intro wk hm)
  | ((with_reducible refine af (some 55) (.load 24 (.tmp 4)) ?_);go_must (refine aE 1 hm rfl rfl _ Tryz.underlying24 rfl 3 aj rfl ?_))
  | ((with_reducible refine af none (.store 24 (.tmp 2) (.tmp 55)) ?_);go_must (refine au 2 ([.int .i64 k,.int .i64 n,.slice none 0 0]) hm rfl rfl rfl 3 aj rfl rfl ((by intro v hv;simp only [List.mem_cons,List.not_mem_nil,or_false] at hv;rcases hv with rfl|rfl|rfl<;>rfl)) ?_);clear hm;intro w12 hm))
 refine bJ 2 (.bool true) hm rfl Tryz.results51 rfl rfl _ Tryz.underlying24 rfl 3 aj rfl rfl ?_
 exact ⟨_,rfl,SlT.nil,hm.get 3 rfl,hm.toUpd⟩
theorem d5 (g room q:Nat) (hq:room=q+1) (R:List UInt8) (w:World) (hRl:R.length≤100000) (hrm:room≤100) (hE:Esx w) (hg:10≤g) (hr:Row w g (rdv R room) 80) (k:Int) (hk:kdOf R=k) (hb:nb k=true) (n:Int) (hn:numV (ldg (R.drop (wd k).length))=some n) (hk0:kn k≠0) (HKI:∀W,Upd g w W→Row W g (rdv ((R.drop (wd k).length).drop (ldg (R.drop (wd k).length)).length) q) 80→Calls Tryz.prog 63 #[.pointer (some ⟨g,0,none⟩),.int .i64 (kn k:Int)] W fun e w'=>∃p m c,e=.returned (.tuple #[.slice p m c,.bool false])∧(∃R1 r1,Row w' g (rdv R1 r1) 80)∧Upd g W w') :
  Calls Tryz.prog 51 #[.pointer (some ⟨g,0,none⟩)] w fun e w'=>e=.returned (.tuple #[.agg [.int .i64 0,.int .i64 0,.slice none 0 0].toArray,.bool false])∧(∃R1 r1,Row w' g (rdv R1 r1) 80)∧Upd g w w':=by
 have hm:=Mem.enter hr
 have hr0:((room:Int)==0)=false:=aD _ _ (by omega)
 have hw:IntKind.i64.wrap ((room:Int) - 1)=(q:Int):=(bm _ (by omega) (by omega)).trans (by omega)
 have hkr:1≤k∧k≤5:=by rw [←hk];exact bp R
 have HKD:Hid (∀W,Row W g (rdv R q) 80→Calls Tryz.prog 61 #[.pointer (some ⟨g,0,none⟩)] W fun e w'=>e=.returned (.int .i64 k)∧Row w' g (rdv (R.drop (wd k).length) q) 80∧Upd g W w'):=fun W hW=>by
  have:=cN R q g W hW
  rw [hk] at this
  exact this
 have HF1:Hid (∀_:Unit,∀v∈[Value.string (mkS (wd k)),.bool true,.int .i64 (kn k:Int)],v.oneCell'=true):=fun _=>by have h9:=bX k;rw [aW hkr,hb] at h9;exact h9
 have h91:=hE
 have h92:=hg
 clear h91 h92
 have HFO:Hid (∀W,Calls Tryz.prog 53 #[.int .i64 k] W fun e w'=>e=.returned (.tuple #[.agg [Value.string (mkS (wd k)),.bool true,.int .i64 (kn k:Int)].toArray,.bool true])∧Below W.heap.size W w'):=fun W=>by
  have:=bd k W
  rw [aW hkr,decide_eq_true hkr,hb] at this
  exact this
 have hdl:(R.drop (wd k).length).length≤100000:=by rw [List.length_drop];omega
 have HNU:Hid (∀W,Upd g w W→Row W g (rdv (R.drop (wd k).length) q) 80→Calls Tryz.prog 62 #[.pointer (some ⟨g,0,none⟩)] W fun e w'=>e=.returned (.tuple #[.int .i64 n,.bool true])∧Row w' g (rdv ((R.drop (wd k).length).drop (ldg (R.drop (wd k).length)).length) q) 80∧Upd g W w'):=fun W _ hr=>dJ hn q g W hdl hr
 have hz:(kn k:Int) > 0:=by omega
 have HKI2:Hid _:=HKI
 clear HKI
 clear hE hr hk hb hkr hdl hRl hrm hq hk0 hn
 go_enter Tryz.func51,Tryz.ntmps51
 go_wp2_with (first
  | ((with_reducible refine af (some 2) (.alloc 24) ?_);go_must (refine ap _ ax hm ?_);clear hm;intro w1 g2 hm)
  | ((with_reducible refine af (some 11) (.load 3 (.tmp 10)) ?_);go_must (refine aa (.int .i64 (room:Int)) rfl (ad (.int .i64 (room:Int)) (Mem.cell hm 1 rfl 1) rfl ag) ?_))
  | ((with_reducible refine af (some 17) (.load 3 (.tmp 16)) ?_);go_must (refine aa (.int .i64 (room:Int)) rfl (ad (.int .i64 (room:Int)) (Mem.cell hm 1 rfl 1) rfl ag) ?_))
  | ((with_reducible refine af none (.store 3 (.tmp 20) (.tmp 18)) ?_);go_must (refine bz 1 1 (.int .i64 (q:Int)) hm rfl rfl rfl cG (by show 1<2;omega) rfl rfl ?_);clear hm;intro w3 hm)
  | (go_at_call 61;go_must (refine (HKD.out _ (hm.get 1 rfl)).mono ?_);rintro e w4 ⟨he,hr,hu⟩;subst he;replace hm:=hm.upd 1 rfl hu hr;clear hr hu)
  | ((with_reducible refine af (some 4) (.alloc 24) ?_);go_must (refine ap _ ax hm ?_);clear hm;intro w5 g4 hm)
  | ((with_reducible refine af none (.store 24 (.tmp 4) (.tmp 23)) ?_);go_must (refine au 0 ([.int .i64 k,.int .i64 0,.slice none 0 0]) hm rfl rfl rfl 3 aj rfl rfl ((by intro v hv;simp only [List.mem_cons,List.not_mem_nil,or_false] at hv;rcases hv with rfl|rfl|rfl<;>rfl)) ?_);clear hm;intro w6 hm)
  | ((with_reducible refine af (some 26) (.load 3 (.tmp 25)) ?_);go_must (refine aa (.int .i64 k) rfl (ad (.int .i64 k) (Mem.cell hm 0 rfl 0) rfl ag) ?_))
  | (go_at_call 53;go_must (refine (HFO.out _).mono ?_);rintro e w7 ⟨he,hb⟩;subst he;replace hm:=hm.call hb;clear hb)
  | ((with_reducible refine af (some 5) (.alloc 85) ?_);go_must (refine ap _ aI hm ?_);clear hm;intro w8 g5 hm)
  | ((with_reducible refine af none (.store 85 (.tmp 5) (.tmp 28)) ?_);go_must (refine au 0 ([Value.string (mkS (wd k)),.bool true,.int .i64 (kn k:Int)]) hm rfl rfl rfl 3 aJ rfl rfl ((HF1.out ())) ?_);clear hm;intro w9 hm)
  | ((with_reducible refine af (some 31) (.load 4 (.tmp 30)) ?_);go_must (refine aa (.bool true) rfl (ad (.bool true) (Mem.cell hm 0 rfl 1) rfl bM) ?_))
  | ((with_reducible refine af (some 42) (.load 3 (.tmp 41)) ?_);go_must (refine aa (.int .i64 (kn k:Int)) rfl (ad (.int .i64 (kn k:Int)) (Mem.cell hm 0 rfl 2) rfl ag) ?_))
  | (go_at_call 62;go_must (refine (HNU.out _ hm.toUpd (hm.get 3 rfl)).mono ?_);rintro e w10 ⟨he,hr,hu⟩;subst he;replace hm:=hm.upd 3 rfl hu hr;clear hr hu)
  | ((with_reducible refine af none (.store 3 (.tmp 37) (.tmp 35)) ?_);go_must (refine bz 1 1 (.int .i64 n) hm rfl rfl rfl cG (by show 1<3;omega) rfl rfl ?_);clear hm;intro wk hm)
  | ((with_reducible refine af (some 47) (.load 3 (.tmp 46)) ?_);go_must (refine aa (.int .i64 (kn k:Int)) rfl (ad (.int .i64 (kn k:Int)) (Mem.cell hm 0 rfl 2) rfl ag) ?_))
  | (go_at_call 63;go_must (refine (HKI2.out _ hm.toUpd (hm.get 3 rfl)).mono ?_);rintro e w11 ⟨p9,m9,c9,he,⟨R9,r9,hr⟩,hu⟩;subst he;replace hm:=hm.upd 3 rfl hu hr;clear hr hu)
  | ((with_reducible refine af none (.store 22 (.tmp 51) (.tmp 49)) ?_);go_must (refine bz 1 2 (.slice p9 m9 c9) hm rfl rfl rfl dU (by show 2<3;omega) rfl rfl ?_);clear hm;intro w12 hm)
  | ((with_reducible refine af none (.store 24 (.tmp 2) (.tmp 54)) ?_);go_must (refine au 2 ([.int .i64 0,.int .i64 0,.slice none 0 0]) hm rfl rfl rfl 3 aj rfl rfl ((by intro v hv;simp only [List.mem_cons,List.not_mem_nil,or_false] at hv;rcases hv with rfl|rfl|rfl<;>rfl)) ?_);clear hm;intro w13 hm))
 refine bJ 2 (.bool false) hm rfl Tryz.results51 rfl rfl _ Tryz.underlying24 rfl 3 aj rfl rfl ?_
 exact ⟨rfl,⟨_,_,hm.get 3 rfl⟩,hm.toUpd⟩
theorem ff (g room q:Nat) (hq:room=q+1) (R:List UInt8) (w:World) (hRl:R.length≤100000) (hrm:room≤100) (hE:Esx w) (hg:10≤g) (hr:Row w g (rdv R room) 80) (k:Int) (hk:kdOf R=k) (hb:nb k=true) (n:Int) (hn:numV (ldg (R.drop (wd k).length))=some n) (l:List Tm) (S1:List UInt8) (r1:Nat) (hk0:kn k≠0) (HKI:∀W,Upd g w W→Row W g (rdv ((R.drop (wd k).length).drop (ldg (R.drop (wd k).length)).length) q) 80→Calls Tryz.prog 63 #[.pointer (some ⟨g,0,none⟩),.int .i64 (kn k:Int)] W fun e w'=>∃v,e=.returned (.tuple #[v,.bool true])∧SlT (FN W.heap.size w'.heap.size) w' v l∧Row w' g (rdv S1 r1) 80∧Upd g W w') :
  Calls Tryz.prog 51 #[.pointer (some ⟨g,0,none⟩)] w fun e w'=>∃s,e=.returned (.tuple #[.agg (tcs (mkT k n l) s).toArray,.bool true])∧SlT (FN w.heap.size w'.heap.size) w' s l∧Row w' g (rdv S1 r1) 80∧Upd g w w':=by
 have hm:=Mem.enter hr
 have hr0:((room:Int)==0)=false:=aD _ _ (by omega)
 have hw:IntKind.i64.wrap ((room:Int) - 1)=(q:Int):=(bm _ (by omega) (by omega)).trans (by omega)
 have hkr:1≤k∧k≤5:=by rw [←hk];exact bp R
 have HKD:Hid (∀W,Row W g (rdv R q) 80→Calls Tryz.prog 61 #[.pointer (some ⟨g,0,none⟩)] W fun e w'=>e=.returned (.int .i64 k)∧Row w' g (rdv (R.drop (wd k).length) q) 80∧Upd g W w'):=fun W hW=>by
  have:=cN R q g W hW
  rw [hk] at this
  exact this
 have HF1:Hid (∀_:Unit,∀v∈[Value.string (mkS (wd k)),.bool true,.int .i64 (kn k:Int)],v.oneCell'=true):=fun _=>by have h9:=bX k;rw [aW hkr,hb] at h9;exact h9
 have h91:=hE
 have h92:=hg
 clear h91 h92
 have HFO:Hid (∀W,Calls Tryz.prog 53 #[.int .i64 k] W fun e w'=>e=.returned (.tuple #[.agg [Value.string (mkS (wd k)),.bool true,.int .i64 (kn k:Int)].toArray,.bool true])∧Below W.heap.size W w'):=fun W=>by
  have:=bd k W
  rw [aW hkr,decide_eq_true hkr,hb] at this
  exact this
 have hdl:(R.drop (wd k).length).length≤100000:=by rw [List.length_drop];omega
 have HNU:Hid (∀W,Upd g w W→Row W g (rdv (R.drop (wd k).length) q) 80→Calls Tryz.prog 62 #[.pointer (some ⟨g,0,none⟩)] W fun e w'=>e=.returned (.tuple #[.int .i64 n,.bool true])∧Row w' g (rdv ((R.drop (wd k).length).drop (ldg (R.drop (wd k).length)).length) q) 80∧Upd g W w'):=fun W _ hr=>dJ hn q g W hdl hr
 have hz:(kn k:Int) > 0:=by omega
 have HKI2:Hid _:=HKI
 clear HKI
 clear hE hr hk hb hkr hdl hRl hrm hq hk0 hn
 go_enter Tryz.func51,Tryz.ntmps51
 go_wp2_with (first
  | ((with_reducible refine af (some 2) (.alloc 24) ?_);go_must (refine ap _ ax hm ?_);clear hm;intro w1 g2 hm)
  | ((with_reducible refine af (some 11) (.load 3 (.tmp 10)) ?_);go_must (refine aa (.int .i64 (room:Int)) rfl (ad (.int .i64 (room:Int)) (Mem.cell hm 1 rfl 1) rfl ag) ?_))
  | ((with_reducible refine af (some 17) (.load 3 (.tmp 16)) ?_);go_must (refine aa (.int .i64 (room:Int)) rfl (ad (.int .i64 (room:Int)) (Mem.cell hm 1 rfl 1) rfl ag) ?_))
  | ((with_reducible refine af none (.store 3 (.tmp 20) (.tmp 18)) ?_);go_must (refine bz 1 1 (.int .i64 (q:Int)) hm rfl rfl rfl cG (by show 1<2;omega) rfl rfl ?_);clear hm;intro w3 hm)
  | (go_at_call 61;go_must (refine (HKD.out _ (hm.get 1 rfl)).mono ?_);rintro e w4 ⟨he,hr,hu⟩;subst he;replace hm:=hm.upd 1 rfl hu hr;clear hr hu)
  | ((with_reducible refine af (some 4) (.alloc 24) ?_);go_must (refine ap _ ax hm ?_);clear hm;intro w5 g4 hm)
  | ((with_reducible refine af none (.store 24 (.tmp 4) (.tmp 23)) ?_);go_must (refine au 0 ([.int .i64 k,.int .i64 0,.slice none 0 0]) hm rfl rfl rfl 3 aj rfl rfl ((by intro v hv;simp only [List.mem_cons,List.not_mem_nil,or_false] at hv;rcases hv with rfl|rfl|rfl<;>rfl)) ?_);clear hm;intro w6 hm)
  | ((with_reducible refine af (some 26) (.load 3 (.tmp 25)) ?_);go_must (refine aa (.int .i64 k) rfl (ad (.int .i64 k) (Mem.cell hm 0 rfl 0) rfl ag) ?_))
  | (go_at_call 53;go_must (refine (HFO.out _).mono ?_);rintro e w7 ⟨he,hb⟩;subst he;replace hm:=hm.call hb;clear hb)
  | ((with_reducible refine af (some 5) (.alloc 85) ?_);go_must (refine ap _ aI hm ?_);clear hm;intro w8 g5 hm)
  | ((with_reducible refine af none (.store 85 (.tmp 5) (.tmp 28)) ?_);go_must (refine au 0 ([Value.string (mkS (wd k)),.bool true,.int .i64 (kn k:Int)]) hm rfl rfl rfl 3 aJ rfl rfl ((HF1.out ())) ?_);clear hm;intro w9 hm)
  | ((with_reducible refine af (some 31) (.load 4 (.tmp 30)) ?_);go_must (refine aa (.bool true) rfl (ad (.bool true) (Mem.cell hm 0 rfl 1) rfl bM) ?_))
  | ((with_reducible refine af (some 42) (.load 3 (.tmp 41)) ?_);go_must (refine aa (.int .i64 (kn k:Int)) rfl (ad (.int .i64 (kn k:Int)) (Mem.cell hm 0 rfl 2) rfl ag) ?_))
  | (go_at_call 62;go_must (refine (HNU.out _ hm.toUpd (hm.get 3 rfl)).mono ?_);rintro e w10 ⟨he,hr,hu⟩;subst he;replace hm:=hm.upd 3 rfl hu hr;clear hr hu)
  | ((with_reducible refine af none (.store 3 (.tmp 37) (.tmp 35)) ?_);go_must (refine bz 1 1 (.int .i64 n) hm rfl rfl rfl cG (by show 1<3;omega) rfl rfl ?_);clear hm;intro wk hm)
  | ((with_reducible refine af (some 47) (.load 3 (.tmp 46)) ?_);go_must (refine aa (.int .i64 (kn k:Int)) rfl (ad (.int .i64 (kn k:Int)) (Mem.cell hm 0 rfl 2) rfl ag) ?_))
  | (go_at_call 63;go_must (refine (HKI2.out _ hm.toUpd (hm.get 3 rfl)).mono ?_);rintro e w11 ⟨v11,he,hsv,hr,hu⟩;subst he;have HSV:Hid (SlT (FN wk.heap.size w11.heap.size) w11 v11 l):=hsv;obtain ⟨p9,c9,hv9,_⟩:=hsv.len;subst hv9;have HLT:Hid (g4<wk.heap.size∧g2<wk.heap.size∧w.heap.size≤wk.heap.size):=⟨(hm.get 1 rfl).lt,(hm.get 2 rfl).lt,hm.size⟩;replace hm:=hm.upd 3 rfl hu hr;clear hr hu hsv)
  | ((with_reducible refine af none (.store 22 (.tmp 51) (.tmp 49)) ?_);go_must (refine bW 1 2 (.slice p9 l.length c9) hm rfl rfl rfl dU (by show 2<3;omega) rfl rfl ?_);clear hm;intro w12 hu12 hm;have HSV2:Hid (SlT (FN wk.heap.size w12.heap.size) w12 (.slice p9 l.length c9) l):=(HSV.out.keep (Keeps.upd hu12 (fun b hb he=>by have h8:=HLT.out;have h9:=hb.1;omega))).weak (fun b hb=>⟨hb.1,Nat.lt_of_lt_of_le hb.2 hu12.size⟩);clear HSV hu12)
  | ((with_reducible refine af (some 55) (.load 24 (.tmp 4)) ?_);go_must (refine aE 1 hm rfl rfl _ Tryz.underlying24 rfl 3 aj rfl ?_))
  | ((with_reducible refine af none (.store 24 (.tmp 2) (.tmp 55)) ?_);go_must (refine bq 2 [.int .i64 k,.int .i64 n,.slice p9 l.length c9] hm rfl rfl rfl 3 aj rfl rfl (by intro v hv;simp only [List.mem_cons,List.not_mem_nil,or_false] at hv;rcases hv with rfl|rfl|rfl<;>rfl) ?_);clear hm;intro w13 hu13 hm;have HSV3:Hid (SlT (FN wk.heap.size w13.heap.size) w13 (.slice p9 l.length c9) l):=(HSV2.out.keep (Keeps.upd hu13 (fun b hb he=>by have h8:=HLT.out;have h9:=hb.1;omega))).weak (fun b hb=>⟨hb.1,Nat.lt_of_lt_of_le hb.2 hu13.size⟩);clear HSV2 hu13))
 refine bJ 2 (.bool true) hm rfl Tryz.results51 rfl rfl _ Tryz.underlying24 rfl 3 aj rfl rfl ?_
 exact ⟨_,rfl,HSV3.out.weak (fun b hb=>⟨Nat.le_trans HLT.out.2.2 hb.1,hb.2⟩),hm.get 3 rfl,hm.toUpd⟩
theorem dI (g room q:Nat) (hq:room=q+1) (R:List UInt8) (w:World) (hRl:R.length≤100000) (hrm:room≤100) (hE:Esx w) (hg:10≤g) (hr:Row w g (rdv R room) 80) (k:Int) (hk:kdOf R=k) (hb:nb k=false) (hk0:kn k≠0) (HKI:∀W,Upd g w W→Row W g (rdv (R.drop (wd k).length) q) 80→Calls Tryz.prog 63 #[.pointer (some ⟨g,0,none⟩),.int .i64 (kn k:Int)] W fun e w'=>∃p m c,e=.returned (.tuple #[.slice p m c,.bool false])∧(∃R1 r1,Row w' g (rdv R1 r1) 80)∧Upd g W w') :
  Calls Tryz.prog 51 #[.pointer (some ⟨g,0,none⟩)] w fun e w'=>e=.returned (.tuple #[.agg [.int .i64 0,.int .i64 0,.slice none 0 0].toArray,.bool false])∧(∃R1 r1,Row w' g (rdv R1 r1) 80)∧Upd g w w':=by
 have hm:=Mem.enter hr
 have hr0:((room:Int)==0)=false:=aD _ _ (by omega)
 have hw:IntKind.i64.wrap ((room:Int) - 1)=(q:Int):=(bm _ (by omega) (by omega)).trans (by omega)
 have hkr:1≤k∧k≤5:=by rw [←hk];exact bp R
 have HKD:Hid (∀W,Row W g (rdv R q) 80→Calls Tryz.prog 61 #[.pointer (some ⟨g,0,none⟩)] W fun e w'=>e=.returned (.int .i64 k)∧Row w' g (rdv (R.drop (wd k).length) q) 80∧Upd g W w'):=fun W hW=>by
  have:=cN R q g W hW
  rw [hk] at this
  exact this
 have HF1:Hid (∀_:Unit,∀v∈[Value.string (mkS (wd k)),.bool false,.int .i64 (kn k:Int)],v.oneCell'=true):=fun _=>by have h9:=bX k;rw [aW hkr,hb] at h9;exact h9
 have h91:=hE
 have h92:=hg
 clear h91 h92
 have HFO:Hid (∀W,Calls Tryz.prog 53 #[.int .i64 k] W fun e w'=>e=.returned (.tuple #[.agg [Value.string (mkS (wd k)),.bool false,.int .i64 (kn k:Int)].toArray,.bool true])∧Below W.heap.size W w'):=fun W=>by
  have:=bd k W
  rw [aW hkr,decide_eq_true hkr,hb] at this
  exact this
 have hdl:(R.drop (wd k).length).length≤100000:=by rw [List.length_drop];omega
 have hz:(kn k:Int) > 0:=by omega
 have HKI2:Hid _:=HKI
 clear HKI
 clear hE hr hk hb hkr hdl hRl hrm hq hk0
 go_enter Tryz.func51,Tryz.ntmps51
 go_wp2_with (first
  | ((with_reducible refine af (some 2) (.alloc 24) ?_);go_must (refine ap _ ax hm ?_);clear hm;intro w1 g2 hm)
  | ((with_reducible refine af (some 11) (.load 3 (.tmp 10)) ?_);go_must (refine aa (.int .i64 (room:Int)) rfl (ad (.int .i64 (room:Int)) (Mem.cell hm 1 rfl 1) rfl ag) ?_))
  | ((with_reducible refine af (some 17) (.load 3 (.tmp 16)) ?_);go_must (refine aa (.int .i64 (room:Int)) rfl (ad (.int .i64 (room:Int)) (Mem.cell hm 1 rfl 1) rfl ag) ?_))
  | ((with_reducible refine af none (.store 3 (.tmp 20) (.tmp 18)) ?_);go_must (refine bz 1 1 (.int .i64 (q:Int)) hm rfl rfl rfl cG (by show 1<2;omega) rfl rfl ?_);clear hm;intro w3 hm)
  | (go_at_call 61;go_must (refine (HKD.out _ (hm.get 1 rfl)).mono ?_);rintro e w4 ⟨he,hr,hu⟩;subst he;replace hm:=hm.upd 1 rfl hu hr;clear hr hu)
  | ((with_reducible refine af (some 4) (.alloc 24) ?_);go_must (refine ap _ ax hm ?_);clear hm;intro w5 g4 hm)
  | ((with_reducible refine af none (.store 24 (.tmp 4) (.tmp 23)) ?_);go_must (refine au 0 ([.int .i64 k,.int .i64 0,.slice none 0 0]) hm rfl rfl rfl 3 aj rfl rfl ((by intro v hv;simp only [List.mem_cons,List.not_mem_nil,or_false] at hv;rcases hv with rfl|rfl|rfl<;>rfl)) ?_);clear hm;intro w6 hm)
  | ((with_reducible refine af (some 26) (.load 3 (.tmp 25)) ?_);go_must (refine aa (.int .i64 k) rfl (ad (.int .i64 k) (Mem.cell hm 0 rfl 0) rfl ag) ?_))
  | (go_at_call 53;go_must (refine (HFO.out _).mono ?_);rintro e w7 ⟨he,hb⟩;subst he;replace hm:=hm.call hb;clear hb)
  | ((with_reducible refine af (some 5) (.alloc 85) ?_);go_must (refine ap _ aI hm ?_);clear hm;intro w8 g5 hm)
  | ((with_reducible refine af none (.store 85 (.tmp 5) (.tmp 28)) ?_);go_must (refine au 0 ([Value.string (mkS (wd k)),.bool false,.int .i64 (kn k:Int)]) hm rfl rfl rfl 3 aJ rfl rfl ((HF1.out ())) ?_);clear hm;intro wk hm)
  | ((with_reducible refine af (some 31) (.load 4 (.tmp 30)) ?_);go_must (refine aa (.bool false) rfl (ad (.bool false) (Mem.cell hm 0 rfl 1) rfl bM) ?_))
  | ((with_reducible refine af (some 42) (.load 3 (.tmp 41)) ?_);go_must (refine aa (.int .i64 (kn k:Int)) rfl (ad (.int .i64 (kn k:Int)) (Mem.cell hm 0 rfl 2) rfl ag) ?_))
  | ((with_reducible refine af (some 47) (.load 3 (.tmp 46)) ?_);go_must (refine aa (.int .i64 (kn k:Int)) rfl (ad (.int .i64 (kn k:Int)) (Mem.cell hm 0 rfl 2) rfl ag) ?_))
  | (go_at_call 63;go_must (refine (HKI2.out _ hm.toUpd (hm.get 3 rfl)).mono ?_);rintro e w11 ⟨p9,m9,c9,he,⟨R9,r9,hr⟩,hu⟩;subst he;replace hm:=hm.upd 3 rfl hu hr;clear hr hu)
  | ((with_reducible refine af none (.store 22 (.tmp 51) (.tmp 49)) ?_);go_must (refine bz 1 2 (.slice p9 m9 c9) hm rfl rfl rfl dU (by show 2<3;omega) rfl rfl ?_);clear hm;intro w12 hm)
  | ((with_reducible refine af none (.store 24 (.tmp 2) (.tmp 54)) ?_);go_must (refine au 2 ([.int .i64 0,.int .i64 0,.slice none 0 0]) hm rfl rfl rfl 3 aj rfl rfl ((by intro v hv;simp only [List.mem_cons,List.not_mem_nil,or_false] at hv;rcases hv with rfl|rfl|rfl<;>rfl)) ?_);clear hm;intro w13 hm))
 refine bJ 2 (.bool false) hm rfl Tryz.results51 rfl rfl _ Tryz.underlying24 rfl 3 aj rfl rfl ?_
 exact ⟨rfl,⟨_,_,hm.get 3 rfl⟩,hm.toUpd⟩
theorem eA (g room q:Nat) (hq:room=q+1) (R:List UInt8) (w:World) (hRl:R.length≤100000) (hrm:room≤100) (hE:Esx w) (hg:10≤g) (hr:Row w g (rdv R room) 80) (k:Int) (hk:kdOf R=k) (hb:nb k=false) (l:List Tm) (S1:List UInt8) (r1:Nat) (hk0:kn k≠0) (HKI:∀W,Upd g w W→Row W g (rdv (R.drop (wd k).length) q) 80→Calls Tryz.prog 63 #[.pointer (some ⟨g,0,none⟩),.int .i64 (kn k:Int)] W fun e w'=>∃v,e=.returned (.tuple #[v,.bool true])∧SlT (FN W.heap.size w'.heap.size) w' v l∧Row w' g (rdv S1 r1) 80∧Upd g W w') :
  Calls Tryz.prog 51 #[.pointer (some ⟨g,0,none⟩)] w fun e w'=>∃s,e=.returned (.tuple #[.agg (tcs (mkT k 0 l) s).toArray,.bool true])∧SlT (FN w.heap.size w'.heap.size) w' s l∧Row w' g (rdv S1 r1) 80∧Upd g w w':=by
 have hm:=Mem.enter hr
 have hr0:((room:Int)==0)=false:=aD _ _ (by omega)
 have hw:IntKind.i64.wrap ((room:Int) - 1)=(q:Int):=(bm _ (by omega) (by omega)).trans (by omega)
 have hkr:1≤k∧k≤5:=by rw [←hk];exact bp R
 have HKD:Hid (∀W,Row W g (rdv R q) 80→Calls Tryz.prog 61 #[.pointer (some ⟨g,0,none⟩)] W fun e w'=>e=.returned (.int .i64 k)∧Row w' g (rdv (R.drop (wd k).length) q) 80∧Upd g W w'):=fun W hW=>by
  have:=cN R q g W hW
  rw [hk] at this
  exact this
 have HF1:Hid (∀_:Unit,∀v∈[Value.string (mkS (wd k)),.bool false,.int .i64 (kn k:Int)],v.oneCell'=true):=fun _=>by have h9:=bX k;rw [aW hkr,hb] at h9;exact h9
 have h91:=hE
 have h92:=hg
 clear h91 h92
 have HFO:Hid (∀W,Calls Tryz.prog 53 #[.int .i64 k] W fun e w'=>e=.returned (.tuple #[.agg [Value.string (mkS (wd k)),.bool false,.int .i64 (kn k:Int)].toArray,.bool true])∧Below W.heap.size W w'):=fun W=>by
  have:=bd k W
  rw [aW hkr,decide_eq_true hkr,hb] at this
  exact this
 have hdl:(R.drop (wd k).length).length≤100000:=by rw [List.length_drop];omega
 have hz:(kn k:Int) > 0:=by omega
 have HKI2:Hid _:=HKI
 clear HKI
 clear hE hr hk hb hkr hdl hRl hrm hq hk0
 go_enter Tryz.func51,Tryz.ntmps51
 go_wp2_with (first
  | ((with_reducible refine af (some 2) (.alloc 24) ?_);go_must (refine ap _ ax hm ?_);clear hm;intro w1 g2 hm)
  | ((with_reducible refine af (some 11) (.load 3 (.tmp 10)) ?_);go_must (refine aa (.int .i64 (room:Int)) rfl (ad (.int .i64 (room:Int)) (Mem.cell hm 1 rfl 1) rfl ag) ?_))
  | ((with_reducible refine af (some 17) (.load 3 (.tmp 16)) ?_);go_must (refine aa (.int .i64 (room:Int)) rfl (ad (.int .i64 (room:Int)) (Mem.cell hm 1 rfl 1) rfl ag) ?_))
  | ((with_reducible refine af none (.store 3 (.tmp 20) (.tmp 18)) ?_);go_must (refine bz 1 1 (.int .i64 (q:Int)) hm rfl rfl rfl cG (by show 1<2;omega) rfl rfl ?_);clear hm;intro w3 hm)
  | (go_at_call 61;go_must (refine (HKD.out _ (hm.get 1 rfl)).mono ?_);rintro e w4 ⟨he,hr,hu⟩;subst he;replace hm:=hm.upd 1 rfl hu hr;clear hr hu)
  | ((with_reducible refine af (some 4) (.alloc 24) ?_);go_must (refine ap _ ax hm ?_);clear hm;intro w5 g4 hm)
  | ((with_reducible refine af none (.store 24 (.tmp 4) (.tmp 23)) ?_);go_must (refine au 0 ([.int .i64 k,.int .i64 0,.slice none 0 0]) hm rfl rfl rfl 3 aj rfl rfl ((by intro v hv;simp only [List.mem_cons,List.not_mem_nil,or_false] at hv;rcases hv with rfl|rfl|rfl<;>rfl)) ?_);clear hm;intro w6 hm)
  | ((with_reducible refine af (some 26) (.load 3 (.tmp 25)) ?_);go_must (refine aa (.int .i64 k) rfl (ad (.int .i64 k) (Mem.cell hm 0 rfl 0) rfl ag) ?_))
  | (go_at_call 53;go_must (refine (HFO.out _).mono ?_);rintro e w7 ⟨he,hb⟩;subst he;replace hm:=hm.call hb;clear hb)
  | ((with_reducible refine af (some 5) (.alloc 85) ?_);go_must (refine ap _ aI hm ?_);clear hm;intro w8 g5 hm)
  | ((with_reducible refine af none (.store 85 (.tmp 5) (.tmp 28)) ?_);go_must (refine au 0 ([Value.string (mkS (wd k)),.bool false,.int .i64 (kn k:Int)]) hm rfl rfl rfl 3 aJ rfl rfl ((HF1.out ())) ?_);clear hm;intro wk hm)
  | ((with_reducible refine af (some 31) (.load 4 (.tmp 30)) ?_);go_must (refine aa (.bool false) rfl (ad (.bool false) (Mem.cell hm 0 rfl 1) rfl bM) ?_))
  | ((with_reducible refine af (some 42) (.load 3 (.tmp 41)) ?_);go_must (refine aa (.int .i64 (kn k:Int)) rfl (ad (.int .i64 (kn k:Int)) (Mem.cell hm 0 rfl 2) rfl ag) ?_))
  | ((with_reducible refine af (some 47) (.load 3 (.tmp 46)) ?_);go_must (refine aa (.int .i64 (kn k:Int)) rfl (ad (.int .i64 (kn k:Int)) (Mem.cell hm 0 rfl 2) rfl ag) ?_))
  | (go_at_call 63;go_must (refine (HKI2.out _ hm.toUpd (hm.get 3 rfl)).mono ?_);rintro e w11 ⟨v11,he,hsv,hr,hu⟩;subst he;have HSV:Hid (SlT (FN wk.heap.size w11.heap.size) w11 v11 l):=hsv;obtain ⟨p9,c9,hv9,_⟩:=hsv.len;subst hv9;have HLT:Hid (g4<wk.heap.size∧g2<wk.heap.size∧w.heap.size≤wk.heap.size):=⟨(hm.get 1 rfl).lt,(hm.get 2 rfl).lt,hm.size⟩;replace hm:=hm.upd 3 rfl hu hr;clear hr hu hsv)
  | ((with_reducible refine af none (.store 22 (.tmp 51) (.tmp 49)) ?_);go_must (refine bW 1 2 (.slice p9 l.length c9) hm rfl rfl rfl dU (by show 2<3;omega) rfl rfl ?_);clear hm;intro w12 hu12 hm;have HSV2:Hid (SlT (FN wk.heap.size w12.heap.size) w12 (.slice p9 l.length c9) l):=(HSV.out.keep (Keeps.upd hu12 (fun b hb he=>by have h8:=HLT.out;have h9:=hb.1;omega))).weak (fun b hb=>⟨hb.1,Nat.lt_of_lt_of_le hb.2 hu12.size⟩);clear HSV hu12)
  | ((with_reducible refine af (some 55) (.load 24 (.tmp 4)) ?_);go_must (refine aE 1 hm rfl rfl _ Tryz.underlying24 rfl 3 aj rfl ?_))
  | ((with_reducible refine af none (.store 24 (.tmp 2) (.tmp 55)) ?_);go_must (refine bq 2 [.int .i64 k,.int .i64 0,.slice p9 l.length c9] hm rfl rfl rfl 3 aj rfl rfl (by intro v hv;simp only [List.mem_cons,List.not_mem_nil,or_false] at hv;rcases hv with rfl|rfl|rfl<;>rfl) ?_);clear hm;intro w13 hu13 hm;have HSV3:Hid (SlT (FN wk.heap.size w13.heap.size) w13 (.slice p9 l.length c9) l):=(HSV2.out.keep (Keeps.upd hu13 (fun b hb he=>by have h8:=HLT.out;have h9:=hb.1;omega))).weak (fun b hb=>⟨hb.1,Nat.lt_of_lt_of_le hb.2 hu13.size⟩);clear HSV2 hu13))
 refine bJ 2 (.bool true) hm rfl Tryz.results51 rfl rfl _ Tryz.underlying24 rfl 3 aj rfl rfl ?_
 exact ⟨_,rfl,HSV3.out.weak (fun b hb=>⟨Nat.le_trans HLT.out.2.2 hb.1,hb.2⟩),hm.get 3 rfl,hm.toUpd⟩
theorem e8 {k:Int} {s:List UInt8} (hb:nb k=true):rdNum k s=(numV (ldg s)).map (fun n=>(n,s.drop (ldg s).length)):=by rw [rdNum,hb];rfl
theorem ez {k:Int} {s:List UInt8} (hb:nb k=false):rdNum k s=some (0,s):=by rw [rdNum,hb];rfl
theorem term_both:∀f,TermYes f∧TermNo f:=by
 intro f
 induction f with
 | zero =>
  refine ⟨fun g room R w _ _ _ _ _ _ t R1 r1 h=>(by cases h),fun g room R w h1 h2 h3 hE hg hr _=>?_⟩
  obtain rfl:room=0:=by omega
  exact term_zero g R w hr
 | succ f ih =>
  obtain ⟨ihY,ihN⟩:=ih
  constructor
  ·intro g room R w h1 h2 h3 hE hg hr t R1 r1 h
   have hn6:∀k,kn k≤100:=fun k=>by unfold kn;split<;>(try split)<;>omega
   rw [rdT] at h
   split at h
   ·cases h
   ·rename_i hr0
    obtain ⟨q,hq⟩:∃q,room=q+1:=⟨room - 1,by omega⟩
    obtain ⟨k,hk⟩:∃k,kdOf R=k:=⟨_,rfl⟩
    rw [hk,show room - 1=q by omega] at h
    have hdl:(R.drop (wd k).length).length≤100000:=by rw [List.length_drop];omega
    split at h
    ·cases h
    ·rename_i n s2 hnum
     cases hb:nb k with
     | true =>
      rw [e8 hb,Option.map_eq_some_iff] at hnum
      obtain ⟨n',hn',he⟩:=hnum
      simp only [Prod.mk.injEq] at he
      obtain ⟨rfl,rfl⟩:=he
      have hdl2:((R.drop (wd k).length).drop (ldg (R.drop (wd k).length)).length).length≤100000:=by rw [List.length_drop];omega
      split at h
      ·rename_i hk0
       simp only [Option.some.injEq,Prod.mk.injEq] at h
       obtain ⟨rfl,rfl,rfl⟩:=h
       rw [aV]
       exact term_leaf g room q hq R w h1 h2 hE hg hr k hk hb n' hn' hk0
      ·rename_i hk0
       split at h
       ·cases h
       ·rename_i l s3 r3 hK
        split at h
        ·rename_i hp
         simp only [Option.some.injEq,Prod.mk.injEq] at h
         obtain ⟨rfl,rfl,rfl⟩:=h
         rw [aV]
         refine ff g room q hq R w h1 h2 hE hg hr k hk hb n' hn' l _ _ hk0 fun W hW hrW=>?_
         have h9:=ej ihY (kn k) (hn6 k) g q _ W hdl2 (by omega) (by omega) (hE.upd hW hg) hg hrW l s3 r3 hK
         rw [hp,eV hp] at h9
         exact h9
        ·cases h
     | false =>
      rw [ez hb] at hnum
      simp only [Option.some.injEq,Prod.mk.injEq] at hnum
      obtain ⟨rfl,rfl⟩:=hnum
      split at h
      ·rename_i hk0
       have hkr:=bp R
       rw [hk] at hkr
       unfold kn at hk0
       unfold nb at hb
       simp only [decide_eq_false_iff_not] at hb
       split at hk0
       ·omega
       ·split at hk0<;>omega
      ·rename_i hk0
       split at h
       ·cases h
       ·rename_i l s3 r3 hK
        split at h
        ·rename_i hp
         simp only [Option.some.injEq,Prod.mk.injEq] at h
         obtain ⟨rfl,rfl,rfl⟩:=h
         rw [aV]
         refine eA g room q hq R w h1 h2 hE hg hr k hk hb l _ _ hk0 fun W hW hrW=>?_
         have h9:=ej ihY (kn k) (hn6 k) g q _ W hdl (by omega) (by omega) (hE.upd hW hg) hg hrW l s3 r3 hK
         rw [hp,eV hp] at h9
         exact h9
        ·cases h
  ·intro g room R w h1 h2 h3 hE hg hr h
   have hn6:∀k,kn k≤100:=fun k=>by unfold kn;split<;>(try split)<;>omega
   by_cases hr0:room=0
   ·subst hr0
    exact term_zero g R w hr
   ·obtain ⟨q,hq⟩:∃q,room=q+1:=⟨room - 1,by omega⟩
    obtain ⟨k,hk⟩:∃k,kdOf R=k:=⟨_,rfl⟩
    rw [rdT,if_neg hr0,hk,show room - 1=q by omega] at h
    have hdl:(R.drop (wd k).length).length≤100000:=by rw [List.length_drop];omega
    have fin:∀ {S:List UInt8} (hS:S.length≤100000) (hh:(match rdK (rdT f) (kn k) 40 S q with|none=>(none:Option (Tm×List UInt8×Nat))|some (l,s3,r3)=>if Lib.hasPrefix s3 [41]=true then some (mkT k 0 l,s3.drop 1,r3) else none)=none) W (hW:Upd g w W) (hrW:Row W g (rdv S q) 80),
      Calls Tryz.prog 63 #[.pointer (some ⟨g,0,none⟩),.int .i64 (kn k:Int)] W fun e w'=>∃p m c,e=.returned (.tuple #[.slice p m c,.bool false])∧(∃R1 r1,Row w' g (rdv R1 r1) 80)∧Upd g W w':=by
     intro S hS hh W hW hrW
     split at hh
     ·rename_i hK
      exact kids_none ihY ihN (kn k) (hn6 k) g q S W hS (by omega) (by omega) (hE.upd hW hg) hg hrW hK
     ·rename_i l s3 r3 hK
      split at hh
      ·cases hh
      ·rename_i hp
       have hp2:Lib.hasPrefix s3 [41]=false:=by simpa using hp
       refine (ej ihY (kn k) (hn6 k) g q S W hS (by omega) (by omega) (hE.upd hW hg) hg hrW l s3 r3 hK).mono ?_
       rintro e w' ⟨v,he,hs,hr',hu⟩
       obtain ⟨p,c,hv,_⟩:=hs.len
       rw [hp2,hv] at he
       exact ⟨p,_,c,he,⟨_,_,hr'⟩,hu⟩
    cases hb:nb k with
    | true =>
     rw [e8 hb] at h
     cases hnum:numV (ldg (R.drop (wd k).length)) with
     | none=>exact term_nonum g room q hq R w h1 h2 hE hg hr k hk hb hnum
     | some n =>
      rw [hnum] at h
      simp only [Option.map_some] at h
      split at h
      ·cases h
      ·rename_i hk0
       refine d5 g room q hq R w h1 h2 hE hg hr k hk hb n hnum hk0 (fin (by rw [List.length_drop];omega) ?_)
       split at h
       ·rename_i hK;rw [hK]
       ·rename_i l s3 r3 hK
        rw [hK]
        simp only
        split at h
        ·cases h
        ·rename_i hp;rw [if_neg hp]
    | false =>
     rw [ez hb] at h
     simp only at h
     split at h
     ·cases h
     ·rename_i hk0
      refine dI g room q hq R w h1 h2 hE hg hr k hk hb hk0 (fin hdl ?_)
      exact h
theorem parse_yes (R:List UInt8) (w:World) (hRl:R.length≤100000) (hE:Esx w) (h10:10≤w.heap.size) (t:Tm) (r1:Nat) (hp:rdT 60 60 R=some (t,[],r1)) :
  Calls Tryz.prog 40 #[.string (mkS R)] w fun e w'=>∃s,e=.returned (.tuple #[.agg (tcs t s).toArray,.int .i64 0])∧SlT (FN w.heap.size w'.heap.size) w' s t.l∧Below w.heap.size w w':=by
 have hm:=Mem.start w
 have HES:Hid (Esx w):=hE
 have HTM:Hid (∀g W,Esx W→10≤g→Row W g (rdv R (60:Nat)) 80→Calls Tryz.prog 51 #[.pointer (some ⟨g,0,none⟩)] W fun e w'=>∃s,e=.returned (.tuple #[.agg (tcs t s).toArray,.bool true])∧SlT (FN W.heap.size w'.heap.size) w' s t.l∧Row w' g (rdv [] r1) 80∧Upd g W w'):=fun g W hEW hg hr=>(term_both 60).1 g 60 R W hRl (by omega) (by omega) hEW hg hr t [] r1 hp
 have HNE:Hid (∀_:Unit,(mkS []==⟨#[]⟩)=true):=fun _=>eqs_yes _
 clear hE hp
 go_enter Tryz.func40,Tryz.ntmps40
 go_wp2_with (first
  | ((with_reducible refine af (some 2) (.alloc 24) ?_);go_must (refine ap _ ax hm ?_);clear hm;intro w1 g2 hm)
  | ((with_reducible refine af (some 4) (.alloc 80) ?_);go_must (refine ap _ zero_rd hm ?_);clear hm;intro w2 g4 hm)
  | ((with_reducible refine af none (.store 80 (.tmp 4) (.tmp 8)) ?_);go_must (refine au 0 ([.string (mkS R),.int .i64 60]) hm rfl rfl rfl 2 sz_rd rfl rfl ((by intro v hv;simp only [List.mem_cons,List.not_mem_nil,or_false] at hv;rcases hv with rfl|rfl<;>rfl)) ?_);clear hm;intro w3 hm)
  | (go_at_call 51;go_must (refine (HTM.out g4 _ (HES.out.below hm.below) (Nat.le_trans h10 (by have h9:=hm.fresh (g4,_,_) (List.mem_cons_self ..);simpa using h9)) (hm.get 0 rfl)).mono ?_);rintro e w4 ⟨s4,he,hs4,hr,hu⟩;subst he;have HS4:Hid (SlT (FN w3.heap.size w4.heap.size) w4 s4 t.l):=hs4;obtain ⟨p4,c4,hv4,_⟩:=hs4.len;subst hv4;have HLT:Hid (g4<w3.heap.size∧g2<w3.heap.size∧w.heap.size≤w3.heap.size):=⟨(hm.get 0 rfl).lt,(hm.get 1 rfl).lt,hm.size⟩;replace hm:=hm.upd 0 rfl hu hr;clear hr hu hs4)
  | ((with_reducible refine af (some 5) (.alloc 24) ?_);go_must (refine bG _ ax hm ?_);clear hm;intro w5 g5 hb5 hg5 hm;have HS5:Hid (SlT (FN w3.heap.size w4.heap.size) w5 (.slice p4 t.l.length c4) t.l):=HS4.out.below hb5;have HG5:Hid (w4.heap.size≤g5∧w4.heap.size≤w5.heap.size):=⟨hg5,hb5.size⟩;clear hb5 hg5)
  | ((with_reducible refine af none (.store 24 (.tmp 5) (.tmp 11)) ?_);go_must (refine bq 0 (tcs t (.slice p4 t.l.length c4)) hm rfl rfl rfl 3 aj rfl rfl (aY _ _ _ _) ?_);clear hm;intro w6 hu hm;have HS6:Hid (SlT (FN w3.heap.size w6.heap.size) w6 (.slice p4 t.l.length c4) t.l):=(HS5.out.keep (Keeps.upd hu (fun b hb he=>by have h8:=HLT.out;have h7:=HG5.out;have h9:=hb.1;have h6:=hb.2;omega))).weak (fun b hb=>⟨hb.1,by have h6:=hb.2;have h5:=hu.size;have h7:=HG5.out;omega⟩);clear hu)
  | ((with_reducible refine aC (some 17) (.load 9 (.tmp 16)) (some (2,false)) ?_);go_must (refine aa (.string (mkS [])) rfl (ad (.string (mkS [])) (Mem.cell hm 1 rfl 0) rfl bf) ?_))
  | ((with_reducible refine aC (some 18) (.binOp .neq 9 (.tmp 17) (.const (.string {data:=#[]})) 9) (some (2,false)) ?_);go_must (refine aa (.bool false) rfl (eS (mkS []) ⟨#[]⟩ true rfl rfl (HNE.out ())) ?_))
  | ((with_reducible refine af (some 21) (.load 24 (.tmp 5)) ?_);go_must (refine aE 0 hm rfl rfl _ Tryz.underlying24 rfl 3 aj rfl ?_))
  | ((with_reducible refine af none (.store 24 (.tmp 2) (.tmp 21)) ?_);go_must (refine bq 2 (tcs t (.slice p4 t.l.length c4)) hm rfl rfl rfl 3 aj rfl rfl (aY _ _ _ _) ?_);clear hm;intro w7 hu hm;have HS7:Hid (SlT (FN w3.heap.size w7.heap.size) w7 (.slice p4 t.l.length c4) t.l):=(HS6.out.keep (Keeps.upd hu (fun b hb he=>by have h8:=HLT.out;have h7:=HG5.out;have h9:=hb.1;have h6:=hb.2;omega))).weak (fun b hb=>⟨hb.1,by have h6:=hb.2;have h5:=hu.size;have h7:=HG5.out;omega⟩);clear hu))
 refine bJ 2 (.int .i64 0) hm rfl Tryz.results40 rfl rfl _ Tryz.underlying24 rfl 3 aj rfl rfl ?_
 exact ⟨_,rfl,HS7.out.weak (fun b hb=>⟨Nat.le_trans HLT.out.2.2 hb.1,hb.2⟩),hm.below⟩
end Go.Proofs.YtcibhfcjbokdlaaGreatDoor
