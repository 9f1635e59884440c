import Derived.Test.YtcibhfcjbokdlabGreatDoorQk15
import Derived.ProofKit
import Derived.ChangeArms
import Derived.Deep.Slices
set_option maxRecDepth 100000
set_option maxHeartbeats 4000000
namespace Go.Proofs.YtcibhfcjbokdlabGreatDoor
open Go Go.RowKit
theorem term_zero (g:Nat) (R:List UInt8) (w:World) (hr:Row w g (rdv R 0) 66) :
  Calls Tryz.prog 29 #[.pointer (some ⟨g,0,none⟩)] w fun e w'=>e=.returned (.tuple #[.agg [.int .i64 0,.int .i64 0,.slice none 0 0].toArray,.bool false])∧(∃R1 r1,Row w' g (rdv R1 r1) 66)∧Upd g w w':=by
 have hm:=Mem.enter hr
 clear hr
 go_enter Tryz.func29,Tryz.ntmps29
 go_wp2_with (first
  | ((with_reducible refine af (some 2) (.alloc 24) ?_);go_must (refine aj _ aq hm ?_);clear hm;intro w1 g2 hm)
  | ((with_reducible refine af (some 11) (.load 3 (.tmp 10)) ?_);go_must (refine aa (.int .i64 0) rfl (ae (.int .i64 0) (Mem.cell hm 1 rfl 1) rfl ah) ?_))
  | ((with_reducible refine af none (.store 24 (.tmp 2) (.tmp 13)) ?_);go_must (refine am 0 ([.int .i64 0,.int .i64 0,.slice none 0 0]) hm rfl rfl rfl 3 ag rfl rfl ((by intro v hv;simp only [List.mem_cons,List.not_mem_nil,or_false] at hv;rcases hv with rfl|rfl|rfl<;>rfl)) ?_);clear hm;intro w2 hm))
 refine bG 0 (.bool false) hm rfl Tryz.results29 rfl rfl _ Tryz.underlying24 rfl 3 ag rfl rfl ?_
 exact ⟨rfl,⟨_,_,hm.get 1 rfl⟩,hm.toUpd⟩
theorem term_nonum (g room q:Nat) (hq:room=q+1) (R:List UInt8) (w:World) (hRl:R.length≤100000) (hrm:room≤100) (hE:Esx w) (hg:10≤g) (hr:Row w g (rdv R room) 66) (k:Int) (hk:kdOf R=k) (hb:nb k=true) (hn:numV (ldg (R.drop (wd k).length))=none) :
  Calls Tryz.prog 29 #[.pointer (some ⟨g,0,none⟩)] w fun e w'=>e=.returned (.tuple #[.agg [.int .i64 0,.int .i64 0,.slice none 0 0].toArray,.bool false])∧(∃R1 r1,Row w' g (rdv R1 r1) 66)∧Upd g w w':=by
 have hm:=Mem.enter hr
 have hr0:((room:Int)==0)=false:=aE _ _ (by omega)
 have hw:IntKind.i64.wrap ((room:Int) - 1)=(q:Int):=(bK _ (by omega) (by omega)).trans (by omega)
 have hkr:1≤k∧k≤5:=by rw [←hk];exact bi R
 have HKD:Hid (∀W,Row W g (rdv R q) 66→Calls Tryz.prog 39 #[.pointer (some ⟨g,0,none⟩)] W fun e w'=>e=.returned (.int .i64 k)∧Row w' g (rdv (R.drop (wd k).length) q) 66∧Upd g W w'):=fun W hW=>by
  have:=cB R q g W hW
  rw [hk] at this
  exact this
 have HF1:Hid (∀_:Unit,∀v∈[Value.string (mkS (wd k)),.bool true,.int .i64 (kn k:Int)],v.oneCell'=true):=fun _=>by have h9:=bR k;rw [aS hkr,hb] at h9;exact h9
 have h91:=hE
 have h92:=hg
 clear h91 h92
 have HFO:Hid (∀W,Calls Tryz.prog 36 #[.int .i64 k] W fun e w'=>e=.returned (.tuple #[.agg [Value.string (mkS (wd k)),.bool true,.int .i64 (kn k:Int)].toArray,.bool true])∧Below W.heap.size W w'):=fun W=>by
  have:=aY k W
  rw [aS hkr,decide_eq_true hkr,hb] at this
  exact this
 have hdl:(R.drop (wd k).length).length≤100000:=by rw [List.length_drop];omega
 have HNU:Hid (∀W,Upd g w W→Row W g (rdv (R.drop (wd k).length) q) 66→Calls Tryz.prog 40 #[.pointer (some ⟨g,0,none⟩)] W fun e w'=>e=.returned (.tuple #[.int .i64 0,.bool false])∧Row w' g (rdv (R.drop (wd k).length) q) 66∧Upd g W w'):=fun W hW hr=>number_no hn q g W hdl (hE.upd hW hg) hg hr
 clear hE hr hk hb hn hkr hdl hRl hrm hq
 go_enter Tryz.func29,Tryz.ntmps29
 go_wp2_with (first
  | ((with_reducible refine af (some 2) (.alloc 24) ?_);go_must (refine aj _ aq hm ?_);clear hm;intro w1 g2 hm)
  | ((with_reducible refine af (some 11) (.load 3 (.tmp 10)) ?_);go_must (refine aa (.int .i64 (room:Int)) rfl (ae (.int .i64 (room:Int)) (Mem.cell hm 1 rfl 1) rfl ah) ?_))
  | ((with_reducible refine af (some 17) (.load 3 (.tmp 16)) ?_);go_must (refine aa (.int .i64 (room:Int)) rfl (ae (.int .i64 (room:Int)) (Mem.cell hm 1 rfl 1) rfl ah) ?_))
  | ((with_reducible refine af none (.store 3 (.tmp 20) (.tmp 18)) ?_);go_must (refine bo 1 1 (.int .i64 (q:Int)) hm rfl rfl rfl cj (by show 1<2;omega) rfl rfl ?_);clear hm;intro w3 hm)
  | (go_at_call 39;go_must (refine (HKD.out _ (hm.get 1 rfl)).mono ?_);rintro e w4 ⟨he,hr,hu⟩;subst he;replace hm:=hm.upd 1 rfl hu hr;clear hr hu)
  | ((with_reducible refine af (some 4) (.alloc 24) ?_);go_must (refine aj _ aq hm ?_);clear hm;intro w5 g4 hm)
  | ((with_reducible refine af none (.store 24 (.tmp 4) (.tmp 23)) ?_);go_must (refine am 0 ([.int .i64 k,.int .i64 0,.slice none 0 0]) hm rfl rfl rfl 3 ag rfl rfl ((by intro v hv;simp only [List.mem_cons,List.not_mem_nil,or_false] at hv;rcases hv with rfl|rfl|rfl<;>rfl)) ?_);clear hm;intro w6 hm)
  | ((with_reducible refine af (some 26) (.load 3 (.tmp 25)) ?_);go_must (refine aa (.int .i64 k) rfl (ae (.int .i64 k) (Mem.cell hm 0 rfl 0) rfl ah) ?_))
  | (go_at_call 36;go_must (refine (HFO.out _).mono ?_);rintro e w7 ⟨he,hb⟩;subst he;replace hm:=hm.call hb;clear hb)
  | ((with_reducible refine af (some 5) (.alloc 79) ?_);go_must (refine aj _ aD hm ?_);clear hm;intro w8 g5 hm)
  | ((with_reducible refine af none (.store 79 (.tmp 5) (.tmp 28)) ?_);go_must (refine am 0 ([Value.string (mkS (wd k)),.bool true,.int .i64 (kn k:Int)]) hm rfl rfl rfl 3 aF rfl rfl ((HF1.out ())) ?_);clear hm;intro w9 hm)
  | ((with_reducible refine af (some 31) (.load 4 (.tmp 30)) ?_);go_must (refine aa (.bool true) rfl (ae (.bool true) (Mem.cell hm 0 rfl 1) rfl bI) ?_))
  | ((with_reducible refine af (some 42) (.load 3 (.tmp 41)) ?_);go_must (refine aa (.int .i64 (kn k:Int)) rfl (ae (.int .i64 (kn k:Int)) (Mem.cell hm 0 rfl 2) rfl ah) ?_))
  | (go_at_call 40;go_must (refine (HNU.out _ hm.toUpd (hm.get 3 rfl)).mono ?_);rintro e w10 ⟨he,hr,hu⟩;subst he;replace hm:=hm.upd 3 rfl hu hr;clear hr hu)
  | ((with_reducible refine af none (.store 3 (.tmp 37) (.tmp 35)) ?_);go_must (refine bo 1 1 (.int .i64 0) hm rfl rfl rfl cj (by show 1<3;omega) rfl rfl ?_);clear hm;intro w11 hm)
  | ((with_reducible refine af none (.store 24 (.tmp 2) (.tmp 40)) ?_);go_must (refine am 2 ([.int .i64 0,.int .i64 0,.slice none 0 0]) hm rfl rfl rfl 3 ag rfl rfl ((by intro v hv;simp only [List.mem_cons,List.not_mem_nil,or_false] at hv;rcases hv with rfl|rfl|rfl<;>rfl)) ?_);clear hm;intro w12 hm))
 refine bG 2 (.bool false) hm rfl Tryz.results29 rfl rfl _ Tryz.underlying24 rfl 3 ag rfl rfl ?_
 exact ⟨rfl,⟨_,_,hm.get 3 rfl⟩,hm.toUpd⟩
theorem term_leaf (g room q:Nat) (hq:room=q+1) (R:List UInt8) (w:World) (hRl:R.length≤100000) (hrm:room≤100) (hE:Esx w) (hg:10≤g) (hr:Row w g (rdv R room) 66) (k:Int) (hk:kdOf R=k) (hb:nb k=true) (n:Int) (hn:numV (ldg (R.drop (wd k).length))=some n) (hk0:kn k=0) :
  Calls Tryz.prog 29 #[.pointer (some ⟨g,0,none⟩)] w fun e w'=>∃s,e=.returned (.tuple #[.agg (tcs (mkT k n []) s).toArray,.bool true])∧SlT (FN w.heap.size w'.heap.size) w' s []∧Row w' g (rdv ((R.drop (wd k).length).drop (ldg (R.drop (wd k).length)).length) q) 66∧Upd g w w':=by
 have hm:=Mem.enter hr
 have hr0:((room:Int)==0)=false:=aE _ _ (by omega)
 have hw:IntKind.i64.wrap ((room:Int) - 1)=(q:Int):=(bK _ (by omega) (by omega)).trans (by omega)
 have hkr:1≤k∧k≤5:=by rw [←hk];exact bi R
 have HKD:Hid (∀W,Row W g (rdv R q) 66→Calls Tryz.prog 39 #[.pointer (some ⟨g,0,none⟩)] W fun e w'=>e=.returned (.int .i64 k)∧Row w' g (rdv (R.drop (wd k).length) q) 66∧Upd g W w'):=fun W hW=>by
  have:=cB R q g W hW
  rw [hk] at this
  exact this
 have HF1:Hid (∀_:Unit,∀v∈[Value.string (mkS (wd k)),.bool true,.int .i64 (kn k:Int)],v.oneCell'=true):=fun _=>by have h9:=bR k;rw [aS hkr,hb] at h9;exact h9
 have h91:=hE
 have h92:=hg
 clear h91 h92
 have HFO:Hid (∀W,Calls Tryz.prog 36 #[.int .i64 k] W fun e w'=>e=.returned (.tuple #[.agg [Value.string (mkS (wd k)),.bool true,.int .i64 (kn k:Int)].toArray,.bool true])∧Below W.heap.size W w'):=fun W=>by
  have:=aY k W
  rw [aS hkr,decide_eq_true hkr,hb] at this
  exact this
 have hdl:(R.drop (wd k).length).length≤100000:=by rw [List.length_drop];omega
 have HNU:Hid (∀W,Upd g w W→Row W g (rdv (R.drop (wd k).length) q) 66→Calls Tryz.prog 40 #[.pointer (some ⟨g,0,none⟩)] W fun e w'=>e=.returned (.tuple #[.int .i64 n,.bool true])∧Row w' g (rdv ((R.drop (wd k).length).drop (ldg (R.drop (wd k).length)).length) q) 66∧Upd g W w'):=fun W _ hr=>di hn q g W hdl hr
 have hz:¬(kn k:Int) > 0:=by omega
 clear hE hr hk hb hn hkr hdl hRl hrm hq hk0
 go_enter Tryz.func29,Tryz.ntmps29
 go_wp2_with (first
  | ((with_reducible refine af (some 2) (.alloc 24) ?_);go_must (refine aj _ aq hm ?_);clear hm;intro w1 g2 hm)
  | ((with_reducible refine af (some 11) (.load 3 (.tmp 10)) ?_);go_must (refine aa (.int .i64 (room:Int)) rfl (ae (.int .i64 (room:Int)) (Mem.cell hm 1 rfl 1) rfl ah) ?_))
  | ((with_reducible refine af (some 17) (.load 3 (.tmp 16)) ?_);go_must (refine aa (.int .i64 (room:Int)) rfl (ae (.int .i64 (room:Int)) (Mem.cell hm 1 rfl 1) rfl ah) ?_))
  | ((with_reducible refine af none (.store 3 (.tmp 20) (.tmp 18)) ?_);go_must (refine bo 1 1 (.int .i64 (q:Int)) hm rfl rfl rfl cj (by show 1<2;omega) rfl rfl ?_);clear hm;intro w3 hm)
  | (go_at_call 39;go_must (refine (HKD.out _ (hm.get 1 rfl)).mono ?_);rintro e w4 ⟨he,hr,hu⟩;subst he;replace hm:=hm.upd 1 rfl hu hr;clear hr hu)
  | ((with_reducible refine af (some 4) (.alloc 24) ?_);go_must (refine aj _ aq hm ?_);clear hm;intro w5 g4 hm)
  | ((with_reducible refine af none (.store 24 (.tmp 4) (.tmp 23)) ?_);go_must (refine am 0 ([.int .i64 k,.int .i64 0,.slice none 0 0]) hm rfl rfl rfl 3 ag rfl rfl ((by intro v hv;simp only [List.mem_cons,List.not_mem_nil,or_false] at hv;rcases hv with rfl|rfl|rfl<;>rfl)) ?_);clear hm;intro w6 hm)
  | ((with_reducible refine af (some 26) (.load 3 (.tmp 25)) ?_);go_must (refine aa (.int .i64 k) rfl (ae (.int .i64 k) (Mem.cell hm 0 rfl 0) rfl ah) ?_))
  | (go_at_call 36;go_must (refine (HFO.out _).mono ?_);rintro e w7 ⟨he,hb⟩;subst he;replace hm:=hm.call hb;clear hb)
  | ((with_reducible refine af (some 5) (.alloc 79) ?_);go_must (refine aj _ aD hm ?_);clear hm;intro w8 g5 hm)
  | ((with_reducible refine af none (.store 79 (.tmp 5) (.tmp 28)) ?_);go_must (refine am 0 ([Value.string (mkS (wd k)),.bool true,.int .i64 (kn k:Int)]) hm rfl rfl rfl 3 aF rfl rfl ((HF1.out ())) ?_);clear hm;intro w9 hm)
  | ((with_reducible refine af (some 31) (.load 4 (.tmp 30)) ?_);go_must (refine aa (.bool true) rfl (ae (.bool true) (Mem.cell hm 0 rfl 1) rfl bI) ?_))
  | ((with_reducible refine af (some 42) (.load 3 (.tmp 41)) ?_);go_must (refine aa (.int .i64 (kn k:Int)) rfl (ae (.int .i64 (kn k:Int)) (Mem.cell hm 0 rfl 2) rfl ah) ?_))
  | (go_at_call 40;go_must (refine (HNU.out _ hm.toUpd (hm.get 3 rfl)).mono ?_);rintro e w10 ⟨he,hr,hu⟩;subst he;replace hm:=hm.upd 3 rfl hu hr;clear hr hu)
  | ((with_reducible refine af none (.store 3 (.tmp 37) (.tmp 35)) ?_);go_must (refine bo 1 1 (.int .i64 n) hm rfl rfl rfl cj (by show 1<3;omega) rfl rfl ?_);clear hm;intro wk hm)
  | ((with_reducible refine af (some 55) (.load 24 (.tmp 4)) ?_);go_must (refine aI 1 hm rfl rfl _ Tryz.underlying24 rfl 3 ag rfl ?_))
  | ((with_reducible refine af none (.store 24 (.tmp 2) (.tmp 55)) ?_);go_must (refine am 2 ([.int .i64 k,.int .i64 n,.slice none 0 0]) hm rfl rfl rfl 3 ag rfl rfl ((by intro v hv;simp only [List.mem_cons,List.not_mem_nil,or_false] at hv;rcases hv with rfl|rfl|rfl<;>rfl)) ?_);clear hm;intro w12 hm))
 refine bG 2 (.bool true) hm rfl Tryz.results29 rfl rfl _ Tryz.underlying24 rfl 3 ag rfl rfl ?_
 exact ⟨_,rfl,SlT.nil,hm.get 3 rfl,hm.toUpd⟩
theorem dy (g room q:Nat) (hq:room=q+1) (R:List UInt8) (w:World) (hRl:R.length≤100000) (hrm:room≤100) (hE:Esx w) (hg:10≤g) (hr:Row w g (rdv R room) 66) (k:Int) (hk:kdOf R=k) (hb:nb k=true) (n:Int) (hn:numV (ldg (R.drop (wd k).length))=some n) (hk0:kn k≠0) (HKI:∀W,Upd g w W→Row W g (rdv ((R.drop (wd k).length).drop (ldg (R.drop (wd k).length)).length) q) 66→Calls Tryz.prog 41 #[.pointer (some ⟨g,0,none⟩),.int .i64 (kn k:Int)] W fun e w'=>∃p m c,e=.returned (.tuple #[.slice p m c,.bool false])∧(∃R1 r1,Row w' g (rdv R1 r1) 66)∧Upd g W w') :
  Calls Tryz.prog 29 #[.pointer (some ⟨g,0,none⟩)] w fun e w'=>e=.returned (.tuple #[.agg [.int .i64 0,.int .i64 0,.slice none 0 0].toArray,.bool false])∧(∃R1 r1,Row w' g (rdv R1 r1) 66)∧Upd g w w':=by
 have hm:=Mem.enter hr
 have hr0:((room:Int)==0)=false:=aE _ _ (by omega)
 have hw:IntKind.i64.wrap ((room:Int) - 1)=(q:Int):=(bK _ (by omega) (by omega)).trans (by omega)
 have hkr:1≤k∧k≤5:=by rw [←hk];exact bi R
 have HKD:Hid (∀W,Row W g (rdv R q) 66→Calls Tryz.prog 39 #[.pointer (some ⟨g,0,none⟩)] W fun e w'=>e=.returned (.int .i64 k)∧Row w' g (rdv (R.drop (wd k).length) q) 66∧Upd g W w'):=fun W hW=>by
  have:=cB R q g W hW
  rw [hk] at this
  exact this
 have HF1:Hid (∀_:Unit,∀v∈[Value.string (mkS (wd k)),.bool true,.int .i64 (kn k:Int)],v.oneCell'=true):=fun _=>by have h9:=bR k;rw [aS hkr,hb] at h9;exact h9
 have h91:=hE
 have h92:=hg
 clear h91 h92
 have HFO:Hid (∀W,Calls Tryz.prog 36 #[.int .i64 k] W fun e w'=>e=.returned (.tuple #[.agg [Value.string (mkS (wd k)),.bool true,.int .i64 (kn k:Int)].toArray,.bool true])∧Below W.heap.size W w'):=fun W=>by
  have:=aY k W
  rw [aS hkr,decide_eq_true hkr,hb] at this
  exact this
 have hdl:(R.drop (wd k).length).length≤100000:=by rw [List.length_drop];omega
 have HNU:Hid (∀W,Upd g w W→Row W g (rdv (R.drop (wd k).length) q) 66→Calls Tryz.prog 40 #[.pointer (some ⟨g,0,none⟩)] W fun e w'=>e=.returned (.tuple #[.int .i64 n,.bool true])∧Row w' g (rdv ((R.drop (wd k).length).drop (ldg (R.drop (wd k).length)).length) q) 66∧Upd g W w'):=fun W _ hr=>di hn q g W hdl hr
 have hz:(kn k:Int) > 0:=by omega
 have HKI2:Hid _:=HKI
 clear HKI
 clear hE hr hk hb hkr hdl hRl hrm hq hk0 hn
 go_enter Tryz.func29,Tryz.ntmps29
 go_wp2_with (first
  | ((with_reducible refine af (some 2) (.alloc 24) ?_);go_must (refine aj _ aq hm ?_);clear hm;intro w1 g2 hm)
  | ((with_reducible refine af (some 11) (.load 3 (.tmp 10)) ?_);go_must (refine aa (.int .i64 (room:Int)) rfl (ae (.int .i64 (room:Int)) (Mem.cell hm 1 rfl 1) rfl ah) ?_))
  | ((with_reducible refine af (some 17) (.load 3 (.tmp 16)) ?_);go_must (refine aa (.int .i64 (room:Int)) rfl (ae (.int .i64 (room:Int)) (Mem.cell hm 1 rfl 1) rfl ah) ?_))
  | ((with_reducible refine af none (.store 3 (.tmp 20) (.tmp 18)) ?_);go_must (refine bo 1 1 (.int .i64 (q:Int)) hm rfl rfl rfl cj (by show 1<2;omega) rfl rfl ?_);clear hm;intro w3 hm)
  | (go_at_call 39;go_must (refine (HKD.out _ (hm.get 1 rfl)).mono ?_);rintro e w4 ⟨he,hr,hu⟩;subst he;replace hm:=hm.upd 1 rfl hu hr;clear hr hu)
  | ((with_reducible refine af (some 4) (.alloc 24) ?_);go_must (refine aj _ aq hm ?_);clear hm;intro w5 g4 hm)
  | ((with_reducible refine af none (.store 24 (.tmp 4) (.tmp 23)) ?_);go_must (refine am 0 ([.int .i64 k,.int .i64 0,.slice none 0 0]) hm rfl rfl rfl 3 ag rfl rfl ((by intro v hv;simp only [List.mem_cons,List.not_mem_nil,or_false] at hv;rcases hv with rfl|rfl|rfl<;>rfl)) ?_);clear hm;intro w6 hm)
  | ((with_reducible refine af (some 26) (.load 3 (.tmp 25)) ?_);go_must (refine aa (.int .i64 k) rfl (ae (.int .i64 k) (Mem.cell hm 0 rfl 0) rfl ah) ?_))
  | (go_at_call 36;go_must (refine (HFO.out _).mono ?_);rintro e w7 ⟨he,hb⟩;subst he;replace hm:=hm.call hb;clear hb)
  | ((with_reducible refine af (some 5) (.alloc 79) ?_);go_must (refine aj _ aD hm ?_);clear hm;intro w8 g5 hm)
  | ((with_reducible refine af none (.store 79 (.tmp 5) (.tmp 28)) ?_);go_must (refine am 0 ([Value.string (mkS (wd k)),.bool true,.int .i64 (kn k:Int)]) hm rfl rfl rfl 3 aF rfl rfl ((HF1.out ())) ?_);clear hm;intro w9 hm)
  | ((with_reducible refine af (some 31) (.load 4 (.tmp 30)) ?_);go_must (refine aa (.bool true) rfl (ae (.bool true) (Mem.cell hm 0 rfl 1) rfl bI) ?_))
  | ((with_reducible refine af (some 42) (.load 3 (.tmp 41)) ?_);go_must (refine aa (.int .i64 (kn k:Int)) rfl (ae (.int .i64 (kn k:Int)) (Mem.cell hm 0 rfl 2) rfl ah) ?_))
  | (go_at_call 40;go_must (refine (HNU.out _ hm.toUpd (hm.get 3 rfl)).mono ?_);rintro e w10 ⟨he,hr,hu⟩;subst he;replace hm:=hm.upd 3 rfl hu hr;clear hr hu)
  | ((with_reducible refine af none (.store 3 (.tmp 37) (.tmp 35)) ?_);go_must (refine bo 1 1 (.int .i64 n) hm rfl rfl rfl cj (by show 1<3;omega) rfl rfl ?_);clear hm;intro wk hm)
  | ((with_reducible refine af (some 47) (.load 3 (.tmp 46)) ?_);go_must (refine aa (.int .i64 (kn k:Int)) rfl (ae (.int .i64 (kn k:Int)) (Mem.cell hm 0 rfl 2) rfl ah) ?_))
  | (go_at_call 41;go_must (refine (HKI2.out _ hm.toUpd (hm.get 3 rfl)).mono ?_);rintro e w11 ⟨p9,m9,c9,he,⟨R9,r9,hr⟩,hu⟩;subst he;replace hm:=hm.upd 3 rfl hu hr;clear hr hu)
  | ((with_reducible refine af none (.store 22 (.tmp 51) (.tmp 49)) ?_);go_must (refine bo 1 2 (.slice p9 m9 c9) hm rfl rfl rfl du (by show 2<3;omega) rfl rfl ?_);clear hm;intro w12 hm)
  | ((with_reducible refine af none (.store 24 (.tmp 2) (.tmp 54)) ?_);go_must (refine am 2 ([.int .i64 0,.int .i64 0,.slice none 0 0]) hm rfl rfl rfl 3 ag rfl rfl ((by intro v hv;simp only [List.mem_cons,List.not_mem_nil,or_false] at hv;rcases hv with rfl|rfl|rfl<;>rfl)) ?_);clear hm;intro w13 hm))
 refine bG 2 (.bool false) hm rfl Tryz.results29 rfl rfl _ Tryz.underlying24 rfl 3 ag rfl rfl ?_
 exact ⟨rfl,⟨_,_,hm.get 3 rfl⟩,hm.toUpd⟩
theorem d7 (g room q:Nat) (hq:room=q+1) (R:List UInt8) (w:World) (hRl:R.length≤100000) (hrm:room≤100) (hE:Esx w) (hg:10≤g) (hr:Row w g (rdv R room) 66) (k:Int) (hk:kdOf R=k) (hb:nb k=true) (n:Int) (hn:numV (ldg (R.drop (wd k).length))=some n) (l:List Tm) (S1:List UInt8) (r1:Nat) (hk0:kn k≠0) (HKI:∀W,Upd g w W→Row W g (rdv ((R.drop (wd k).length).drop (ldg (R.drop (wd k).length)).length) q) 66→Calls Tryz.prog 41 #[.pointer (some ⟨g,0,none⟩),.int .i64 (kn k:Int)] W fun e w'=>∃v,e=.returned (.tuple #[v,.bool true])∧SlT (FN W.heap.size w'.heap.size) w' v l∧Row w' g (rdv S1 r1) 66∧Upd g W w') :
  Calls Tryz.prog 29 #[.pointer (some ⟨g,0,none⟩)] w fun e w'=>∃s,e=.returned (.tuple #[.agg (tcs (mkT k n l) s).toArray,.bool true])∧SlT (FN w.heap.size w'.heap.size) w' s l∧Row w' g (rdv S1 r1) 66∧Upd g w w':=by
 have hm:=Mem.enter hr
 have hr0:((room:Int)==0)=false:=aE _ _ (by omega)
 have hw:IntKind.i64.wrap ((room:Int) - 1)=(q:Int):=(bK _ (by omega) (by omega)).trans (by omega)
 have hkr:1≤k∧k≤5:=by rw [←hk];exact bi R
 have HKD:Hid (∀W,Row W g (rdv R q) 66→Calls Tryz.prog 39 #[.pointer (some ⟨g,0,none⟩)] W fun e w'=>e=.returned (.int .i64 k)∧Row w' g (rdv (R.drop (wd k).length) q) 66∧Upd g W w'):=fun W hW=>by
  have:=cB R q g W hW
  rw [hk] at this
  exact this
 have HF1:Hid (∀_:Unit,∀v∈[Value.string (mkS (wd k)),.bool true,.int .i64 (kn k:Int)],v.oneCell'=true):=fun _=>by have h9:=bR k;rw [aS hkr,hb] at h9;exact h9
 have h91:=hE
 have h92:=hg
 clear h91 h92
 have HFO:Hid (∀W,Calls Tryz.prog 36 #[.int .i64 k] W fun e w'=>e=.returned (.tuple #[.agg [Value.string (mkS (wd k)),.bool true,.int .i64 (kn k:Int)].toArray,.bool true])∧Below W.heap.size W w'):=fun W=>by
  have:=aY k W
  rw [aS hkr,decide_eq_true hkr,hb] at this
  exact this
 have hdl:(R.drop (wd k).length).length≤100000:=by rw [List.length_drop];omega
 have HNU:Hid (∀W,Upd g w W→Row W g (rdv (R.drop (wd k).length) q) 66→Calls Tryz.prog 40 #[.pointer (some ⟨g,0,none⟩)] W fun e w'=>e=.returned (.tuple #[.int .i64 n,.bool true])∧Row w' g (rdv ((R.drop (wd k).length).drop (ldg (R.drop (wd k).length)).length) q) 66∧Upd g W w'):=fun W _ hr=>di hn q g W hdl hr
 have hz:(kn k:Int) > 0:=by omega
 have HKI2:Hid _:=HKI
 clear HKI
 clear hE hr hk hb hkr hdl hRl hrm hq hk0 hn
 go_enter Tryz.func29,Tryz.ntmps29
 go_wp2_with (first
  | ((with_reducible refine af (some 2) (.alloc 24) ?_);go_must (refine aj _ aq hm ?_);clear hm;intro w1 g2 hm)
  | ((with_reducible refine af (some 11) (.load 3 (.tmp 10)) ?_);go_must (refine aa (.int .i64 (room:Int)) rfl (ae (.int .i64 (room:Int)) (Mem.cell hm 1 rfl 1) rfl ah) ?_))
  | ((with_reducible refine af (some 17) (.load 3 (.tmp 16)) ?_);go_must (refine aa (.int .i64 (room:Int)) rfl (ae (.int .i64 (room:Int)) (Mem.cell hm 1 rfl 1) rfl ah) ?_))
  | ((with_reducible refine af none (.store 3 (.tmp 20) (.tmp 18)) ?_);go_must (refine bo 1 1 (.int .i64 (q:Int)) hm rfl rfl rfl cj (by show 1<2;omega) rfl rfl ?_);clear hm;intro w3 hm)
  | (go_at_call 39;go_must (refine (HKD.out _ (hm.get 1 rfl)).mono ?_);rintro e w4 ⟨he,hr,hu⟩;subst he;replace hm:=hm.upd 1 rfl hu hr;clear hr hu)
  | ((with_reducible refine af (some 4) (.alloc 24) ?_);go_must (refine aj _ aq hm ?_);clear hm;intro w5 g4 hm)
  | ((with_reducible refine af none (.store 24 (.tmp 4) (.tmp 23)) ?_);go_must (refine am 0 ([.int .i64 k,.int .i64 0,.slice none 0 0]) hm rfl rfl rfl 3 ag rfl rfl ((by intro v hv;simp only [List.mem_cons,List.not_mem_nil,or_false] at hv;rcases hv with rfl|rfl|rfl<;>rfl)) ?_);clear hm;intro w6 hm)
  | ((with_reducible refine af (some 26) (.load 3 (.tmp 25)) ?_);go_must (refine aa (.int .i64 k) rfl (ae (.int .i64 k) (Mem.cell hm 0 rfl 0) rfl ah) ?_))
  | (go_at_call 36;go_must (refine (HFO.out _).mono ?_);rintro e w7 ⟨he,hb⟩;subst he;replace hm:=hm.call hb;clear hb)
  | ((with_reducible refine af (some 5) (.alloc 79) ?_);go_must (refine aj _ aD hm ?_);clear hm;intro w8 g5 hm)
  | ((with_reducible refine af none (.store 79 (.tmp 5) (.tmp 28)) ?_);go_must (refine am 0 ([Value.string (mkS (wd k)),.bool true,.int .i64 (kn k:Int)]) hm rfl rfl rfl 3 aF rfl rfl ((HF1.out ())) ?_);clear hm;intro w9 hm)
  | ((with_reducible refine af (some 31) (.load 4 (.tmp 30)) ?_);go_must (refine aa (.bool true) rfl (ae (.bool true) (Mem.cell hm 0 rfl 1) rfl bI) ?_))
  | ((with_reducible refine af (some 42) (.load 3 (.tmp 41)) ?_);go_must (refine aa (.int .i64 (kn k:Int)) rfl (ae (.int .i64 (kn k:Int)) (Mem.cell hm 0 rfl 2) rfl ah) ?_))
  | (go_at_call 40;go_must (refine (HNU.out _ hm.toUpd (hm.get 3 rfl)).mono ?_);rintro e w10 ⟨he,hr,hu⟩;subst he;replace hm:=hm.upd 3 rfl hu hr;clear hr hu)
  | ((with_reducible refine af none (.store 3 (.tmp 37) (.tmp 35)) ?_);go_must (refine bo 1 1 (.int .i64 n) hm rfl rfl rfl cj (by show 1<3;omega) rfl rfl ?_);clear hm;intro wk hm)
  | ((with_reducible refine af (some 47) (.load 3 (.tmp 46)) ?_);go_must (refine aa (.int .i64 (kn k:Int)) rfl (ae (.int .i64 (kn k:Int)) (Mem.cell hm 0 rfl 2) rfl ah) ?_))
  | (go_at_call 41;go_must (refine (HKI2.out _ hm.toUpd (hm.get 3 rfl)).mono ?_);rintro e w11 ⟨v11,he,hsv,hr,hu⟩;subst he;have HSV:Hid (SlT (FN wk.heap.size w11.heap.size) w11 v11 l):=hsv;obtain ⟨p9,c9,hv9,_⟩:=hsv.len;subst hv9;have HLT:Hid (g4<wk.heap.size∧g2<wk.heap.size∧w.heap.size≤wk.heap.size):=⟨(hm.get 1 rfl).lt,(hm.get 2 rfl).lt,hm.size⟩;replace hm:=hm.upd 3 rfl hu hr;clear hr hu hsv)
  | ((with_reducible refine af none (.store 22 (.tmp 51) (.tmp 49)) ?_);go_must (refine bP 1 2 (.slice p9 l.length c9) hm rfl rfl rfl du (by show 2<3;omega) rfl rfl ?_);clear hm;intro w12 hu12 hm;have HSV2:Hid (SlT (FN wk.heap.size w12.heap.size) w12 (.slice p9 l.length c9) l):=(HSV.out.keep (Keeps.upd hu12 (fun b hb he=>by have h8:=HLT.out;have h9:=hb.1;omega))).weak (fun b hb=>⟨hb.1,Nat.lt_of_lt_of_le hb.2 hu12.size⟩);clear HSV hu12)
  | ((with_reducible refine af (some 55) (.load 24 (.tmp 4)) ?_);go_must (refine aI 1 hm rfl rfl _ Tryz.underlying24 rfl 3 ag rfl ?_))
  | ((with_reducible refine af none (.store 24 (.tmp 2) (.tmp 55)) ?_);go_must (refine cC 2 [.int .i64 k,.int .i64 n,.slice p9 l.length c9] hm rfl rfl rfl 3 ag rfl rfl (by intro v hv;simp only [List.mem_cons,List.not_mem_nil,or_false] at hv;rcases hv with rfl|rfl|rfl<;>rfl) ?_);clear hm;intro w13 hu13 hm;have HSV3:Hid (SlT (FN wk.heap.size w13.heap.size) w13 (.slice p9 l.length c9) l):=(HSV2.out.keep (Keeps.upd hu13 (fun b hb he=>by have h8:=HLT.out;have h9:=hb.1;omega))).weak (fun b hb=>⟨hb.1,Nat.lt_of_lt_of_le hb.2 hu13.size⟩);clear HSV2 hu13))
 refine bG 2 (.bool true) hm rfl Tryz.results29 rfl rfl _ Tryz.underlying24 rfl 3 ag rfl rfl ?_
 exact ⟨_,rfl,HSV3.out.weak (fun b hb=>⟨Nat.le_trans HLT.out.2.2 hb.1,hb.2⟩),hm.get 3 rfl,hm.toUpd⟩
theorem de (g room q:Nat) (hq:room=q+1) (R:List UInt8) (w:World) (hRl:R.length≤100000) (hrm:room≤100) (hE:Esx w) (hg:10≤g) (hr:Row w g (rdv R room) 66) (k:Int) (hk:kdOf R=k) (hb:nb k=false) (hk0:kn k≠0) (HKI:∀W,Upd g w W→Row W g (rdv (R.drop (wd k).length) q) 66→Calls Tryz.prog 41 #[.pointer (some ⟨g,0,none⟩),.int .i64 (kn k:Int)] W fun e w'=>∃p m c,e=.returned (.tuple #[.slice p m c,.bool false])∧(∃R1 r1,Row w' g (rdv R1 r1) 66)∧Upd g W w') :
  Calls Tryz.prog 29 #[.pointer (some ⟨g,0,none⟩)] w fun e w'=>e=.returned (.tuple #[.agg [.int .i64 0,.int .i64 0,.slice none 0 0].toArray,.bool false])∧(∃R1 r1,Row w' g (rdv R1 r1) 66)∧Upd g w w':=by
 have hm:=Mem.enter hr
 have hr0:((room:Int)==0)=false:=aE _ _ (by omega)
 have hw:IntKind.i64.wrap ((room:Int) - 1)=(q:Int):=(bK _ (by omega) (by omega)).trans (by omega)
 have hkr:1≤k∧k≤5:=by rw [←hk];exact bi R
 have HKD:Hid (∀W,Row W g (rdv R q) 66→Calls Tryz.prog 39 #[.pointer (some ⟨g,0,none⟩)] W fun e w'=>e=.returned (.int .i64 k)∧Row w' g (rdv (R.drop (wd k).length) q) 66∧Upd g W w'):=fun W hW=>by
  have:=cB R q g W hW
  rw [hk] at this
  exact this
 have HF1:Hid (∀_:Unit,∀v∈[Value.string (mkS (wd k)),.bool false,.int .i64 (kn k:Int)],v.oneCell'=true):=fun _=>by have h9:=bR k;rw [aS hkr,hb] at h9;exact h9
 have h91:=hE
 have h92:=hg
 clear h91 h92
 have HFO:Hid (∀W,Calls Tryz.prog 36 #[.int .i64 k] W fun e w'=>e=.returned (.tuple #[.agg [Value.string (mkS (wd k)),.bool false,.int .i64 (kn k:Int)].toArray,.bool true])∧Below W.heap.size W w'):=fun W=>by
  have:=aY k W
  rw [aS hkr,decide_eq_true hkr,hb] at this
  exact this
 have hdl:(R.drop (wd k).length).length≤100000:=by rw [List.length_drop];omega
 have hz:(kn k:Int) > 0:=by omega
 have HKI2:Hid _:=HKI
 clear HKI
 clear hE hr hk hb hkr hdl hRl hrm hq hk0
 go_enter Tryz.func29,Tryz.ntmps29
 go_wp2_with (first
  | ((with_reducible refine af (some 2) (.alloc 24) ?_);go_must (refine aj _ aq hm ?_);clear hm;intro w1 g2 hm)
  | ((with_reducible refine af (some 11) (.load 3 (.tmp 10)) ?_);go_must (refine aa (.int .i64 (room:Int)) rfl (ae (.int .i64 (room:Int)) (Mem.cell hm 1 rfl 1) rfl ah) ?_))
  | ((with_reducible refine af (some 17) (.load 3 (.tmp 16)) ?_);go_must (refine aa (.int .i64 (room:Int)) rfl (ae (.int .i64 (room:Int)) (Mem.cell hm 1 rfl 1) rfl ah) ?_))
  | ((with_reducible refine af none (.store 3 (.tmp 20) (.tmp 18)) ?_);go_must (refine bo 1 1 (.int .i64 (q:Int)) hm rfl rfl rfl cj (by show 1<2;omega) rfl rfl ?_);clear hm;intro w3 hm)
  | (go_at_call 39;go_must (refine (HKD.out _ (hm.get 1 rfl)).mono ?_);rintro e w4 ⟨he,hr,hu⟩;subst he;replace hm:=hm.upd 1 rfl hu hr;clear hr hu)
  | ((with_reducible refine af (some 4) (.alloc 24) ?_);go_must (refine aj _ aq hm ?_);clear hm;intro w5 g4 hm)
  | ((with_reducible refine af none (.store 24 (.tmp 4) (.tmp 23)) ?_);go_must (refine am 0 ([.int .i64 k,.int .i64 0,.slice none 0 0]) hm rfl rfl rfl 3 ag rfl rfl ((by intro v hv;simp only [List.mem_cons,List.not_mem_nil,or_false] at hv;rcases hv with rfl|rfl|rfl<;>rfl)) ?_);clear hm;intro w6 hm)
  | ((with_reducible refine af (some 26) (.load 3 (.tmp 25)) ?_);go_must (refine aa (.int .i64 k) rfl (ae (.int .i64 k) (Mem.cell hm 0 rfl 0) rfl ah) ?_))
  | (go_at_call 36;go_must (refine (HFO.out _).mono ?_);rintro e w7 ⟨he,hb⟩;subst he;replace hm:=hm.call hb;clear hb)
  | ((with_reducible refine af (some 5) (.alloc 79) ?_);go_must (refine aj _ aD hm ?_);clear hm;intro w8 g5 hm)
  | ((with_reducible refine af none (.store 79 (.tmp 5) (.tmp 28)) ?_);go_must (refine am 0 ([Value.string (mkS (wd k)),.bool false,.int .i64 (kn k:Int)]) hm rfl rfl rfl 3 aF rfl rfl ((HF1.out ())) ?_);clear hm;intro wk hm)
  | ((with_reducible refine af (some 31) (.load 4 (.tmp 30)) ?_);go_must (refine aa (.bool false) rfl (ae (.bool false) (Mem.cell hm 0 rfl 1) rfl bI) ?_))
  | ((with_reducible refine af (some 42) (.load 3 (.tmp 41)) ?_);go_must (refine aa (.int .i64 (kn k:Int)) rfl (ae (.int .i64 (kn k:Int)) (Mem.cell hm 0 rfl 2) rfl ah) ?_))
  | ((with_reducible refine af (some 47) (.load 3 (.tmp 46)) ?_);go_must (refine aa (.int .i64 (kn k:Int)) rfl (ae (.int .i64 (kn k:Int)) (Mem.cell hm 0 rfl 2) rfl ah) ?_))
  | (go_at_call 41;go_must (refine (HKI2.out _ hm.toUpd (hm.get 3 rfl)).mono ?_);rintro e w11 ⟨p9,m9,c9,he,⟨R9,r9,hr⟩,hu⟩;subst he;replace hm:=hm.upd 3 rfl hu hr;clear hr hu)
  | ((with_reducible refine af none (.store 22 (.tmp 51) (.tmp 49)) ?_);go_must (refine bo 1 2 (.slice p9 m9 c9) hm rfl rfl rfl du (by show 2<3;omega) rfl rfl ?_);clear hm;intro w12 hm)
  | ((with_reducible refine af none (.store 24 (.tmp 2) (.tmp 54)) ?_);go_must (refine am 2 ([.int .i64 0,.int .i64 0,.slice none 0 0]) hm rfl rfl rfl 3 ag rfl rfl ((by intro v hv;simp only [List.mem_cons,List.not_mem_nil,or_false] at hv;rcases hv with rfl|rfl|rfl<;>rfl)) ?_);clear hm;intro w13 hm))
 refine bG 2 (.bool false) hm rfl Tryz.results29 rfl rfl _ Tryz.underlying24 rfl 3 ag rfl rfl ?_
 exact ⟨rfl,⟨_,_,hm.get 3 rfl⟩,hm.toUpd⟩
theorem dO (g room q:Nat) (hq:room=q+1) (R:List UInt8) (w:World) (hRl:R.length≤100000) (hrm:room≤100) (hE:Esx w) (hg:10≤g) (hr:Row w g (rdv R room) 66) (k:Int) (hk:kdOf R=k) (hb:nb k=false) (l:List Tm) (S1:List UInt8) (r1:Nat) (hk0:kn k≠0) (HKI:∀W,Upd g w W→Row W g (rdv (R.drop (wd k).length) q) 66→Calls Tryz.prog 41 #[.pointer (some ⟨g,0,none⟩),.int .i64 (kn k:Int)] W fun e w'=>∃v,e=.returned (.tuple #[v,.bool true])∧SlT (FN W.heap.size w'.heap.size) w' v l∧Row w' g (rdv S1 r1) 66∧Upd g W w') :
  Calls Tryz.prog 29 #[.pointer (some ⟨g,0,none⟩)] w fun e w'=>∃s,e=.returned (.tuple #[.agg (tcs (mkT k 0 l) s).toArray,.bool true])∧SlT (FN w.heap.size w'.heap.size) w' s l∧Row w' g (rdv S1 r1) 66∧Upd g w w':=by
 have hm:=Mem.enter hr
 have hr0:((room:Int)==0)=false:=aE _ _ (by omega)
 have hw:IntKind.i64.wrap ((room:Int) - 1)=(q:Int):=(bK _ (by omega) (by omega)).trans (by omega)
 have hkr:1≤k∧k≤5:=by rw [←hk];exact bi R
 have HKD:Hid (∀W,Row W g (rdv R q) 66→Calls Tryz.prog 39 #[.pointer (some ⟨g,0,none⟩)] W fun e w'=>e=.returned (.int .i64 k)∧Row w' g (rdv (R.drop (wd k).length) q) 66∧Upd g W w'):=fun W hW=>by
  have:=cB R q g W hW
  rw [hk] at this
  exact this
 have HF1:Hid (∀_:Unit,∀v∈[Value.string (mkS (wd k)),.bool false,.int .i64 (kn k:Int)],v.oneCell'=true):=fun _=>by have h9:=bR k;rw [aS hkr,hb] at h9;exact h9
 have h91:=hE
 have h92:=hg
 clear h91 h92
 have HFO:Hid (∀W,Calls Tryz.prog 36 #[.int .i64 k] W fun e w'=>e=.returned (.tuple #[.agg [Value.string (mkS (wd k)),.bool false,.int .i64 (kn k:Int)].toArray,.bool true])∧Below W.heap.size W w'):=fun W=>by
  have:=aY k W
  rw [aS hkr,decide_eq_true hkr,hb] at this
  exact this
 have hdl:(R.drop (wd k).length).length≤100000:=by rw [List.length_drop];omega
 have hz:(kn k:Int) > 0:=by omega
 have HKI2:Hid _:=HKI
 clear HKI
 clear hE hr hk hb hkr hdl hRl hrm hq hk0
 go_enter Tryz.func29,Tryz.ntmps29
 go_wp2_with (first
  | ((with_reducible refine af (some 2) (.alloc 24) ?_);go_must (refine aj _ aq hm ?_);clear hm;intro w1 g2 hm)
  | ((with_reducible refine af (some 11) (.load 3 (.tmp 10)) ?_);go_must (refine aa (.int .i64 (room:Int)) rfl (ae (.int .i64 (room:Int)) (Mem.cell hm 1 rfl 1) rfl ah) ?_))
  | ((with_reducible refine af (some 17) (.load 3 (.tmp 16)) ?_);go_must (refine aa (.int .i64 (room:Int)) rfl (ae (.int .i64 (room:Int)) (Mem.cell hm 1 rfl 1) rfl ah) ?_))
  | ((with_reducible refine af none (.store 3 (.tmp 20) (.tmp 18)) ?_);go_must (refine bo 1 1 (.int .i64 (q:Int)) hm rfl rfl rfl cj (by show 1<2;omega) rfl rfl ?_);clear hm;intro w3 hm)
  | (go_at_call 39;go_must (refine (HKD.out _ (hm.get 1 rfl)).mono ?_);rintro e w4 ⟨he,hr,hu⟩;subst he;replace hm:=hm.upd 1 rfl hu hr;clear hr hu)
  | ((with_reducible refine af (some 4) (.alloc 24) ?_);go_must (refine aj _ aq hm ?_);clear hm;intro w5 g4 hm)
  | ((with_reducible refine af none (.store 24 (.tmp 4) (.tmp 23)) ?_);go_must (refine am 0 ([.int .i64 k,.int .i64 0,.slice none 0 0]) hm rfl rfl rfl 3 ag rfl rfl ((by intro v hv;simp only [List.mem_cons,List.not_mem_nil,or_false] at hv;rcases hv with rfl|rfl|rfl<;>rfl)) ?_);clear hm;intro w6 hm)
  | ((with_reducible refine af (some 26) (.load 3 (.tmp 25)) ?_);go_must (refine aa (.int .i64 k) rfl (ae (.int .i64 k) (Mem.cell hm 0 rfl 0) rfl ah) ?_))
  | (go_at_call 36;go_must (refine (HFO.out _).mono ?_);rintro e w7 ⟨he,hb⟩;subst he;replace hm:=hm.call hb;clear hb)
  | ((with_reducible refine af (some 5) (.alloc 79) ?_);go_must (refine aj _ aD hm ?_);clear hm;intro w8 g5 hm)
  | ((with_reducible refine af none (.store 79 (.tmp 5) (.tmp 28)) ?_);go_must (refine am 0 ([Value.string (mkS (wd k)),.bool false,.int .i64 (kn k:Int)]) hm rfl rfl rfl 3 aF rfl rfl ((HF1.out ())) ?_);clear hm;intro wk hm)
  | ((with_reducible refine af (some 31) (.load 4 (.tmp 30)) ?_);go_must (refine aa (.bool false) rfl (ae (.bool false) (Mem.cell hm 0 rfl 1) rfl bI) ?_))
  | ((with_reducible refine af (some 42) (.load 3 (.tmp 41)) ?_);go_must (refine aa (.int .i64 (kn k:Int)) rfl (ae (.int .i64 (kn k:Int)) (Mem.cell hm 0 rfl 2) rfl ah) ?_))
  | ((with_reducible refine af (some 47) (.load 3 (.tmp 46)) ?_);go_must (refine aa (.int .i64 (kn k:Int)) rfl (ae (.int .i64 (kn k:Int)) (Mem.cell hm 0 rfl 2) rfl ah) ?_))
  | (go_at_call 41;go_must (refine (HKI2.out _ hm.toUpd (hm.get 3 rfl)).mono ?_);rintro e w11 ⟨v11,he,hsv,hr,hu⟩;subst he;have HSV:Hid (SlT (FN wk.heap.size w11.heap.size) w11 v11 l):=hsv;obtain ⟨p9,c9,hv9,_⟩:=hsv.len;subst hv9;have HLT:Hid (g4<wk.heap.size∧g2<wk.heap.size∧w.heap.size≤wk.heap.size):=⟨(hm.get 1 rfl).lt,(hm.get 2 rfl).lt,hm.size⟩;replace hm:=hm.upd 3 rfl hu hr;clear hr hu hsv)
  | ((with_reducible refine af none (.store 22 (.tmp 51) (.tmp 49)) ?_);go_must (refine bP 1 2 (.slice p9 l.length c9) hm rfl rfl rfl du (by show 2<3;omega) rfl rfl ?_);clear hm;intro w12 hu12 hm;have HSV2:Hid (SlT (FN wk.heap.size w12.heap.size) w12 (.slice p9 l.length c9) l):=(HSV.out.keep (Keeps.upd hu12 (fun b hb he=>by have h8:=HLT.out;have h9:=hb.1;omega))).weak (fun b hb=>⟨hb.1,Nat.lt_of_lt_of_le hb.2 hu12.size⟩);clear HSV hu12)
  | ((with_reducible refine af (some 55) (.load 24 (.tmp 4)) ?_);go_must (refine aI 1 hm rfl rfl _ Tryz.underlying24 rfl 3 ag rfl ?_))
  | ((with_reducible refine af none (.store 24 (.tmp 2) (.tmp 55)) ?_);go_must (refine cC 2 [.int .i64 k,.int .i64 0,.slice p9 l.length c9] hm rfl rfl rfl 3 ag rfl rfl (by intro v hv;simp only [List.mem_cons,List.not_mem_nil,or_false] at hv;rcases hv with rfl|rfl|rfl<;>rfl) ?_);clear hm;intro w13 hu13 hm;have HSV3:Hid (SlT (FN wk.heap.size w13.heap.size) w13 (.slice p9 l.length c9) l):=(HSV2.out.keep (Keeps.upd hu13 (fun b hb he=>by have h8:=HLT.out;have h9:=hb.1;omega))).weak (fun b hb=>⟨hb.1,Nat.lt_of_lt_of_le hb.2 hu13.size⟩);clear HSV2 hu13))
 refine bG 2 (.bool true) hm rfl Tryz.results29 rfl rfl _ Tryz.underlying24 rfl 3 ag rfl rfl ?_
 exact ⟨_,rfl,HSV3.out.weak (fun b hb=>⟨Nat.le_trans HLT.out.2.2 hb.1,hb.2⟩),hm.get 3 rfl,hm.toUpd⟩
theorem ep {k:Int} {s:List UInt8} (hb:nb k=true):rdNum k s=(numV (ldg s)).map (fun n=>(n,s.drop (ldg s).length)):=by rw [rdNum,hb];rfl
theorem dN {k:Int} {s:List UInt8} (hb:nb k=false):rdNum k s=some (0,s):=by rw [rdNum,hb];rfl
theorem term_both:∀f,TermYes f∧TermNo f:=by
 intro f
 induction f with
 | zero =>
  refine ⟨fun g room R w _ _ _ _ _ _ t R1 r1 h=>(by cases h),fun g room R w h1 h2 h3 hE hg hr _=>?_⟩
  obtain rfl:room=0:=by omega
  exact term_zero g R w hr
 | succ f ih =>
  obtain ⟨ihY,ihN⟩:=ih
  constructor
  ·intro g room R w h1 h2 h3 hE hg hr t R1 r1 h
   have hn6:∀k,kn k≤100:=fun k=>by unfold kn;split<;>(try split)<;>omega
   rw [rdT] at h
   split at h
   ·cases h
   ·rename_i hr0
    obtain ⟨q,hq⟩:∃q,room=q+1:=⟨room - 1,by omega⟩
    obtain ⟨k,hk⟩:∃k,kdOf R=k:=⟨_,rfl⟩
    rw [hk,show room - 1=q by omega] at h
    have hdl:(R.drop (wd k).length).length≤100000:=by rw [List.length_drop];omega
    split at h
    ·cases h
    ·rename_i n s2 hnum
     cases hb:nb k with
     | true =>
      rw [ep hb,Option.map_eq_some_iff] at hnum
      obtain ⟨n',hn',he⟩:=hnum
      simp only [Prod.mk.injEq] at he
      obtain ⟨rfl,rfl⟩:=he
      have hdl2:((R.drop (wd k).length).drop (ldg (R.drop (wd k).length)).length).length≤100000:=by rw [List.length_drop];omega
      split at h
      ·rename_i hk0
       simp only [Option.some.injEq,Prod.mk.injEq] at h
       obtain ⟨rfl,rfl,rfl⟩:=h
       rw [aC]
       exact term_leaf g room q hq R w h1 h2 hE hg hr k hk hb n' hn' hk0
      ·rename_i hk0
       split at h
       ·cases h
       ·rename_i l s3 r3 hK
        split at h
        ·rename_i hp
         simp only [Option.some.injEq,Prod.mk.injEq] at h
         obtain ⟨rfl,rfl,rfl⟩:=h
         rw [aC]
         refine d7 g room q hq R w h1 h2 hE hg hr k hk hb n' hn' l _ _ hk0 fun W hW hrW=>?_
         have h9:=dL ihY (kn k) (hn6 k) g q _ W hdl2 (by omega) (by omega) (hE.upd hW hg) hg hrW l s3 r3 hK
         rw [hp,dZ hp] at h9
         exact h9
        ·cases h
     | false =>
      rw [dN hb] at hnum
      simp only [Option.some.injEq,Prod.mk.injEq] at hnum
      obtain ⟨rfl,rfl⟩:=hnum
      split at h
      ·rename_i hk0
       have hkr:=bi R
       rw [hk] at hkr
       unfold kn at hk0
       unfold nb at hb
       simp only [decide_eq_false_iff_not] at hb
       split at hk0
       ·omega
       ·split at hk0<;>omega
      ·rename_i hk0
       split at h
       ·cases h
       ·rename_i l s3 r3 hK
        split at h
        ·rename_i hp
         simp only [Option.some.injEq,Prod.mk.injEq] at h
         obtain ⟨rfl,rfl,rfl⟩:=h
         rw [aC]
         refine dO g room q hq R w h1 h2 hE hg hr k hk hb l _ _ hk0 fun W hW hrW=>?_
         have h9:=dL ihY (kn k) (hn6 k) g q _ W hdl (by omega) (by omega) (hE.upd hW hg) hg hrW l s3 r3 hK
         rw [hp,dZ hp] at h9
         exact h9
        ·cases h
  ·intro g room R w h1 h2 h3 hE hg hr h
   have hn6:∀k,kn k≤100:=fun k=>by unfold kn;split<;>(try split)<;>omega
   by_cases hr0:room=0
   ·subst hr0
    exact term_zero g R w hr
   ·obtain ⟨q,hq⟩:∃q,room=q+1:=⟨room - 1,by omega⟩
    obtain ⟨k,hk⟩:∃k,kdOf R=k:=⟨_,rfl⟩
    rw [rdT,if_neg hr0,hk,show room - 1=q by omega] at h
    have hdl:(R.drop (wd k).length).length≤100000:=by rw [List.length_drop];omega
    have fin:∀ {S:List UInt8} (hS:S.length≤100000) (hh:(match rdK (rdT f) (kn k) 40 S q with|none=>(none:Option (Tm×List UInt8×Nat))|some (l,s3,r3)=>if Lib.hasPrefix s3 [41]=true then some (mkT k 0 l,s3.drop 1,r3) else none)=none) W (hW:Upd g w W) (hrW:Row W g (rdv S q) 66),
      Calls Tryz.prog 41 #[.pointer (some ⟨g,0,none⟩),.int .i64 (kn k:Int)] W fun e w'=>∃p m c,e=.returned (.tuple #[.slice p m c,.bool false])∧(∃R1 r1,Row w' g (rdv R1 r1) 66)∧Upd g W w':=by
     intro S hS hh W hW hrW
     split at hh
     ·rename_i hK
      exact kids_none ihY ihN (kn k) (hn6 k) g q S W hS (by omega) (by omega) (hE.upd hW hg) hg hrW hK
     ·rename_i l s3 r3 hK
      split at hh
      ·cases hh
      ·rename_i hp
       have hp2:Lib.hasPrefix s3 [41]=false:=by simpa using hp
       refine (dL ihY (kn k) (hn6 k) g q S W hS (by omega) (by omega) (hE.upd hW hg) hg hrW l s3 r3 hK).mono ?_
       rintro e w' ⟨v,he,hs,hr',hu⟩
       obtain ⟨p,c,hv,_⟩:=hs.len
       rw [hp2,hv] at he
       exact ⟨p,_,c,he,⟨_,_,hr'⟩,hu⟩
    cases hb:nb k with
    | true =>
     rw [ep hb] at h
     cases hnum:numV (ldg (R.drop (wd k).length)) with
     | none=>exact term_nonum g room q hq R w h1 h2 hE hg hr k hk hb hnum
     | some n =>
      rw [hnum] at h
      simp only [Option.map_some] at h
      split at h
      ·cases h
      ·rename_i hk0
       refine dy g room q hq R w h1 h2 hE hg hr k hk hb n hnum hk0 (fin (by rw [List.length_drop];omega) ?_)
       split at h
       ·rename_i hK;rw [hK]
       ·rename_i l s3 r3 hK
        rw [hK]
        simp only
        split at h
        ·cases h
        ·rename_i hp;rw [if_neg hp]
    | false =>
     rw [dN hb] at h
     simp only at h
     split at h
     ·cases h
     ·rename_i hk0
      refine de g room q hq R w h1 h2 hE hg hr k hk hb hk0 (fin hdl ?_)
      exact h
theorem parse_yes (R:List UInt8) (w:World) (hRl:R.length≤100000) (hE:Esx w) (h10:10≤w.heap.size) (t:Tm) (r1:Nat) (hp:rdT 60 60 R=some (t,[],r1)) :
  Calls Tryz.prog 20 #[.string (mkS R)] w fun e w'=>∃s,e=.returned (.tuple #[.agg (tcs t s).toArray,.int .i64 0])∧SlT (FN w.heap.size w'.heap.size) w' s t.l∧Below w.heap.size w w':=by
 have hm:=Mem.start w
 have HES:Hid (Esx w):=hE
 have HTM:Hid (∀g W,Esx W→10≤g→Row W g (rdv R (60:Nat)) 66→Calls Tryz.prog 29 #[.pointer (some ⟨g,0,none⟩)] W fun e w'=>∃s,e=.returned (.tuple #[.agg (tcs t s).toArray,.bool true])∧SlT (FN W.heap.size w'.heap.size) w' s t.l∧Row w' g (rdv [] r1) 66∧Upd g W w'):=fun g W hEW hg hr=>(term_both 60).1 g 60 R W hRl (by omega) (by omega) hEW hg hr t [] r1 hp
 have HNE:Hid (∀_:Unit,(mkS []==⟨#[]⟩)=true):=fun _=>eqs_yes _
 clear hE hp
 go_enter Tryz.func20,Tryz.ntmps20
 go_wp2_with (first
  | ((with_reducible refine af (some 2) (.alloc 24) ?_);go_must (refine aj _ aq hm ?_);clear hm;intro w1 g2 hm)
  | ((with_reducible refine af (some 4) (.alloc 66) ?_);go_must (refine aj _ zero_rd hm ?_);clear hm;intro w2 g4 hm)
  | ((with_reducible refine af none (.store 66 (.tmp 4) (.tmp 8)) ?_);go_must (refine am 0 ([.string (mkS R),.int .i64 60]) hm rfl rfl rfl 2 sz_rd rfl rfl ((by intro v hv;simp only [List.mem_cons,List.not_mem_nil,or_false] at hv;rcases hv with rfl|rfl<;>rfl)) ?_);clear hm;intro w3 hm)
  | (go_at_call 29;go_must (refine (HTM.out g4 _ (HES.out.below hm.below) (Nat.le_trans h10 (by have h9:=hm.fresh (g4,_,_) (List.mem_cons_self ..);simpa using h9)) (hm.get 0 rfl)).mono ?_);rintro e w4 ⟨s4,he,hs4,hr,hu⟩;subst he;have HS4:Hid (SlT (FN w3.heap.size w4.heap.size) w4 s4 t.l):=hs4;obtain ⟨p4,c4,hv4,_⟩:=hs4.len;subst hv4;have HLT:Hid (g4<w3.heap.size∧g2<w3.heap.size∧w.heap.size≤w3.heap.size):=⟨(hm.get 0 rfl).lt,(hm.get 1 rfl).lt,hm.size⟩;replace hm:=hm.upd 0 rfl hu hr;clear hr hu hs4)
  | ((with_reducible refine af (some 5) (.alloc 24) ?_);go_must (refine ef _ aq hm ?_);clear hm;intro w5 g5 hb5 hg5 hm;have HS5:Hid (SlT (FN w3.heap.size w4.heap.size) w5 (.slice p4 t.l.length c4) t.l):=HS4.out.below hb5;have HG5:Hid (w4.heap.size≤g5∧w4.heap.size≤w5.heap.size):=⟨hg5,hb5.size⟩;clear hb5 hg5)
  | ((with_reducible refine af none (.store 24 (.tmp 5) (.tmp 11)) ?_);go_must (refine cC 0 (tcs t (.slice p4 t.l.length c4)) hm rfl rfl rfl 3 ag rfl rfl (aM _ _ _ _) ?_);clear hm;intro w6 hu hm;have HS6:Hid (SlT (FN w3.heap.size w6.heap.size) w6 (.slice p4 t.l.length c4) t.l):=(HS5.out.keep (Keeps.upd hu (fun b hb he=>by have h8:=HLT.out;have h7:=HG5.out;have h9:=hb.1;have h6:=hb.2;omega))).weak (fun b hb=>⟨hb.1,by have h6:=hb.2;have h5:=hu.size;have h7:=HG5.out;omega⟩);clear hu)
  | ((with_reducible refine ay (some 17) (.load 9 (.tmp 16)) (some (2,false)) ?_);go_must (refine aa (.string (mkS [])) rfl (ae (.string (mkS [])) (Mem.cell hm 1 rfl 0) rfl aZ) ?_))
  | ((with_reducible refine ay (some 18) (.binOp .neq 9 (.tmp 17) (.const (.string {data:=#[]})) 9) (some (2,false)) ?_);go_must (refine aa (.bool false) rfl (d5 (mkS []) ⟨#[]⟩ true rfl rfl (HNE.out ())) ?_))
  | ((with_reducible refine af (some 21) (.load 24 (.tmp 5)) ?_);go_must (refine aI 0 hm rfl rfl _ Tryz.underlying24 rfl 3 ag rfl ?_))
  | ((with_reducible refine af none (.store 24 (.tmp 2) (.tmp 21)) ?_);go_must (refine cC 2 (tcs t (.slice p4 t.l.length c4)) hm rfl rfl rfl 3 ag rfl rfl (aM _ _ _ _) ?_);clear hm;intro w7 hu hm;have HS7:Hid (SlT (FN w3.heap.size w7.heap.size) w7 (.slice p4 t.l.length c4) t.l):=(HS6.out.keep (Keeps.upd hu (fun b hb he=>by have h8:=HLT.out;have h7:=HG5.out;have h9:=hb.1;have h6:=hb.2;omega))).weak (fun b hb=>⟨hb.1,by have h6:=hb.2;have h5:=hu.size;have h7:=HG5.out;omega⟩);clear hu))
 refine bG 2 (.int .i64 0) hm rfl Tryz.results20 rfl rfl _ Tryz.underlying24 rfl 3 ag rfl rfl ?_
 exact ⟨_,rfl,HS7.out.weak (fun b hb=>⟨Nat.le_trans HLT.out.2.2 hb.1,hb.2⟩),hm.below⟩
open Go Go.RowKit
theorem dd:Tryz.prog.cellsOf 24=3:=by kernel_rfl
theorem er:Tryz.prog.cellsOf 3=1:=by kernel_rfl
theorem cells_terms:Tryz.prog.cellsOf 22=1:=by kernel_rfl
/-- As many elements as are read, one after another. -/
theorem open_run {W:World} {b o len:Nat} (h:∀i,i<len→∃(t:Tm) (s:Value),(∀j u,(tcs t s)[j]?=some u→W.cell? ⟨b,o+i * 3+j,none⟩=some u)∧SlT (fun _=>True) W s t.l):∀m,m≤len→∃(l:List Tm) (cs:List Value),l.length=m∧TC (fun _=>True) W l cs∧∀j u,cs[j]?=some u→W.cell? ⟨b,o+j,none⟩=some u:=by
 intro m
 induction m with
 | zero=>intro _;exact ⟨[],[],rfl,rfl,fun j u hu=>by simp at hu⟩
 | succ m ih =>
  intro hm
  obtain ⟨l,cs,hl,htc,hc⟩:=ih (by omega)
  obtain ⟨t,s,h1,h2⟩:=h m (by omega)
  refine ⟨l++[t],cs++tcs t s,by simp [hl],htc.snoc ((bq t s).2 h2),fun j u hu=>?_⟩
  have hlen:=htc.len
  by_cases hj:j<cs.length
  ·rw [List.getElem?_append_left hj] at hu
   exact hc j u hu
  ·rw [List.getElem?_append_right (by omega)] at hu
   have h3:=h1 (j - cs.length) u hu
   rw [show o+m * 3+(j - cs.length)=o+j by rw [hlen,hl];rw [hlen,hl] at hj;omega] at h3
   exact h3
theorem addT (b o i:Nat):(⟨b,o,none⟩:Addr).add i=⟨b,o+i,none⟩:=by
 unfold Addr.add
 by_cases h:i=0
 ·subst h;rfl
 ·simp [h]
theorem en {H:Type} {enc:TypeId×Value→H} {W:World}:∀(fuel:Nat) (cs:List Value) (x:DataW H×List MemPlace),DataW.trod enc Tryz.prog W 0 (fun _=>true) true fuel 24 cs=some x→∃(t:Tm) (s:Value),cs=tcs t s∧SlT (fun _=>True) W s t.l:=by
 intro fuel
 induction fuel using Nat.strongRecOn with
 | ind fuel ih =>
 intro cs x hf
 have hu:Tryz.prog.underlying 24=some (.struct (Tryz.prog.fieldsOf 24)):=by kernel_rfl
 have h0:((Tryz.prog.fieldsOf 24)[0]?).map (fun f=>(f.type,f.offset))=some (3,0):=by kernel_rfl
 have h1:((Tryz.prog.fieldsOf 24)[1]?).map (fun f=>(f.type,f.offset))=some (3,1):=by kernel_rfl
 have h2:((Tryz.prog.fieldsOf 24)[2]?).map (fun f=>(f.type,f.offset))=some (22,2):=by kernel_rfl
 have hsz:(Tryz.prog.fieldsOf 24).size=3:=by kernel_rfl
 generalize Tryz.prog.fieldsOf 24=fs at hu h0 h1 h2 hsz
 obtain ⟨xs,m,rfl,hxe,hl,hxl,hget⟩:=DataW.trod_struct hu hf
 rw [dd] at hl
 have key:∀(i:Nat) (T:TypeId),(fs[i]?).map (fun f=>(f.type,f.offset))=some (T,i)→Tryz.prog.cellsOf T=1→i<3→∃y c,cs[i]?=some c∧DataW.trod enc Tryz.prog W 0 (fun _=>true) true m T [c]=some y:=by
  intro i T hi hc hi5
  obtain ⟨f,hf1,hf2⟩:=Option.map_eq_some_iff.1 hi
  simp only [Prod.mk.injEq] at hf2
  obtain ⟨rfl,hfo⟩:=hf2
  have hg:=hget i f hf1
  rw [hc,hfo] at hg
  have hx:xs[i]?=some (xs[i]'(by omega)):=by simp [show i<xs.length by omega]
  rw [hx] at hg
  have hc1:cs[i]?=some (cs[i]'(by omega)):=by simp [show i<cs.length by omega]
  have hd:(cs.drop i).take 1=[cs[i]'(by omega)]:=by
   rw [List.drop_eq_getElem_cons (show i<cs.length by omega)]
   rfl
  rw [hd] at hg
  exact ⟨_,_,hc1,hg⟩
 obtain ⟨y0,c0,e0,t0⟩:=key 0 _ h0 er (by omega)
 obtain ⟨y1,c1,e1,t1⟩:=key 1 _ h1 er (by omega)
 obtain ⟨y2,c2,e2,t2⟩:=key 2 _ h2 cells_terms (by omega)
 obtain ⟨k,g0,_,_⟩:=DataW.trod_int un_int t0
 obtain ⟨n,g1,_,_⟩:=DataW.trod_int un_int t1
 simp only [List.cons.injEq,and_true] at g0 g1
 subst g0 g1
 have hcs:cs=[.int .i64 k,.int .i64 n,c2]:=by
  match cs,hl,e0,e1,e2 with
  | [a,b,c],_,e0,e1,e2 =>
   simp only [List.getElem?_cons_zero,List.getElem?_cons_succ,Option.some.injEq] at e0 e1 e2
   rw [e0,e1,e2]
 suffices hs:∃l:List Tm,SlT (fun _=>True) W c2 l by
  obtain ⟨l,hs⟩:=hs
  exact ⟨mkT k n l,c2,hcs,by rw [aC];exact hs⟩
 rcases DataW.trod_slice bc t2 with ⟨hc,_⟩|⟨a,len,cap,elems,rest,m2,rfl,hc,_,_,hlc,_,hel,hall,_,_⟩
 ·simp only [List.cons.injEq,and_true] at hc
  subst hc
  exact ⟨[],SlT.nil⟩
 ·simp only [List.cons.injEq,and_true] at hc
  subst hc
  rw [dd] at hall
  by_cases h0:0<len
  ·obtain ⟨b,o,spot⟩:=a
   have step:∀i,i<len→∃cs',W.cells? 0 ((⟨b,o,spot⟩:Addr).add (i * 3)) 3=some cs'∧∃y,DataW.trod enc Tryz.prog W 0 (fun _=>true) true m2 24 cs'=some y:=by
    intro i hi
    have hk:=hall i hi
    rw [List.getElem?_eq_getElem (by omega)] at hk
    obtain ⟨cs',h3,h4⟩:=Option.bind_eq_some_iff.1 hk
    exact ⟨cs',h3,_,h4⟩
   have hspot:spot=none:=by
    obtain ⟨cs',h3,_⟩:=step 0 h0
    obtain ⟨_,h4,h5⟩:=World.cells?_some h3
    have h6:=h5 0 (by omega)
    rw [List.getElem?_eq_getElem (by omega)] at h6
    simpa [Addr.add] using World.cell?_spot h6
   subst hspot
   obtain ⟨l,cs9,hl9,htc,hc9⟩:=open_run (W:=W) (b:=b) (o:=o) (len:=len) (fun i hi=>by
    obtain ⟨cs',h3,y,h4⟩:=step i hi
    obtain ⟨t,s,he,hst⟩:=ih m2 (by omega) cs' y h4
    subst he
    obtain ⟨_,_,h5⟩:=World.cells?_some h3
    refine ⟨t,s,fun j u hu=>?_,hst⟩
    have hj:j<3:=(List.getElem?_eq_some_iff.1 hu).1
    have h6:=h5 j hj
    rw [hu] at h6
    rw [addT,addT] at h6
    exact h6) len (Nat.le_refl _)
   subst hl9
   exact ⟨l,_,cap,cs9,rfl,hlc,htc,fun _=>⟨b,o,rfl,trivial,hc9⟩⟩
  ·obtain rfl:len=0:=by omega
   exact ⟨[],some a,cap,[],rfl,Nat.zero_le _,rfl,fun h=>absurd h (by simp)⟩
/-- An argument of that type. -/
theorem open_term {H:Type} {enc:TypeId×Value→H} {W:World} {v:Value} {d:DataW H} {ps:List MemPlace} (hok:Value.okWide Tryz.prog W .any 0 24 v) (h:DataW.Trod enc Tryz.prog W 0 (fun _=>true) true 24 v d ps):∃(t:Tm) (s:Value),v=.agg (tcs t s).toArray∧SlT (fun _=>True) W s t.l:=by
 obtain ⟨fuel,hf⟩:=h
 obtain ⟨t,s,hc,hs⟩:=en fuel _ _ hf
 obtain ⟨a,rfl,_⟩:=Go.WideShapes.okWide_struct Tryz.underlying24 hok
 refine ⟨t,s,?_,hs⟩
 have h2:a.toList=tcs t s:=hc
 rw [←h2]
theorem open_termsC {H:Type} {enc:TypeId×Value→H} {W:World} {fuel:Nat} {c2:Value} {y:DataW H×List MemPlace} (t2:DataW.trod enc Tryz.prog W 0 (fun _=>true) true fuel 22 [c2]=some y):∃l:List Tm,SlT (fun _=>True) W c2 l∧l.length≤maxLen:=by
 rcases DataW.trod_slice bc t2 with ⟨hc,_⟩|⟨a,len,cap,elems,rest,m2,rfl,hc,_,_,hlc,hcm,hel,hall,_,_⟩
 ·simp only [List.cons.injEq,and_true] at hc
  subst hc
  exact ⟨[],SlT.nil,Nat.zero_le _⟩
 ·simp only [List.cons.injEq,and_true] at hc
  subst hc
  rw [dd] at hall
  by_cases h0:0<len
  ·obtain ⟨b,o,spot⟩:=a
   have step:∀i,i<len→∃cs',W.cells? 0 ((⟨b,o,spot⟩:Addr).add (i * 3)) 3=some cs'∧∃y,DataW.trod enc Tryz.prog W 0 (fun _=>true) true m2 24 cs'=some y:=by
    intro i hi
    have hk:=hall i hi
    rw [List.getElem?_eq_getElem (by omega)] at hk
    obtain ⟨cs',h3,h4⟩:=Option.bind_eq_some_iff.1 hk
    exact ⟨cs',h3,_,h4⟩
   have hspot:spot=none:=by
    obtain ⟨cs',h3,_⟩:=step 0 h0
    obtain ⟨_,h4,h5⟩:=World.cells?_some h3
    have h6:=h5 0 (by omega)
    rw [List.getElem?_eq_getElem (by omega)] at h6
    simpa [Addr.add] using World.cell?_spot h6
   subst hspot
   obtain ⟨l,cs9,hl9,htc,hc9⟩:=open_run (W:=W) (b:=b) (o:=o) (len:=len) (fun i hi=>by
    obtain ⟨cs',h3,y,h4⟩:=step i hi
    obtain ⟨t,s,he,hst⟩:=en m2 cs' y h4
    subst he
    obtain ⟨_,_,h5⟩:=World.cells?_some h3
    refine ⟨t,s,fun j u hu=>?_,hst⟩
    have hj:j<3:=(List.getElem?_eq_some_iff.1 hu).1
    have h6:=h5 j hj
    rw [hu] at h6
    rw [addT,addT] at h6
    exact h6) len (Nat.le_refl _)
   subst hl9
   exact ⟨l,⟨_,cap,cs9,rfl,hlc,htc,fun _=>⟨b,o,rfl,trivial,hc9⟩⟩,Nat.le_trans hlc hcm⟩
  ·obtain rfl:len=0:=by omega
   exact ⟨[],⟨some a,cap,[],rfl,Nat.zero_le _,rfl,fun h=>absurd h (by simp)⟩,Nat.zero_le _⟩
theorem open_terms {H:Type} {enc:TypeId×Value→H} {W:World} {v:Value} {d:DataW H} {ps:List MemPlace} (hok:Value.okWide Tryz.prog W .any 0 22 v) (h:DataW.Trod enc Tryz.prog W 0 (fun _=>true) true 22 v d ps):∃l:List Tm,SlT (fun _=>True) W v l∧l.length≤maxLen:=by
 obtain ⟨a,len,cap,rfl⟩:=Go.WideShapes.okWide_slice bc hok
 obtain ⟨fuel,hf⟩:=h
 exact open_termsC hf
end Go.Proofs.YtcibhfcjbokdlabGreatDoor
