import Derived.Test.YtcibhfcjbokdlaaGreatDoorQt05
set_option maxRecDepth 100000
set_option maxHeartbeats 4000000
namespace Go.Proofs.YtcibhfcjbokdlaaGreatDoor
open Go Go.RowKit
theorem number_long (R:List UInt8) (room:Int) (g:Nat) (w:World) (hRl:R.length≤100000) (hl:2<(ldg R).length) (hr:Row w g (rdv R room) 80) :
  Calls Tryz.prog 62 #[.pointer (some ⟨g,0,none⟩)] w fun e w'=>e=.returned (.tuple #[.int .i64 0,.bool false])∧Row w' g (rdv R room) 80∧Upd g w w':=by
 have hm:=Mem.enter hr
 obtain ⟨d,hd⟩:∃d,d=(ldg R).length:=⟨_,rfl⟩
 have hdl:d≤R.length:=by
  have:=congrArg List.length (bZ R)
  rw [List.length_append,List.length_drop,←hd] at this
  omega
 obtain ⟨S,hS⟩:∃S,S=mkS R:=⟨_,rfl⟩
 obtain ⟨S2,hS2⟩:∃S,S=mkS (R.drop d):=⟨_,rfl⟩
 obtain ⟨S3,hS3⟩:∃S,S=mkS (ldg R):=⟨_,rfl⟩
 have z1:S.size=R.length:=by rw [hS,ay]
 have z2:S2.size=R.length - d:=by rw [hS2,ay,List.length_drop]
 have z3:S3.size=d:=by rw [hS3,ay,hd]
 have HS0:Hid (∀_:Unit,(rdv R room)[0]?=some (.string S)):=fun _=>by rw [hS];rfl
 have HTR:Hid (∀W,Calls Tryz.prog 78 #[.string S,.string ⟨#[48,49,50,51,52,53,54,55,56,57]⟩] W fun e w'=>e=.returned (.string S2)∧Below W.heap.size W w'):=fun W=>by
  have:=dV S W
  rw [hS,aR,←hd,←hS2] at this
  rw [hS]
  exact this
 have HWR:Hid (∀_:Unit,IntKind.i64.wrap ((S.size:Int) - (S2.size:Int))=(d:Int)):=fun _=>(bm _ (by omega) (by omega)).trans (by omega)
 have HDL:Hid (∀_:Unit,d≤S.size):=fun _=>by omega
 have HS3:Hid (∀_:Unit,bs S3=(bs S).take d):=fun _=>by
  rw [hS3,hS,aR,aR,hd]
  exact (d4 R).symm
 have HB3:Hid (∀_:Unit,bs S3=ldg R):=fun _=>by rw [hS3,aR]
 obtain ⟨Q,hQ⟩:∃Q,Q=mkS [57,57]:=⟨_,rfl⟩
 have HIQ:Hid (∀W,Calls Tryz.prog 64 #[.int .i64 99] W fun e w'=>e=.returned (.string Q)∧w'=W):=fun W=>by
  rw [hQ]
  exact cm 99 (by omega) (by omega) W
 have hqz:Q.size=2:=by rw [hQ,ay];rfl
 have HDR:Hid (∀_:Unit,d=(ldg R).length):=fun _=>hd
 have HZ3:Hid (∀_:Unit,S3.size=d∧Q.size=2):=fun _=>⟨z3,hqz⟩
 clear hr hS hS2 hS3 hd z1 z2 z3 hqz hdl hQ
 have hc:(S3.size:Int) > (Q.size:Int):=by have:=HDR.out ();have hz3:=HZ3.out ();omega
 go_enter Tryz.func62,Tryz.ntmps62
 go_wp2_with fail
 refine aq ?_
 refine ao (T:=fun W=>Mem w [g] W [(g,rdv R room,80)]) (by kernel_rfl) hm ?_
 intro wc hbw hmw
 replace hm:Mem w [g] wc [(g,rdv R room,80)]:=hmw
 clear hbw hmw
 refine aT 0 (v:=.pointer (some ⟨g,0,none⟩)) rfl (by kernel_rfl) rfl (fun W _=>by go_simp) hm ?_
 go_simp
 refine aT 1 (v:=.pointer (some ⟨g,0,none⟩)) rfl (by kernel_rfl) rfl (fun W _=>by go_simp) hm ?_
 go_simp
 refine aT 2 (v:=.pointer (some ⟨g,0,none⟩)) rfl (by kernel_rfl) rfl (fun W _=>by go_simp) hm ?_
 go_simp
 refine aT 3 (v:=.string S) rfl (by kernel_rfl) rfl (fun W hW=>ad (.string S) ((Mem.cell hW 0 rfl 0).trans (HS0.out ())) rfl bf) hm ?_
 go_simp
 refine aT 4 (v:=.pointer (some ⟨g,0,none⟩)) rfl (by kernel_rfl) rfl (fun W _=>by go_simp) hm ?_
 go_simp
 refine aT 5 (v:=.pointer (some ⟨g,0,none⟩)) rfl (by kernel_rfl) rfl (fun W _=>by go_simp) hm ?_
 go_simp
 refine aT 6 (v:=.pointer (some ⟨g,0,none⟩)) rfl (by kernel_rfl) rfl (fun W _=>by go_simp) hm ?_
 go_simp
 refine aT 7 (v:=.string S) rfl (by kernel_rfl) rfl (fun W hW=>ad (.string S) ((Mem.cell hW 0 rfl 0).trans (HS0.out ())) rfl bf) hm ?_
 go_simp
 refine aT 8 (v:=.int .i64 (S.size:Int)) rfl (by kernel_rfl) rfl (fun W _=>by go_simp) hm ?_
 go_simp
 refine aT 9 (v:=.pointer (some ⟨g,0,none⟩)) rfl (by kernel_rfl) rfl (fun W _=>by go_simp) hm ?_
 go_simp
 refine aT 10 (v:=.pointer (some ⟨g,0,none⟩)) rfl (by kernel_rfl) rfl (fun W _=>by go_simp) hm ?_
 go_simp
 refine aT 11 (v:=.pointer (some ⟨g,0,none⟩)) rfl (by kernel_rfl) rfl (fun W _=>by go_simp) hm ?_
 go_simp
 refine aT 12 (v:=.string S) rfl (by kernel_rfl) rfl (fun W hW=>ad (.string S) ((Mem.cell hW 0 rfl 0).trans (HS0.out ())) rfl bf) hm ?_
 go_simp
 refine aO 13 (by kernel_rfl) rfl rfl ?_
 intro K hK
 go_wp2_with (go_at_call 78;refine (HTR.out _).mono ?_;rintro e w' ⟨he,hb⟩;subst he;replace hm:=hm.call hb;clear hb)
 refine hK _ _ hm ?_
 clear hK K
 go_simp
 refine aT 14 (v:=.int .i64 (S2.size:Int)) rfl (by kernel_rfl) rfl (fun W _=>by go_simp) hm ?_
 go_simp
 refine aT 15 (v:=.int .i64 (d:Int)) rfl (by kernel_rfl) rfl (fun W _=>by first|(go_simp;done)|(go_simp;rw [HWR.out ()])|(go_simp;exact HWR.out ())|(go_simp;omega)) hm ?_
 go_simp
 refine aT 16 (v:=.string S3) rfl (by kernel_rfl) rfl (fun W _=>dx S S3 d (HDL.out ()) (HS3.out ()) rfl rfl) hm ?_
 go_simp
 refine aT 17 (v:=.string S3) rfl (by kernel_rfl) rfl (fun W _=>by go_simp) hm ?_
 go_simp
 refine wpAnyH_done (by kernel_rfl) ?_ _
 simp only [endsIn]
 go_wp2_with (first
  | (go_at_call 64;go_must (refine (HIQ.out _).mono ?_);rintro e w' ⟨he,hw⟩;subst he;replace hw:=hw.symm;subst hw))
 go_ret2
 exact ⟨rfl,hm.get 0 rfl,hm.toUpd⟩
theorem number_none (R:List UInt8) (room:Int) (g:Nat) (w:World) (hRl:R.length≤100000) (hl:ldg R=[]) (hE:Esx w) (hg10:10≤g) (hr:Row w g (rdv R room) 80) :
  Calls Tryz.prog 62 #[.pointer (some ⟨g,0,none⟩)] w fun e w'=>e=.returned (.tuple #[.int .i64 0,.bool false])∧Row w' g (rdv R room) 80∧Upd g w w':=by
 have hm:=Mem.enter hr
 obtain ⟨d,hd⟩:∃d,d=(ldg R).length:=⟨_,rfl⟩
 have hdl:d≤R.length:=by
  have:=congrArg List.length (bZ R)
  rw [List.length_append,List.length_drop,←hd] at this
  omega
 obtain ⟨S,hS⟩:∃S,S=mkS R:=⟨_,rfl⟩
 obtain ⟨S2,hS2⟩:∃S,S=mkS (R.drop d):=⟨_,rfl⟩
 obtain ⟨S3,hS3⟩:∃S,S=mkS (ldg R):=⟨_,rfl⟩
 have z1:S.size=R.length:=by rw [hS,ay]
 have z2:S2.size=R.length - d:=by rw [hS2,ay,List.length_drop]
 have z3:S3.size=d:=by rw [hS3,ay,hd]
 have HS0:Hid (∀_:Unit,(rdv R room)[0]?=some (.string S)):=fun _=>by rw [hS];rfl
 have HTR:Hid (∀W,Calls Tryz.prog 78 #[.string S,.string ⟨#[48,49,50,51,52,53,54,55,56,57]⟩] W fun e w'=>e=.returned (.string S2)∧Below W.heap.size W w'):=fun W=>by
  have:=dV S W
  rw [hS,aR,←hd,←hS2] at this
  rw [hS]
  exact this
 have HWR:Hid (∀_:Unit,IntKind.i64.wrap ((S.size:Int) - (S2.size:Int))=(d:Int)):=fun _=>(bm _ (by omega) (by omega)).trans (by omega)
 have HDL:Hid (∀_:Unit,d≤S.size):=fun _=>by omega
 have HS3:Hid (∀_:Unit,bs S3=(bs S).take d):=fun _=>by
  rw [hS3,hS,aR,aR,hd]
  exact (d4 R).symm
 have HB3:Hid (∀_:Unit,bs S3=ldg R):=fun _=>by rw [hS3,aR]
 obtain ⟨Q,hQ⟩:∃Q,Q=mkS [57,57]:=⟨_,rfl⟩
 have HIQ:Hid (∀W,Calls Tryz.prog 64 #[.int .i64 99] W fun e w'=>e=.returned (.string Q)∧w'=W):=fun W=>by
  rw [hQ]
  exact cm 99 (by omega) (by omega) W
 have hqz:Q.size=2:=by rw [hQ,ay];rfl
 have HDR:Hid (∀_:Unit,d=(ldg R).length):=fun _=>hd
 have HZ3:Hid (∀_:Unit,S3.size=d∧Q.size=2):=fun _=>⟨z3,hqz⟩
 clear hr hS hS2 hS3 hd z1 z2 z3 hqz hdl hQ
 have hc:¬(S3.size:Int) > (Q.size:Int):=by have:=HDR.out ();have hz3:=HZ3.out ();rw [hl] at this;simp at this;omega
 have HAT:Hid (∀W,Esx W→Calls Tryz.prog 79 #[.string S3] W fun e w'=>∃N T,e=.returned (.tuple #[.int .i64 0,.iface T (.pointer (some ⟨N,0,none⟩))])∧Below W.heap.size W w'):=fun W hW=>atoi_no S3 (by have:=HDR.out ();have hz3:=HZ3.out ();rw [hl] at this;simp at this;omega) (by rw [HB3.out (),hl];rfl) W hW
 have HE:Hid (∀W,Upd g w W→Esx W):=fun W hW=>hE.upd hW hg10
 clear hl hE
 go_enter Tryz.func62,Tryz.ntmps62
 go_wp2_with fail
 refine aq ?_
 refine ao (T:=fun W=>Mem w [g] W [(g,rdv R room,80)]) (by kernel_rfl) hm ?_
 intro wc hbw hmw
 replace hm:Mem w [g] wc [(g,rdv R room,80)]:=hmw
 clear hbw hmw
 refine aT 0 (v:=.pointer (some ⟨g,0,none⟩)) rfl (by kernel_rfl) rfl (fun W _=>by go_simp) hm ?_
 go_simp
 refine aT 1 (v:=.pointer (some ⟨g,0,none⟩)) rfl (by kernel_rfl) rfl (fun W _=>by go_simp) hm ?_
 go_simp
 refine aT 2 (v:=.pointer (some ⟨g,0,none⟩)) rfl (by kernel_rfl) rfl (fun W _=>by go_simp) hm ?_
 go_simp
 refine aT 3 (v:=.string S) rfl (by kernel_rfl) rfl (fun W hW=>ad (.string S) ((Mem.cell hW 0 rfl 0).trans (HS0.out ())) rfl bf) hm ?_
 go_simp
 refine aT 4 (v:=.pointer (some ⟨g,0,none⟩)) rfl (by kernel_rfl) rfl (fun W _=>by go_simp) hm ?_
 go_simp
 refine aT 5 (v:=.pointer (some ⟨g,0,none⟩)) rfl (by kernel_rfl) rfl (fun W _=>by go_simp) hm ?_
 go_simp
 refine aT 6 (v:=.pointer (some ⟨g,0,none⟩)) rfl (by kernel_rfl) rfl (fun W _=>by go_simp) hm ?_
 go_simp
 refine aT 7 (v:=.string S) rfl (by kernel_rfl) rfl (fun W hW=>ad (.string S) ((Mem.cell hW 0 rfl 0).trans (HS0.out ())) rfl bf) hm ?_
 go_simp
 refine aT 8 (v:=.int .i64 (S.size:Int)) rfl (by kernel_rfl) rfl (fun W _=>by go_simp) hm ?_
 go_simp
 refine aT 9 (v:=.pointer (some ⟨g,0,none⟩)) rfl (by kernel_rfl) rfl (fun W _=>by go_simp) hm ?_
 go_simp
 refine aT 10 (v:=.pointer (some ⟨g,0,none⟩)) rfl (by kernel_rfl) rfl (fun W _=>by go_simp) hm ?_
 go_simp
 refine aT 11 (v:=.pointer (some ⟨g,0,none⟩)) rfl (by kernel_rfl) rfl (fun W _=>by go_simp) hm ?_
 go_simp
 refine aT 12 (v:=.string S) rfl (by kernel_rfl) rfl (fun W hW=>ad (.string S) ((Mem.cell hW 0 rfl 0).trans (HS0.out ())) rfl bf) hm ?_
 go_simp
 refine aO 13 (by kernel_rfl) rfl rfl ?_
 intro K hK
 go_wp2_with (go_at_call 78;refine (HTR.out _).mono ?_;rintro e w' ⟨he,hb⟩;subst he;replace hm:=hm.call hb;clear hb)
 refine hK _ _ hm ?_
 clear hK K
 go_simp
 refine aT 14 (v:=.int .i64 (S2.size:Int)) rfl (by kernel_rfl) rfl (fun W _=>by go_simp) hm ?_
 go_simp
 refine aT 15 (v:=.int .i64 (d:Int)) rfl (by kernel_rfl) rfl (fun W _=>by first|(go_simp;done)|(go_simp;rw [HWR.out ()])|(go_simp;exact HWR.out ())|(go_simp;omega)) hm ?_
 go_simp
 refine aT 16 (v:=.string S3) rfl (by kernel_rfl) rfl (fun W _=>dx S S3 d (HDL.out ()) (HS3.out ()) rfl rfl) hm ?_
 go_simp
 refine aT 17 (v:=.string S3) rfl (by kernel_rfl) rfl (fun W _=>by go_simp) hm ?_
 go_simp
 refine wpAnyH_done (by kernel_rfl) ?_ _
 simp only [endsIn]
 go_wp2_with (first
  | (go_at_call 64;go_must (refine (HIQ.out _).mono ?_);rintro e w' ⟨he,hw⟩;subst he;replace hw:=hw.symm;subst hw)
  | (go_at_call 79;go_must (refine (HAT.out _ (HE.out _ hm.toUpd)).mono ?_);rintro e w' ⟨N,T0,he,hb⟩;subst he;replace hm:=hm.call hb;clear hb))
 go_ret2
 exact ⟨rfl,hm.get 0 rfl,hm.toUpd⟩
theorem number_bad (R:List UInt8) (room:Int) (g:Nat) (w:World) (hRl:R.length≤100000) (v:Int) (hl:(ldg R).length≤2) (ha:Lib.atoi (ldg R)=some v) (h0:0≤v) (h99:v≤99) (hb:dig v≠ldg R) (hr:Row w g (rdv R room) 80) :
  Calls Tryz.prog 62 #[.pointer (some ⟨g,0,none⟩)] w fun e w'=>e=.returned (.tuple #[.int .i64 0,.bool false])∧Row w' g (rdv R room) 80∧Upd g w w':=by
 have hm:=Mem.enter hr
 obtain ⟨d,hd⟩:∃d,d=(ldg R).length:=⟨_,rfl⟩
 have hdl:d≤R.length:=by
  have:=congrArg List.length (bZ R)
  rw [List.length_append,List.length_drop,←hd] at this
  omega
 obtain ⟨S,hS⟩:∃S,S=mkS R:=⟨_,rfl⟩
 obtain ⟨S2,hS2⟩:∃S,S=mkS (R.drop d):=⟨_,rfl⟩
 obtain ⟨S3,hS3⟩:∃S,S=mkS (ldg R):=⟨_,rfl⟩
 have z1:S.size=R.length:=by rw [hS,ay]
 have z2:S2.size=R.length - d:=by rw [hS2,ay,List.length_drop]
 have z3:S3.size=d:=by rw [hS3,ay,hd]
 have HS0:Hid (∀_:Unit,(rdv R room)[0]?=some (.string S)):=fun _=>by rw [hS];rfl
 have HTR:Hid (∀W,Calls Tryz.prog 78 #[.string S,.string ⟨#[48,49,50,51,52,53,54,55,56,57]⟩] W fun e w'=>e=.returned (.string S2)∧Below W.heap.size W w'):=fun W=>by
  have:=dV S W
  rw [hS,aR,←hd,←hS2] at this
  rw [hS]
  exact this
 have HWR:Hid (∀_:Unit,IntKind.i64.wrap ((S.size:Int) - (S2.size:Int))=(d:Int)):=fun _=>(bm _ (by omega) (by omega)).trans (by omega)
 have HDL:Hid (∀_:Unit,d≤S.size):=fun _=>by omega
 have HS3:Hid (∀_:Unit,bs S3=(bs S).take d):=fun _=>by
  rw [hS3,hS,aR,aR,hd]
  exact (d4 R).symm
 have HB3:Hid (∀_:Unit,bs S3=ldg R):=fun _=>by rw [hS3,aR]
 obtain ⟨Q,hQ⟩:∃Q,Q=mkS [57,57]:=⟨_,rfl⟩
 have HIQ:Hid (∀W,Calls Tryz.prog 64 #[.int .i64 99] W fun e w'=>e=.returned (.string Q)∧w'=W):=fun W=>by
  rw [hQ]
  exact cm 99 (by omega) (by omega) W
 have hqz:Q.size=2:=by rw [hQ,ay];rfl
 have HDR:Hid (∀_:Unit,d=(ldg R).length):=fun _=>hd
 have HZ3:Hid (∀_:Unit,S3.size=d∧Q.size=2):=fun _=>⟨z3,hqz⟩
 clear hr hS hS2 hS3 hd z1 z2 z3 hqz hdl hQ
 have hc:¬(S3.size:Int) > (Q.size:Int):=by have:=HDR.out ();have hz3:=HZ3.out ();omega
 have HAT:Hid (∀W,Calls Tryz.prog 79 #[.string S3] W fun e w'=>e=.returned (.tuple #[.int .i64 v,.nilIface])∧Below W.heap.size W w'):=fun W=>atoi_ok S3 v (by have:=HDR.out ();have hz3:=HZ3.out ();omega) (by rw [HB3.out ()];exact ha) W
 obtain ⟨V,hV⟩:∃V,V=mkS (dig v):=⟨_,rfl⟩
 have HI2:Hid (∀W,Calls Tryz.prog 64 #[.int .i64 v] W fun e w'=>e=.returned (.string V)∧w'=W):=fun W=>by rw [hV];exact cm v h0 h99 W
 have hv99:decide (v > 99)=false:=decide_eq_false (by omega)
 have hv99b:decide (99<v)=false:=decide_eq_false (by omega)
 have tk1:Nat:=0
 have HVS:Hid (∀_:Unit,(V==S3)=false):=fun _=>eqs_no (fun he=>hb (by have:=congrArg bs he;rw [hV,aR,HB3.out ()] at this;exact this))
 clear hl ha hb hV h0 h99
 go_enter Tryz.func62,Tryz.ntmps62
 go_wp2_with fail
 refine aq ?_
 refine ao (T:=fun W=>Mem w [g] W [(g,rdv R room,80)]) (by kernel_rfl) hm ?_
 intro wc hbw hmw
 replace hm:Mem w [g] wc [(g,rdv R room,80)]:=hmw
 clear hbw hmw
 refine aT 0 (v:=.pointer (some ⟨g,0,none⟩)) rfl (by kernel_rfl) rfl (fun W _=>by go_simp) hm ?_
 go_simp
 refine aT 1 (v:=.pointer (some ⟨g,0,none⟩)) rfl (by kernel_rfl) rfl (fun W _=>by go_simp) hm ?_
 go_simp
 refine aT 2 (v:=.pointer (some ⟨g,0,none⟩)) rfl (by kernel_rfl) rfl (fun W _=>by go_simp) hm ?_
 go_simp
 refine aT 3 (v:=.string S) rfl (by kernel_rfl) rfl (fun W hW=>ad (.string S) ((Mem.cell hW 0 rfl 0).trans (HS0.out ())) rfl bf) hm ?_
 go_simp
 refine aT 4 (v:=.pointer (some ⟨g,0,none⟩)) rfl (by kernel_rfl) rfl (fun W _=>by go_simp) hm ?_
 go_simp
 refine aT 5 (v:=.pointer (some ⟨g,0,none⟩)) rfl (by kernel_rfl) rfl (fun W _=>by go_simp) hm ?_
 go_simp
 refine aT 6 (v:=.pointer (some ⟨g,0,none⟩)) rfl (by kernel_rfl) rfl (fun W _=>by go_simp) hm ?_
 go_simp
 refine aT 7 (v:=.string S) rfl (by kernel_rfl) rfl (fun W hW=>ad (.string S) ((Mem.cell hW 0 rfl 0).trans (HS0.out ())) rfl bf) hm ?_
 go_simp
 refine aT 8 (v:=.int .i64 (S.size:Int)) rfl (by kernel_rfl) rfl (fun W _=>by go_simp) hm ?_
 go_simp
 refine aT 9 (v:=.pointer (some ⟨g,0,none⟩)) rfl (by kernel_rfl) rfl (fun W _=>by go_simp) hm ?_
 go_simp
 refine aT 10 (v:=.pointer (some ⟨g,0,none⟩)) rfl (by kernel_rfl) rfl (fun W _=>by go_simp) hm ?_
 go_simp
 refine aT 11 (v:=.pointer (some ⟨g,0,none⟩)) rfl (by kernel_rfl) rfl (fun W _=>by go_simp) hm ?_
 go_simp
 refine aT 12 (v:=.string S) rfl (by kernel_rfl) rfl (fun W hW=>ad (.string S) ((Mem.cell hW 0 rfl 0).trans (HS0.out ())) rfl bf) hm ?_
 go_simp
 refine aO 13 (by kernel_rfl) rfl rfl ?_
 intro K hK
 go_wp2_with (go_at_call 78;refine (HTR.out _).mono ?_;rintro e w' ⟨he,hb⟩;subst he;replace hm:=hm.call hb;clear hb)
 refine hK _ _ hm ?_
 clear hK K
 go_simp
 refine aT 14 (v:=.int .i64 (S2.size:Int)) rfl (by kernel_rfl) rfl (fun W _=>by go_simp) hm ?_
 go_simp
 refine aT 15 (v:=.int .i64 (d:Int)) rfl (by kernel_rfl) rfl (fun W _=>by first|(go_simp;done)|(go_simp;rw [HWR.out ()])|(go_simp;exact HWR.out ())|(go_simp;omega)) hm ?_
 go_simp
 refine aT 16 (v:=.string S3) rfl (by kernel_rfl) rfl (fun W _=>dx S S3 d (HDL.out ()) (HS3.out ()) rfl rfl) hm ?_
 go_simp
 refine aT 17 (v:=.string S3) rfl (by kernel_rfl) rfl (fun W _=>by go_simp) hm ?_
 go_simp
 refine wpAnyH_done (by kernel_rfl) ?_ _
 simp only [endsIn]
 go_wp2_with (first
  | (first|(clear tk1;go_at_call 64;go_must (refine (HIQ.out _).mono ?_);rintro e w' ⟨he,hw⟩;subst he;replace hw:=hw.symm;subst hw)|(go_at_call 64;go_must (refine (HI2.out _).mono ?_);rintro e w' ⟨he,hw⟩;subst he;replace hw:=hw.symm;subst hw))
  | (go_at_call 79;go_must (refine (HAT.out _).mono ?_);rintro e w' ⟨he,hb⟩;subst he;replace hm:=hm.call hb;clear hb)
  | ((with_reducible refine aC (some 44) (.binOp .neq 9 (.tmp 42) (.tmp 43) 9) (some (6,false)) ?_);go_must (refine aa (.bool true) rfl (eS V S3 false rfl rfl (HVS.out ())) ?_)))
 go_ret2
 exact ⟨rfl,hm.get 0 rfl,hm.toUpd⟩
theorem number_good (R:List UInt8) (room:Int) (g:Nat) (w:World) (hRl:R.length≤100000) (v:Int) (hl:(ldg R).length≤2) (ha:Lib.atoi (ldg R)=some v) (h0:0≤v) (h99:v≤99) (hb:dig v=ldg R) (hr:Row w g (rdv R room) 80) :
  Calls Tryz.prog 62 #[.pointer (some ⟨g,0,none⟩)] w fun e w'=>e=.returned (.tuple #[.int .i64 v,.bool true])∧Row w' g (rdv (R.drop (ldg R).length) room) 80∧Upd g w w':=by
 have hm:=Mem.enter hr
 obtain ⟨d,hd⟩:∃d,d=(ldg R).length:=⟨_,rfl⟩
 have hdl:d≤R.length:=by
  have:=congrArg List.length (bZ R)
  rw [List.length_append,List.length_drop,←hd] at this
  omega
 obtain ⟨S,hS⟩:∃S,S=mkS R:=⟨_,rfl⟩
 obtain ⟨S2,hS2⟩:∃S,S=mkS (R.drop d):=⟨_,rfl⟩
 obtain ⟨S3,hS3⟩:∃S,S=mkS (ldg R):=⟨_,rfl⟩
 have z1:S.size=R.length:=by rw [hS,ay]
 have z2:S2.size=R.length - d:=by rw [hS2,ay,List.length_drop]
 have z3:S3.size=d:=by rw [hS3,ay,hd]
 have HS0:Hid (∀_:Unit,(rdv R room)[0]?=some (.string S)):=fun _=>by rw [hS];rfl
 have HTR:Hid (∀W,Calls Tryz.prog 78 #[.string S,.string ⟨#[48,49,50,51,52,53,54,55,56,57]⟩] W fun e w'=>e=.returned (.string S2)∧Below W.heap.size W w'):=fun W=>by
  have:=dV S W
  rw [hS,aR,←hd,←hS2] at this
  rw [hS]
  exact this
 have HWR:Hid (∀_:Unit,IntKind.i64.wrap ((S.size:Int) - (S2.size:Int))=(d:Int)):=fun _=>(bm _ (by omega) (by omega)).trans (by omega)
 have HDL:Hid (∀_:Unit,d≤S.size):=fun _=>by omega
 have HS3:Hid (∀_:Unit,bs S3=(bs S).take d):=fun _=>by
  rw [hS3,hS,aR,aR,hd]
  exact (d4 R).symm
 have HB3:Hid (∀_:Unit,bs S3=ldg R):=fun _=>by rw [hS3,aR]
 obtain ⟨Q,hQ⟩:∃Q,Q=mkS [57,57]:=⟨_,rfl⟩
 have HIQ:Hid (∀W,Calls Tryz.prog 64 #[.int .i64 99] W fun e w'=>e=.returned (.string Q)∧w'=W):=fun W=>by
  rw [hQ]
  exact cm 99 (by omega) (by omega) W
 have hqz:Q.size=2:=by rw [hQ,ay];rfl
 have HDR:Hid (∀_:Unit,d=(ldg R).length):=fun _=>hd
 have HZ3:Hid (∀_:Unit,S3.size=d∧Q.size=2):=fun _=>⟨z3,hqz⟩
 clear hr hS hS2 hS3 hd z1 z2 z3 hqz hdl hQ
 have hc:¬(S3.size:Int) > (Q.size:Int):=by have:=HDR.out ();have hz3:=HZ3.out ();omega
 have HAT:Hid (∀W,Calls Tryz.prog 79 #[.string S3] W fun e w'=>e=.returned (.tuple #[.int .i64 v,.nilIface])∧Below W.heap.size W w'):=fun W=>atoi_ok S3 v (by have:=HDR.out ();have hz3:=HZ3.out ();omega) (by rw [HB3.out ()];exact ha) W
 obtain ⟨V,hV⟩:∃V,V=mkS (dig v):=⟨_,rfl⟩
 have HI2:Hid (∀W,Calls Tryz.prog 64 #[.int .i64 v] W fun e w'=>e=.returned (.string V)∧w'=W):=fun W=>by rw [hV];exact cm v h0 h99 W
 have hv99:decide (v > 99)=false:=decide_eq_false (by omega)
 have hv99b:decide (99<v)=false:=decide_eq_false (by omega)
 have tk1:Nat:=0
 have HVS:Hid (∀_:Unit,(V==S3)=true):=fun _=>by
  have:V=S3:=bs_inj (by rw [hV,aR,HB3.out (),hb])
  rw [this];exact eqs_yes _
 have HSK:Hid (∀W,Row W g (rdv R room) 80→Calls Tryz.prog 77 #[.pointer (some ⟨g,0,none⟩),.string S3] W fun e w'=>e=.returned (.bool true)∧Row w' g (rdv (R.drop (ldg R).length) room) 80∧Upd g W w'):=fun W hW=>by
  have hp:Lib.hasPrefix R (ldg R)=true:=by
   have h9:=hp_of (ldg R) (R.drop (ldg R).length)
   rw [←bZ] at h9
   exact h9
  have h9:=dq hp room g W hW
  rw [show mkS (ldg R)=S3 by rw [←HB3.out (),mkS_bs]] at h9
  exact h9
 clear hl ha hb hV h0 h99
 go_enter Tryz.func62,Tryz.ntmps62
 go_wp2_with fail
 refine aq ?_
 refine ao (T:=fun W=>Mem w [g] W [(g,rdv R room,80)]) (by kernel_rfl) hm ?_
 intro wc hbw hmw
 replace hm:Mem w [g] wc [(g,rdv R room,80)]:=hmw
 clear hbw hmw
 refine aT 0 (v:=.pointer (some ⟨g,0,none⟩)) rfl (by kernel_rfl) rfl (fun W _=>by go_simp) hm ?_
 go_simp
 refine aT 1 (v:=.pointer (some ⟨g,0,none⟩)) rfl (by kernel_rfl) rfl (fun W _=>by go_simp) hm ?_
 go_simp
 refine aT 2 (v:=.pointer (some ⟨g,0,none⟩)) rfl (by kernel_rfl) rfl (fun W _=>by go_simp) hm ?_
 go_simp
 refine aT 3 (v:=.string S) rfl (by kernel_rfl) rfl (fun W hW=>ad (.string S) ((Mem.cell hW 0 rfl 0).trans (HS0.out ())) rfl bf) hm ?_
 go_simp
 refine aT 4 (v:=.pointer (some ⟨g,0,none⟩)) rfl (by kernel_rfl) rfl (fun W _=>by go_simp) hm ?_
 go_simp
 refine aT 5 (v:=.pointer (some ⟨g,0,none⟩)) rfl (by kernel_rfl) rfl (fun W _=>by go_simp) hm ?_
 go_simp
 refine aT 6 (v:=.pointer (some ⟨g,0,none⟩)) rfl (by kernel_rfl) rfl (fun W _=>by go_simp) hm ?_
 go_simp
 refine aT 7 (v:=.string S) rfl (by kernel_rfl) rfl (fun W hW=>ad (.string S) ((Mem.cell hW 0 rfl 0).trans (HS0.out ())) rfl bf) hm ?_
 go_simp
 refine aT 8 (v:=.int .i64 (S.size:Int)) rfl (by kernel_rfl) rfl (fun W _=>by go_simp) hm ?_
 go_simp
 refine aT 9 (v:=.pointer (some ⟨g,0,none⟩)) rfl (by kernel_rfl) rfl (fun W _=>by go_simp) hm ?_
 go_simp
 refine aT 10 (v:=.pointer (some ⟨g,0,none⟩)) rfl (by kernel_rfl) rfl (fun W _=>by go_simp) hm ?_
 go_simp
 refine aT 11 (v:=.pointer (some ⟨g,0,none⟩)) rfl (by kernel_rfl) rfl (fun W _=>by go_simp) hm ?_
 go_simp
 refine aT 12 (v:=.string S) rfl (by kernel_rfl) rfl (fun W hW=>ad (.string S) ((Mem.cell hW 0 rfl 0).trans (HS0.out ())) rfl bf) hm ?_
 go_simp
 refine aO 13 (by kernel_rfl) rfl rfl ?_
 intro K hK
 go_wp2_with (go_at_call 78;refine (HTR.out _).mono ?_;rintro e w' ⟨he,hb⟩;subst he;replace hm:=hm.call hb;clear hb)
 refine hK _ _ hm ?_
 clear hK K
 go_simp
 refine aT 14 (v:=.int .i64 (S2.size:Int)) rfl (by kernel_rfl) rfl (fun W _=>by go_simp) hm ?_
 go_simp
 refine aT 15 (v:=.int .i64 (d:Int)) rfl (by kernel_rfl) rfl (fun W _=>by first|(go_simp;done)|(go_simp;rw [HWR.out ()])|(go_simp;exact HWR.out ())|(go_simp;omega)) hm ?_
 go_simp
 refine aT 16 (v:=.string S3) rfl (by kernel_rfl) rfl (fun W _=>dx S S3 d (HDL.out ()) (HS3.out ()) rfl rfl) hm ?_
 go_simp
 refine aT 17 (v:=.string S3) rfl (by kernel_rfl) rfl (fun W _=>by go_simp) hm ?_
 go_simp
 refine wpAnyH_done (by kernel_rfl) ?_ _
 simp only [endsIn]
 go_wp2_with (first
  | (first|(clear tk1;go_at_call 64;go_must (refine (HIQ.out _).mono ?_);rintro e w' ⟨he,hw⟩;subst he;replace hw:=hw.symm;subst hw)|(go_at_call 64;go_must (refine (HI2.out _).mono ?_);rintro e w' ⟨he,hw⟩;subst he;replace hw:=hw.symm;subst hw))
  | (go_at_call 79;go_must (refine (HAT.out _).mono ?_);rintro e w' ⟨he,hb⟩;subst he;replace hm:=hm.call hb;clear hb)
  | ((with_reducible refine aC (some 44) (.binOp .neq 9 (.tmp 42) (.tmp 43) 9) (some (6,false)) ?_);go_must (refine aa (.bool false) rfl (eS V S3 true rfl rfl (HVS.out ())) ?_))
  | (go_at_call 77;go_must (refine (HSK.out _ (hm.get 0 rfl)).mono ?_);rintro e w9 ⟨he,hr,hu⟩;subst he;replace hm:=hm.upd 0 rfl hu hr;clear hr hu))
 go_ret2
 exact ⟨rfl,hm.get 0 rfl,hm.toUpd⟩
theorem number_no {R:List UInt8} (h:numV (ldg R)=none) (room:Int) (g:Nat) (w:World) (hRl:R.length≤100000) (hE:Esx w) (hg:10≤g) (hr:Row w g (rdv R room) 80) :
  Calls Tryz.prog 62 #[.pointer (some ⟨g,0,none⟩)] w fun e w'=>e=.returned (.tuple #[.int .i64 0,.bool false])∧Row w' g (rdv R room) 80∧Upd g w w':=by
 rcases num_cases (ldg R) (ldg_all R) with ⟨h1,_⟩|⟨h1,_⟩|⟨v,h1,h2,h3,h4,h5⟩
 ·exact number_long R room g w hRl h1 hr
 ·exact number_none R room g w hRl h1 hE hg hr
 ·rcases h5 with ⟨_,h6⟩|⟨h5,_⟩
  ·rw [h] at h6;cases h6
  ·exact number_bad R room g w hRl v h1 h2 h3 h4 h5 hr
theorem dJ {R:List UInt8} {n:Int} (h:numV (ldg R)=some n) (room:Int) (g:Nat) (w:World) (hRl:R.length≤100000) (hr:Row w g (rdv R room) 80) :
  Calls Tryz.prog 62 #[.pointer (some ⟨g,0,none⟩)] w fun e w'=>e=.returned (.tuple #[.int .i64 n,.bool true])∧Row w' g (rdv (R.drop (ldg R).length) room) 80∧Upd g w w':=by
 rcases num_cases (ldg R) (ldg_all R) with ⟨_,h1⟩|⟨_,h1⟩|⟨v,h1,h2,h3,h4,h5⟩
 ·rw [h] at h1;cases h1
 ·rw [h] at h1;cases h1
 ·rcases h5 with ⟨h5,h6⟩|⟨_,h6⟩
  ·rw [h] at h6
   obtain rfl:n=v:=Option.some.inj h6
   exact number_good R room g w hRl n h1 h2 h3 h4 h5 hr
  ·rw [h] at h6;cases h6
open Go Go.RowKit
theorem eF {w w':World} {base:Nat} {e:TypeId} {K:Nat} {v:Value} {n g:Nat} {cs:List Value} (h:w.ownsRow base e K v n cs) (hu:Upd g w w') (hg:g<base):w'.ownsRow base e K v n cs:=by
 obtain ⟨hl,h2⟩:=h
 refine ⟨hl,?_⟩
 rcases h2 with h2|⟨b,cap,cur,hv,hb,hh,r⟩
 ·exact Or.inl h2
 ·exact Or.inr ⟨b,cap,cur,hv,hb,by rw [hu.block b (Array.getElem?_eq_some_iff.1 hh).1 (by omega)];exact hh,r⟩
theorem av {w:World} {base:Nat} {e:TypeId} {K:Nat} {v:Value} {n b:Nat} {cs:List Value} (h:w.ownsRow base e K v n cs) (hv:v.ownBlock=some b):base≤b∧b<w.heap.size:=by
 obtain ⟨_,h2⟩:=h
 rcases h2 with ⟨rfl,_⟩|⟨q,cap,cur,rfl,hb,hh,_⟩
 ·cases hv
 ·have:q=b:=by simpa [Value.ownBlock] using hv
  subst this
  exact ⟨hb,(Array.getElem?_eq_some_iff.1 hh).1⟩
theorem upd_grown {w W W':World} {g base:Nat} {e:TypeId} {K:Nat} {v:Value} {n:Nat} {cs:List Value} (hu:Upd g w W) (hb:w.heap.size≤base) (ho:W.ownsRow base e K v n cs) (hg:W.grownBy W' v.ownBlock):Upd g w W':=by
 refine ⟨hg.os.trans hu.os,hg.tape.trans hu.tape,hg.output.trans hu.output,Nat.le_trans hu.size hg.size,fun k hk hn=>?_⟩
 refine (hg.block k (Nat.lt_of_lt_of_le hk hu.size) (fun he=>?_)).trans (hu.block k hk hn)
 have:=(av ho he.symm).1
 omega
theorem row_grown {W W':World} {g base:Nat} {e u:TypeId} {K:Nat} {v:Value} {n:Nat} {cs l:List Value} (hr:Row W g l u) (hgb:g<base) (ho:W.ownsRow base e K v n cs) (hg:W.grownBy W' v.ownBlock):Row W' g l u:=by
 unfold Row
 rw [hg.block g hr.lt (fun he=>by have:=(av ho he.symm).1;omega)]
 exact hr
def FF (base:Nat) (W:World) (v:Value):Nat→Prop:=fun b=>base≤b∧b<W.heap.size∧some b≠v.ownBlock
def FN (lo hi:Nat):Nat→Prop:=fun b=>lo≤b∧b<hi
theorem ff_push {base:Nat} {W W':World} {v v':Value} (hg:W.grownBy W' v.ownBlock) (hb:v'.ownBlock=v.ownBlock∨v'.ownBlock=some W.heap.size):Keeps (FF base W v) (FF base W' v') W W':=by
 intro b hF
 refine ⟨⟨hF.1,Nat.lt_of_lt_of_le hF.2.1 hg.size,?_⟩,fun o u h=>?_⟩
 ·rcases hb with hb|hb
  ·rw [hb];exact hF.2.2
  ·rw [hb];intro he;have:=Option.some.inj he;have:=hF.2.1;omega
 ·rw [World.cell?_of_block (w:=W) (hg.block b hF.2.1 hF.2.2)];exact h
theorem ff_upd {base g:Nat} {W W':World} {v:Value} (hu:Upd g W W') (hg:g<base):Keeps (FF base W v) (FF base W' v) W W':=by
 intro b hF
 refine ⟨⟨hF.1,Nat.lt_of_lt_of_le hF.2.1 hu.size,hF.2.2⟩,fun o u h=>?_⟩
 rw [World.cell?_of_block (w:=W) (hu.block b hF.2.1 (by have:=hF.1;omega))];exact h
theorem ff_of {base lo hi:Nat} {W:World} {v:Value} {e:TypeId} {K n:Nat} {cs:List Value} {W0:World} (ho:W0.ownsRow base e K v n cs) (h1:base≤lo) (h2:W0.heap.size≤lo) (h3:hi≤W.heap.size):∀b,FN lo hi b→FF base W v b:=by
 intro b hb
 refine ⟨by have:=hb.1;omega,by have:=hb.2;omega,fun he=>?_⟩
 have:=(av ho he.symm).2
 have:=hb.1
 omega
theorem TC.keeps {F F':Nat→Prop} {w w':World} {l:List Tm} {cs:List Value} (h:TC F w l cs) (hk:Keeps F F' w w'):TC F' w' l cs:=h.keep (fun t _=>KS.keep hk t)
theorem SlT.of_own {F F':Nat→Prop} {w:World} {base:Nat} {v:Value} {l:List Tm} {n:Nat} {cs:List Value} (ho:w.ownsRow base 24 3 v n cs) (hn:l.length=n) (ht:TC F w l cs) (hF:∀b,F b→F' b) (hF2:∀b,base≤b→b<w.heap.size→F' b):SlT F' w v l:=by
 obtain ⟨p,cap,hv,hc,_,hs⟩:=bK ho
 refine ⟨p,cap,cs,by rw [hn];exact hv,by rw [hn];exact hc,ht.keeps (Keeps.weak hF),fun h0=>?_⟩
 obtain ⟨b,off,hp,hseg⟩:=hs (by omega)
 have hb:v.ownBlock=some b:=by rw [hv,hp];rfl
 have h9:=av ho hb
 exact ⟨b,off,hp,hF2 b h9.1 h9.2,hseg⟩
section
variable {P:Program} {ops:Array Oper} {rest:List Oper} {a:Act} {w w0:World} {Q:Exit→Act→World→Prop} {typ:TypeId} {pos:String} {aft:Array Edge} {S:List Nat} {rows:List (Nat×List Value×TypeId)}
theorem bq {Q:Exit→Act→World→Prop} {w0:World} {S:List Nat} {rows:List (Nat×List Value×TypeId)} {ty:TypeId} {x y:Operand} (i:Nat) {g:Nat} {l:List Value} {t:TypeId} (l':List Value) (hm:Mem w0 S w rows) (hi:rows[i]?=some (g,l,t)) (hx:a.eval x=.pointer (some ⟨g,0,none⟩))
  (hy:a.eval y=.agg l'.toArray) (n:Nat) (hs:(P.info? ty).map (·.size)=some n) (hn:l.length=n) (hn':l'.length=n) (h1:∀v∈l',v.oneCell'=true)
  (h:∀w',Upd g w w'→Mem w0 S w' (rows.set i (g,l',t))→wpList P ops Q rest a w') :
  wpList P ops Q ({dst:=none,op:=.store ty x y,type:=typ,pos:=pos,after:=aft,guard:=none}::rest) a w:=by
 refine wpList_plain rfl fun K hK=>?_
 have hr:=hm.get i hi
 have hh:=hK _ _ (h _ (Upd.setRow g w l'.toArray) (hm.upd i hi (Upd.setRow g w l'.toArray) (hr.setRow l')))
 unfold Oper.wp execOp
 simp only [hx,hy,Instr.storeAt,Instr.sureAddr,Sem.run_bind,Sem.run_pure,Result.andThen_ok,
  run_storeVar_row w g t ty l.toArray l'.toArray hr (by rw [hs];simp [hn']) (by simp [hn,hn']) (by simpa using h1)]
 exact hh
theorem bG {dst:Option Tmp} {ty:TypeId} (z:List Value) (hz:∀w,(zeroValue ty).run P w=.ok (.agg z.toArray) w) (hm:Mem w0 S w rows)
  (h:∀w' g,Below w.heap.size w w'→w.heap.size≤g→Mem w0 S w' ((g,z,ty)::rows)→wpList P ops Q rest (a.put dst (.pointer (some ⟨g,0,none⟩))) w') :
  wpList P ops Q ({dst:=dst,op:=.alloc ty,type:=typ,pos:=pos,after:=aft,guard:=none}::rest) a w:=by
 refine wpList_plain rfl fun K hK=>?_
 have hh:=hK _ _ (h _ _ ((Below.refl _ _).alloc (Nat.le_refl _) _) (Nat.le_refl _) (hm.alloc z ty))
 unfold Oper.wp execOp
 simp [Instr.alloc,newVar,newRow,newObj,hz,Value.cells]
 exact hh
theorem bW {ty:TypeId} {x y:Operand} (i:Nat) {g:Nat} {l:List Value} {t:TypeId} (j:Nat) (v:Value) (hm:Mem w0 S w rows) (hi:rows[i]?=some (g,l,t)) (hx:a.eval x=.pointer (some ⟨g,j,none⟩))
  (hy:a.eval y=v) (hs:(P.info? ty).map (·.size)=some 1) (hj:j<l.length) (hc:v.cells=#[v]) (h1:v.oneCell'=true)
  (h:∀w',Upd g w w'→Mem w0 S w' (rows.set i (g,l.set j v,t))→wpList P ops Q rest a w') :
  wpList P ops Q ({dst:=none,op:=.store ty x y,type:=typ,pos:=pos,after:=aft,guard:=none}::rest) a w:=by
 refine wpList_plain rfl fun K hK=>?_
 have hr:=hm.get i hi
 have hh:=hK _ _ (h _ (Upd.setCell g j w v) (hm.upd i hi (Upd.setCell g j w v) (hr.set j v)))
 have hcell:w.cell? ⟨g,j,none⟩=some l[j]:=by rw [hm.cell i hi];simp [hj]
 have hadd:(⟨g,j,none⟩:Addr).add 0=⟨g,j,none⟩:=by unfold Addr.add;split<;>simp_all
 have hst:(storeVar ty ⟨g,j,none⟩ v).run P w=.ok () (w.setCell ⟨g,j,none⟩ v):=by
  cases hq:P.info? ty with
  | none=>simp [hq] at hs
  | some q =>
   have hs1:q.size=1:=by simpa [hq] using hs
   have hs2:(store ⟨g,j,none⟩ v).run P w=.ok () (w.setCell ⟨g,j,none⟩ v):=by
    rw [run_store P w _ v _ h1,hcell];simp [hr.free j]
   simp [storeVar,sizeOf,typeInfo,hq,hc,hs1,storeCells,hadd,hs2]
 unfold Oper.wp execOp
 simp only [hx,hy,Instr.storeAt,Instr.sureAddr,Sem.run_bind,Sem.run_pure,Result.andThen_ok,hst]
 exact hh
end
theorem rdT_le {f room:Nat} {R R1:List UInt8} {r1:Nat} {t:Tm} (h:rdT f room R=some (t,R1,r1)):R1.length≤R.length∧r1≤room:=by
 obtain ⟨h1,_,h3⟩:=rdT_sound f _ _ _ _ _ h
 have:=congrArg List.length h1
 rw [List.length_append] at this
 omega
def mkn (i:Nat):UInt8:=if i=0 then 40 else 44
open Go Go.RowKit Go.Maps
theorem dp:(Tryz.prog.info? 3).map (fun i=>(i.zero,i.size,i.bytes))=some (some (.int .i64 0),1,8):=by kernel_rfl
theorem nums_one (l:List Nat):∀u∈nums l,u.oneCell'=true:=by
 intro u hu
 obtain ⟨q,_,rfl⟩:=List.mem_map.1 hu
 rfl
theorem de (a b:List Nat):nums (a++b)=nums a++nums b:=by simp [nums]
theorem run_appI {w:World} {base n:Nat} {v:Value} {rl:List Nat} {ty:TypeId} (h:w.ownsRow base 3 1 v n (nums rl)) (ps:Option Addr) (m c:Nat) (ql:List Nat) (hm:m=ql.length) (hs:SlN w (.slice ps m c) ql) (hlen:n+ql.length≤1000000) (hbase:base≤w.heap.size) :
  ∃v' w',(Builtin.append_ #[41,41] ty #[v,.slice ps m c]).run Tryz.prog w=.ok v' w'∧w'.ownsRow base 3 1 v' (n+ql.length) (nums (rl++ql))∧w.grownBy w' v.ownBlock∧(v'.ownBlock=v.ownBlock∨v'.ownBlock=some w.heap.size):=by
 subst hm
 have hi:=dp
 cases hq:Tryz.prog.info? 3 with
 | none=>simp [hq] at hi
 | some i =>
  simp only [hq,Option.map_some,Option.some.injEq,Prod.mk.injEq] at hi
  obtain ⟨hz,h1,h2⟩:=hi
  by_cases h0:0<ql.length
  ·obtain ⟨b,off,rfl,hseg⟩:=SlV.at hs h0
   obtain ⟨v',w',hr,hown,hgr,_,hb⟩:=run_append_own_at (P:=Tryz.prog) w base 41 ty 3 i (.int .i64 0) 1 8 aU hq hz h1 h2 rfl (by omega) v n (nums rl) h ⟨b,off,none⟩ ql.length c (nums ql) (by rw [aL];omega) (fun j u hu=>by rw [aQ];exact hseg j u hu) (nums_one _) (by unfold maxLen;omega) (by omega) hbase
   exact ⟨v',w',hr,by rw [de];exact hown,hgr,hb⟩
  ·have hy:ql=[]:=List.eq_nil_of_length_eq_zero (by omega)
   subst hy
   refine ⟨v,w,?_,by rw [List.append_nil];exact h,⟨rfl,rfl,rfl,Nat.le_refl _,fun _ _ _=>rfl⟩,Or.inl rfl⟩
   obtain ⟨_,h3⟩:=h
   have hld:∀a:Addr,(loadCells a 0).run Tryz.prog w=.ok #[] w:=fun a=>rfl
   rcases h3 with ⟨rfl,_⟩|⟨g,cap,cur,rfl,_,_,hn,_⟩
   ·cases ps<;>simp [Builtin.append_,run_underlying aU,sizeOf,typeInfo,hq,Builtin.lenOf,Builtin.firstCells,hld]
   ·cases ps<;>simp [Builtin.append_,run_underlying aU,sizeOf,typeInfo,hq,Builtin.lenOf,Builtin.firstCells,hld,hn,storeCells]
section
variable {ops:Array Oper} {rest:List Oper} {a:Act} {w:World} {Q:Exit→Act→World→Prop} {dst:Option Tmp} {typ:TypeId} {pos:String} {aft:Array Edge} {gd:Option (Nat×Bool)}
theorem cA {s x:Operand} (hw:Region.wanted {dst:=dst,op:=.call {callee:=.builtin .append,args:=#[s,x],argTypes:=#[41,41]},type:=typ,pos:=pos,after:=aft,guard:=gd} (yielded ops a.tmps)=true)
  {base n m c:Nat} {v:Value} {rl ql:List Nat} {ps:Option Addr} (hown:w.ownsRow base 3 1 v n (nums rl)) (hs:SlN w (.slice ps m c) ql) (hm:m=ql.length) (hlen:n+ql.length≤1000000) (hbase:base≤w.heap.size) (hv:a.eval s=v) (hx:a.eval x=.slice ps m c)
  (h:∀v' w',w'.ownsRow base 3 1 v' (n+ql.length) (nums (rl++ql))→w.grownBy w' v.ownBlock→(v'.ownBlock=v.ownBlock∨v'.ownBlock=some w.heap.size)→wpList Tryz.prog ops Q rest (a.put dst v') w') :
  wpList Tryz.prog ops Q ({dst:=dst,op:=.call {callee:=.builtin .append,args:=#[s,x],argTypes:=#[41,41]},type:=typ,pos:=pos,after:=aft,guard:=gd}::rest) a w:=by
 obtain ⟨v',w',hr,ho,hg,hb⟩:=run_appI (ty:=typ) hown ps m c ql hm hs hlen hbase
 refine wpList_step fun K hK=>?_
 rw [if_pos hw]
 have hh:=hK _ _ (h v' w' ho hg hb)
 unfold Oper.wp execOp
 simp only [resolve,invoke,builtin,Sem.run_bind,Sem.run_pure,Result.andThen_ok,List.map_toArray,List.map_cons,List.map_nil,hv,hx,hr]
 exact hh
end
theorem cut_ownI {w:World} {base g n cap q:Nat} {sl:List Nat} (h:w.ownsRow base 3 1 (.slice (some ⟨g,0,none⟩) (n+1) cap) (n+1) (nums (sl++[q]))):w.ownsRow base 3 1 (.slice (some ⟨g,0,none⟩) n cap) n (nums sl):=by
 obtain ⟨hl,h2⟩:=h
 rw [aL,List.length_append,List.length_singleton] at hl
 rcases h2 with ⟨h3,_⟩|⟨g',cap',cur,hv,hb,hh,hn,hm,hs,ht⟩
 ·cases h3
 ·simp only [Value.slice.injEq,Option.some.injEq,Addr.mk.injEq,true_and,and_true] at hv
  obtain ⟨rfl,rfl⟩:=hv
  refine ⟨by rw [aL];omega,Or.inr ⟨g,cap,cur,rfl,hb,hh,by omega,hm,hs,?_⟩⟩
  have e1:(cur.toList.take ((n+1) * 1)).take (n * 1)=cur.toList.take (n * 1):=by rw [List.take_take,Nat.min_eq_left (by omega)]
  rw [←e1,ht,de]
  have:(nums sl).length=n * 1:=by rw [aL];omega
  rw [←this,List.take_left]
theorem NumsOf.snoc {T:List Tm} {ql:List Nat} {l:List Tm} {q:Nat} {x:Tm} (h:NumsOf T ql l) (hq:T[q]?=some x):NumsOf T (ql++[q]) (l++[x]):=by
 refine ⟨by simp [h.1],fun j r hj=>?_⟩
 by_cases hlt:j<ql.length
 ·rw [List.getElem?_append_left hlt] at hj
  obtain ⟨y,h1,h2⟩:=h.2 j r hj
  exact ⟨y,by rw [List.getElem?_append_left (by rw [←h.1];exact hlt)];exact h1,h2⟩
 ·have hlen:=h.1
  rw [List.getElem?_append_right (by omega)] at hj
  have hj0:j - ql.length=0:=by
   have:=(List.getElem?_eq_some_iff.1 hj).1
   simp at this
   omega
  rw [hj0] at hj
  simp only [List.getElem?_cons_zero,Option.some.injEq] at hj
  subst hj
  exact ⟨x,by rw [List.getElem?_append_right (by omega),←hlen,hj0];rfl,hq⟩
theorem NumsOf.app {T:List Tm} {ql rl:List Nat} {l r:List Tm} (h:NumsOf T ql l) (h2:NumsOf T rl r):NumsOf T (ql++rl) (l++r):=by
 refine ⟨by simp [h.1,h2.1],fun j q hj=>?_⟩
 have hlen:=h.1
 by_cases hlt:j<ql.length
 ·rw [List.getElem?_append_left hlt] at hj
  obtain ⟨y,a1,a2⟩:=h.2 j q hj
  exact ⟨y,by rw [List.getElem?_append_left (by omega)];exact a1,a2⟩
 ·rw [List.getElem?_append_right (by omega)] at hj
  obtain ⟨y,a1,a2⟩:=h2.2 _ q hj
  exact ⟨y,by rw [List.getElem?_append_right (by omega),←hlen];exact a1,a2⟩
theorem NumsOf.last {T:List Tm} {sl:List Nat} {S:List Tm} {n:Tm} (h:NumsOf T sl (S++[n])):∃s0 q,sl=s0++[q]∧NumsOf T s0 S∧T[q]?=some n:=by
 have hlen:sl.length=S.length+1:=by rw [h.1];simp
 have hne:sl≠[]:=by intro he;rw [he] at hlen;simp at hlen
 refine ⟨sl.dropLast,sl.getLast hne,(List.dropLast_concat_getLast hne).symm,?_,?_⟩
 ·refine ⟨by rw [List.length_dropLast];omega,fun j q hj=>?_⟩
  have hjl:=(List.getElem?_eq_some_iff.1 hj).1
  rw [List.length_dropLast] at hjl
  rw [List.getElem?_dropLast] at hj
  rw [if_pos (by omega)] at hj
  obtain ⟨x,h1,h2⟩:=h.2 j q hj
  rw [List.getElem?_append_left (by omega)] at h1
  exact ⟨x,h1,h2⟩
 ·have hg:sl[S.length]?=some (sl.getLast hne):=by
   rw [List.getLast_eq_getElem,List.getElem?_eq_getElem (by omega)]
   congr 1
   congr 1
   omega
  obtain ⟨x,h1,h2⟩:=h.2 _ _ hg
  rw [List.getElem?_append_right (Nat.le_refl _),Nat.sub_self] at h1
  rw [←Option.some.inj h1] at h2
  exact h2
theorem cP {w w':World} {base:Nat} {e:TypeId} {K:Nat} {v:Value} {n g:Nat} {cs:List Value} (h:w.ownsRow base e K v n cs) (hu:Upd g w w') (hg:some g≠v.ownBlock):w'.ownsRow base e K v n cs:=by
 obtain ⟨hl,h2⟩:=h
 refine ⟨hl,?_⟩
 rcases h2 with h2|⟨b,cap,cur,hv,hb,hh,r⟩
 ·exact Or.inl h2
 ·refine Or.inr ⟨b,cap,cur,hv,hb,?_,r⟩
  rw [hu.block b (Array.getElem?_eq_some_iff.1 hh).1 (fun he=>hg (by rw [hv,←he];rfl))]
  exact hh
theorem bn {w:World} {base g:Nat} {e t:TypeId} {K:Nat} {v:Value} {n:Nat} {cs l:List Value} (ho:w.ownsRow base e K v n cs) (hr:Row w g l t) (he:t≠e):some g≠v.ownBlock:=by
 intro hc
 obtain ⟨_,h2⟩:=ho
 rcases h2 with ⟨rfl,_⟩|⟨q,cap,cur,rfl,hb,hh,_⟩
 ·cases hc
 ·have:g=q:=by simpa [Value.ownBlock] using hc
  subst this
  unfold Row at hr
  rw [hr] at hh
  simp only [Option.some.injEq,Obj.cells.injEq] at hh
  exact he hh.2.1
theorem bu {W W':World} {g:Nat} {u:TypeId} {v:Value} {l:List Value} (hr:Row W g l u) (hne:some g≠v.ownBlock) (hg:W.grownBy W' v.ownBlock):Row W' g l u:=by
 unfold Row
 rw [hg.block g hr.lt hne]
 exact hr
theorem bk {w:World} {base m:Nat} {e:TypeId} {K:Nat} {v:Value} {n:Nat} {cs:List Value} {es:Array MapEntry} {c:Nat} (ho:w.ownsRow base e K v n cs) (hm:w.heap[m]?=some (.map es c)):some m≠v.ownBlock:=by
 intro hc
 obtain ⟨_,h2⟩:=ho
 rcases h2 with ⟨rfl,_⟩|⟨q,cap,cur,rfl,hb,hh,_⟩
 ·cases hc
 ·have:m=q:=by simpa [Value.ownBlock] using hc
  subst this
  rw [hm] at hh;cases hh
structure Kp (dg mk:Nat) (vr0:Value) (w0 w:World):Prop where
 os:w.os=w0.os
 tape:w.tape=w0.tape
 output:w.output=w0.output
 size:w0.heap.size≤w.heap.size
 block:∀b,b<w0.heap.size→b≠dg→b≠mk→some b≠vr0.ownBlock→w.heap[b]?=w0.heap[b]?
structure DerA (b1 QB:Nat) (w:World) (dg mk g:Nat) (T RM RR:List Tm) (vr:Value) (rl:List Nat):Prop where
 row:Row w dg [.pointer (some ⟨g,0,none⟩),.map (some mk),vr] 52
 own:w.ownsRow b1 3 1 vr RR.length (nums rl)
 num:NumsOf T rl RR
 km:∃q,q≤QB+RM.length∧KM Tryz.prog 3 w mk q (knownP T RM)
theorem DerA.rd {b1 QB:Nat} {w:World} {dg mk g:Nat} {T RM RR:List Tm} {vr:Value} {rl:List Nat} (h:DerA b1 QB w dg mk g T RM RR vr rl):DerR w dg mk g T RM:=by
 obtain ⟨q,_,hk⟩:=h.km
 exact ⟨⟨vr,h.row⟩,⟨q,hk⟩⟩
structure Le (w0 w:World) (b1 QB dg mk g:Nat) (vr0:Value) (T RM RR S:List Tm) (vr vt:Value) (rl sl:List Nat):Prop where
 kp:Kp dg mk vr0 w0 w
 der:DerA b1 QB w dg mk g T RM RR vr rl
 tod:w.ownsRow w0.heap.size 3 1 vt S.length (nums sl)
 tn:NumsOf T sl S
 sep:∀b,vt.ownBlock=some b→vr.ownBlock≠some b
 vrn:vr.ownBlock=vr0.ownBlock∨∃b,vr.ownBlock=some b∧w0.heap.size≤b
 lt:dg<w0.heap.size∧mk<w0.heap.size∧b1≤w0.heap.size
section
variable {w0 w w':World} {b1 QB dg mk g:Nat} {vr0:Value} {T RM RR S:List Tm} {vr vt:Value} {rl sl:List Nat}
theorem Le.below (h:Le w0 w b1 QB dg mk g vr0 T RM RR S vr vt rl sl) (hb:Below w.heap.size w w'):Le w0 w' b1 QB dg mk g vr0 T RM RR S vr vt rl sl:=by
 obtain ⟨q,hq,hk⟩:=h.der.km
 exact ⟨⟨hb.os.trans h.kp.os,hb.tape.trans h.kp.tape,hb.output.trans h.kp.output,Nat.le_trans h.kp.size hb.size,fun b h1 h2 h3 h4=>(hb.block b (Nat.lt_of_lt_of_le h1 h.kp.size)).trans (h.kp.block b h1 h2 h3 h4)⟩,
  ⟨h.der.row.below' hb,aK h.der.own hb,h.der.num,⟨q,hq,hk.below hb⟩⟩,aK h.tod hb,h.tn,h.sep,h.vrn,h.lt⟩
/-- The pile grows. -/
theorem Le.push {S2:List Tm} {ql:List Nat} {v':Value} (h:Le w0 w b1 QB dg mk g vr0 T RM RR S vr vt rl sl) (ho:w'.ownsRow w0.heap.size 3 1 v' (S.length+ql.length) (nums (sl++ql))) (hg:w.grownBy w' vt.ownBlock) (hl:v'.ownBlock=vt.ownBlock∨v'.ownBlock=some w.heap.size) (hq:NumsOf T ql S2):Le w0 w' b1 QB dg mk g vr0 T RM RR (S++S2) vr v' rl (sl++ql):=by
 have hvt:∀b,vt.ownBlock=some b→w0.heap.size≤b:=fun b hb=>(av h.tod hb).1
 have hsz:=h.kp.size
 obtain ⟨q,hq2,hk⟩:=h.der.km
 have hmk:some mk≠vt.ownBlock:=fun he=>by have:=hvt mk he.symm;have:=h.lt.2.1;omega
 have hdg:some dg≠vt.ownBlock:=fun he=>by have:=hvt dg he.symm;have:=h.lt.1;omega
 have hvr:vr.ownBlock=none∨vr.ownBlock≠vt.ownBlock:=by
  cases hv:vt.ownBlock with
  | none=>cases hr:vr.ownBlock with
   | none=>exact Or.inl rfl
   | some b=>exact Or.inr (by simp)
  | some b=>exact Or.inr (h.sep b hv)
 refine ⟨⟨hg.os.trans h.kp.os,hg.tape.trans h.kp.tape,hg.output.trans h.kp.output,Nat.le_trans hsz hg.size,fun b b1' b2 b3 b4=>(hg.block b (by omega) (fun he=>by have:=hvt b he.symm;omega)).trans (h.kp.block b b1' b2 b3 b4)⟩,
  ⟨bu h.der.row hdg hg,World.ownsRow.kept h.der.own hg hvr,h.der.num,⟨q,hq2,hk.keep (hg.block mk (by have:=h.lt.2.1;omega) hmk)⟩⟩,by rw [List.length_append,←hq.1];exact ho,h.tn.app hq,fun b hb he=>?_,h.vrn,h.lt⟩
 rcases hl with hl|hl
 ·rw [hl] at hb;exact h.sep b hb he
 ·rw [hl] at hb
  have hbb:=Option.some.inj hb
  have:=(av h.der.own he).2
  omega
/-- One more is known by the map. -/
theorem Le.know {i:Nat} {n:Tm} {q:Nat} (h:Le w0 w b1 QB dg mk g vr0 T RM RR S vr vt rl sl) (hq:q≤QB+RM.length) (hi:T[i]?=some n) (hk:KM Tryz.prog 3 w' mk (q+1) (putK (knownP T RM) (.int .i64 (i:Int)) (.agg [].toArray))) (hu:Upd mk w w') (hrm:∃es c,w.heap[mk]?=some (.map es c)) (hn:T.Nodup):Le w0 w' b1 QB dg mk g vr0 T (RM++[n]) RR S vr vt rl sl:=by
 obtain ⟨es,c,hm⟩:=hrm
 have hsz:=h.kp.size
 refine ⟨⟨hu.os.trans h.kp.os,hu.tape.trans h.kp.tape,hu.output.trans h.kp.output,Nat.le_trans hsz hu.size,fun b b1' b2 b3 b4=>(hu.block b (by omega) b3).trans (h.kp.block b b1' b2 b3 b4)⟩,
  ⟨hu.row h.der.row (b8 h.der.row hm),cP h.der.own hu (bk h.der.own hm),h.der.num,⟨q+1,by rw [List.length_append,List.length_singleton];omega,hk.same fun k v=>?_⟩⟩,cP h.tod hu (bk h.tod hm),h.tn,h.sep,h.vrn,h.lt⟩
 constructor
 ·rintro (⟨rfl,rfl⟩|⟨_,h1,j,u,h2,h3,h4⟩)
  ·exact ⟨rfl,i,n,hi,by simp,rfl⟩
  ·exact ⟨h1,j,u,h2,List.mem_append.2 (Or.inl h3),h4⟩
 ·rintro ⟨h1,j,u,h2,h3,h4⟩
  by_cases he:k=.int .i64 (i:Int)
  ·exact Or.inl ⟨he,h1⟩
  ·refine Or.inr ⟨he,h1,j,u,h2,?_,h4⟩
   rcases List.mem_append.1 h3 with h5|h5
   ·exact h5
   ·rw [List.mem_singleton.1 h5] at h2
    exfalso
    obtain ⟨l1,e1⟩:=List.getElem?_eq_some_iff.1 h2
    obtain ⟨l2,e2⟩:=List.getElem?_eq_some_iff.1 hi
    have:j=i:=by
     rcases Nat.lt_trichotomy j i with hlt|rfl|hlt
     ·exact absurd (e1.trans e2.symm) ((List.pairwise_iff_getElem.1 hn) j i l1 l2 hlt)
     ·rfl
     ·exact absurd (e2.trans e1.symm) ((List.pairwise_iff_getElem.1 hn) i j l2 l1 hlt)
    subst this
    exact he h4
/-- One more stands in the row. -/
theorem Le.rowed {i:Nat} {n:Tm} {wb wc:World} {v':Value} (h:Le w0 w b1 QB dg mk g vr0 T (RR++[n]) RR S vr vt rl sl) (hi:T[i]?=some n) (hb:Below w.heap.size w wb) (ho:wc.ownsRow b1 3 1 v' (RR.length+[i].length) (nums (rl++[i]))) (hg:wb.grownBy wc vr.ownBlock) (hl:v'.ownBlock=vr.ownBlock∨v'.ownBlock=some wb.heap.size) (hu:Upd dg wc w') (hr:Row w' dg [.pointer (some ⟨g,0,none⟩),.map (some mk),v'] 52):Le w0 w' b1 QB dg mk g vr0 T (RR++[n]) (RR++[n]) S v' vt (rl++[i]) sl:=by
 have h1:=h.below hb
 obtain ⟨q,hq,hk⟩:=h1.der.km
 obtain ⟨es,c,hm⟩:=hk.isMap
 have z0:=h.kp.size
 have z1:=hb.size
 have z2:=hg.size
 have hdo:some dg≠vr.ownBlock:=bn h1.der.own h1.der.row (by decide)
 have hdm:dg≠mk:=b8 h1.der.row hm
 have hmo:some mk≠vr.ownBlock:=bk h1.der.own hm
 have hto:vt.ownBlock=none∨vt.ownBlock≠vr.ownBlock:=by
  cases hv:vt.ownBlock with
  | none=>exact Or.inl rfl
  | some b=>exact Or.inr (fun he=>h.sep b hv he.symm)
 have hmk:=h.lt.2.1
 have hrc:Row wc dg [.pointer (some ⟨g,0,none⟩),.map (some mk),vr] 52:=bu h1.der.row hdo hg
 have hdt:some dg≠vt.ownBlock:=fun he=>by have:=(av h.tod he.symm).1;have:=h.lt.1;omega
 refine ⟨⟨hu.os.trans (hg.os.trans h1.kp.os),hu.tape.trans (hg.tape.trans h1.kp.tape),hu.output.trans (hg.output.trans h1.kp.output),by have:=hu.size;omega,fun b b1' b2 b3 b4=>?_⟩,
  ⟨hr,?_,h.der.num.snoc hi,⟨q,hq,(hk.keep (hg.block mk (by omega) hmo)).upd hu hdm⟩⟩,cP (World.ownsRow.kept h1.tod hg hto) hu hdt,h.tn,fun b hb' he=>?_,?_,h.lt⟩
 ·rw [hu.block b (by omega) b2]
  refine (hg.block b (by omega) (fun he=>?_)).trans (h1.kp.block b b1' b2 b3 b4)
  rcases h.vrn with h9|⟨b',h9,h10⟩
  ·rw [h9] at he;exact b4 he
  ·rw [h9] at he;have:=Option.some.inj he;omega
 ·rw [List.length_append]
  exact cP ho hu (bn ho hrc (by decide))
 ·rcases hl with hl|hl
  ·rw [hl] at he;exact h.sep b hb' he
  ·rw [hl] at he
   have:=Option.some.inj he
   have:=(av h1.tod hb').2
   omega
 ·rcases hl with hl|hl
  ·rw [hl];exact h.vrn
  ·exact Or.inr ⟨_,hl,by omega⟩
end
end Go.Proofs.YtcibhfcjbokdlaaGreatDoor
