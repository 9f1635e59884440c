import Derived.Test.YtcibhfcjbokdlaaGreatDoorQt14
import Derived.Test.YtcibhfcjbokdlaaGreatDoorQt17
import Derived.Test.YtcibhfcjbokdlaaGreatDoorCards
import Derived.Test.YtcibhfcjbokdlaaGreatDoorTie
import Derived.ProofKit
import Derived.OpenShut
import Derived.ChangeOld
import Derived.ChangeMaps5
import Derived.Deep.DeepHandedRow
import Derived.Deep.Slices
import Derived.Shelf.Vars
import Derived.Lay
import Derived.Stop.LaidErr
import Derived.Test.YtcibhfcjbokdlaaGreatDoorQt13
set_option maxRecDepth 100000
set_option maxHeartbeats 4000000
namespace Go.Proofs.YtcibhfcjbokdlaaGreatDoor
open Go Go.RowKit Classical
theorem kB1_txt:txt kB1=[115,101,97,108,40,107,49,44,110,50,41]:=by decide +kernel
theorem kk1_txt:txt kk1=[107,49]:=by decide +kernel
theorem kB3_txt:txt kB3=[115,101,97,108,40,100,51,40,107,52,41,44,110,53,41]:=by decide +kernel
theorem kn2_txt:txt kn2=[110,50]:=by decide +kernel
theorem kn5_txt:txt kn5=[110,53]:=by decide +kernel
theorem kG3_txt:txt kG3=[40,107,49,44,100,57,40,110,50,41,41]:=by decide +kernel
theorem kG4_txt:txt kG4=[110,49]:=by decide +kernel
theorem kAll {L:List Tm} (h:AllIs kBl L):L.length=4:=by
 refine k_four (List.Pairwise.imp (fun {a b} hlt he=>by rw [he] at hlt;exact List.lt_irrefl _ hlt) h.2) fun t=>?_
 rw [h.1 t,ed,kT_eq]
theorem kMin:(minT kBl kn2).length=2:=by
 unfold minT
 rw [if_pos kKn1]
 exact k_least
theorem kT_len:(webWs (kBl.filter isT) []).length=7:=by rw [ed,kT_eq];rfl
theorem kT_le (t:Tm) (h:cnt t≤60):(webW t (webWs (kBl.filter isT) [])).length≤380:=by
 have:=dR t (webWs (kBl.filter isT) [])
 rw [kT_len] at this
 omega
theorem db (w:World) (hY:Rdy w):Calls Tryz.prog 9 #[] w fun e w'=>e=.returned (.bool true)∧Below w.heap.size w w':=by
 have hm:=Mem.start w
 have HRkB1:Hid (∀W,Rdy W→Calls Tryz.prog 21 #[.string ⟨#[115,101,97,108,40,107,49,44,110,50,41]⟩] W fun e w'=>∃s,e=.returned (.agg (tcs kB1 s).toArray)∧SlT (fun _=>True) w' s kB1.l∧Below W.heap.size W w'):=fun W hW=>cB [115,101,97,108,40,107,49,44,110,50,41] W (by decide) hW kB1 (kB_isT _ (by simp [kBl])) kB1_txt
 have HRkk1:Hid (∀W,Rdy W→Calls Tryz.prog 21 #[.string ⟨#[107,49]⟩] W fun e w'=>∃s,e=.returned (.agg (tcs kk1 s).toArray)∧SlT (fun _=>True) w' s kk1.l∧Below W.heap.size W w'):=fun W hW=>cB [107,49] W (by decide) hW kk1 (kB_isT _ (by simp [kBl])) kk1_txt
 have HRkB3:Hid (∀W,Rdy W→Calls Tryz.prog 21 #[.string ⟨#[115,101,97,108,40,100,51,40,107,52,41,44,110,53,41]⟩] W fun e w'=>∃s,e=.returned (.agg (tcs kB3 s).toArray)∧SlT (fun _=>True) w' s kB3.l∧Below W.heap.size W w'):=fun W hW=>cB [115,101,97,108,40,100,51,40,107,52,41,44,110,53,41] W (by decide) hW kB3 (kB_isT _ (by simp [kBl])) kB3_txt
 have HRkn2:Hid (∀W,Rdy W→Calls Tryz.prog 21 #[.string ⟨#[110,50]⟩] W fun e w'=>∃s,e=.returned (.agg (tcs kn2 s).toArray)∧SlT (fun _=>True) w' s kn2.l∧Below W.heap.size W w'):=fun W hW=>cB [110,50] W (by decide) hW kn2 (by decide +kernel) kn2_txt
 have HRkn5:Hid (∀W,Rdy W→Calls Tryz.prog 21 #[.string ⟨#[110,53]⟩] W fun e w'=>∃s,e=.returned (.agg (tcs kn5 s).toArray)∧SlT (fun _=>True) w' s kn5.l∧Below W.heap.size W w'):=fun W hW=>cB [110,53] W (by decide) hW kn5 (by decide +kernel) kn5_txt
 have HRkG3:Hid (∀W,Rdy W→Calls Tryz.prog 21 #[.string ⟨#[40,107,49,44,100,57,40,110,50,41,41]⟩] W fun e w'=>∃s,e=.returned (.agg (tcs kG3 s).toArray)∧SlT (fun _=>True) w' s kG3.l∧Below W.heap.size W w'):=fun W hW=>cB [40,107,49,44,100,57,40,110,50,41,41] W (by decide) hW kG3 (by decide +kernel) kG3_txt
 have HRkG4:Hid (∀W,Rdy W→Calls Tryz.prog 21 #[.string ⟨#[110,49]⟩] W fun e w'=>∃s,e=.returned (.agg (tcs kG4 s).toArray)∧SlT (fun _=>True) w' s kG4.l∧Below W.heap.size W w'):=fun W hW=>cB [110,49] W (by decide) hW kG4 (by decide +kernel) kG4_txt
 have HY:Hid (Rdy w):=hY
 have HT:Hid (Below w.heap.size w w):=Below.refl _ _
 clear hY
 have tw2:Nat:=0
 have tw3:Nat:=0
 have tw4:Nat:=0
 have tw7:Nat:=0
 have tw11:Nat:=0
 have tw17:Nat:=0
 have tw21:Nat:=0
 have tw33:Nat:=0
 have qkn2:Nat:=0
 have qkn5:Nat:=0
 have qkG3:Nat:=0
 have qkG4:Nat:=0
 go_enter Tryz.func9,Tryz.ntmps9
 go_wp2_with (first
  | (clear tw2;go_at_call 21;go_must (refine (HRkB1.out _ (HY.out.below hm.below)).mono ?_);rintro e w2 ⟨s2,he,hs,hb⟩;subst he;have hw2s:SlT (fun _=>True) w2 s2 kB1.l:=hs;have hbw:Below w.heap.size w w2:=HT.out.trans ((hm.call hb).below.mono HT.out.size);have hyw:Rdy w2:=HY.out.below (hm.call hb).below;replace HY:Hid (Rdy w2):=hyw;replace HT:Hid (Below w.heap.size w w2):=hbw;clear hyw hbw hm;have hm:=Mem.start w2;have H2:Hid (SlT (fun _=>True) w2 s2 kB1.l):=hw2s;clear hw2s;clear hs hb)
  | (clear tw3;go_at_call 21;go_must (refine (HRkk1.out _ (HY.out.below hm.below)).mono ?_);rintro e w3 ⟨s3,he,hs,hb⟩;subst he;have hw3s:SlT (fun _=>True) w3 s3 kk1.l:=hs;have H3:Hid (SlT (fun _=>True) w3 s2 kB1.l∧SlT (fun _=>True) w3 s3 kk1.l):=⟨H2.out.below (hm.call hb).below,hw3s⟩;have hbw:Below w.heap.size w w3:=HT.out.trans ((hm.call hb).below.mono HT.out.size);have hyw:Rdy w3:=HY.out.below (hm.call hb).below;replace HY:Hid (Rdy w3):=hyw;replace HT:Hid (Below w.heap.size w w3):=hbw;clear hyw hbw hm;have hm:=Mem.start w3;clear hw3s;clear hs hb)
  | (clear tw4;go_at_call 21;go_must (refine (HRkB3.out _ (HY.out.below hm.below)).mono ?_);rintro e w4 ⟨s4,he,hs,hb⟩;subst he;have hw4s:SlT (fun _=>True) w4 s4 kB3.l:=hs;have H4:Hid (SlT (fun _=>True) w4 s2 kB1.l∧SlT (fun _=>True) w4 s3 kk1.l∧SlT (fun _=>True) w4 s4 kB3.l):=⟨H3.out.1.below (hm.call hb).below,H3.out.2.below (hm.call hb).below,hw4s⟩;have hbw:Below w.heap.size w w4:=HT.out.trans ((hm.call hb).below.mono HT.out.size);have hyw:Rdy w4:=HY.out.below (hm.call hb).below;replace HY:Hid (Rdy w4):=hyw;replace HT:Hid (Below w.heap.size w w4):=hbw;clear hyw hbw hm;have hm:=Mem.start w4;clear hw4s;clear hs hb)
  | ((with_reducible refine af (some 5) (.buildSlice 22 3 #[(0,.tmp 2),(1,.tmp 3),(2,.tmp 4)]) ?_);go_must (refine wpl_bslT3 kB1 kk1 kB3 s2 s3 s4 rfl rfl rfl rfl hm ?_);clear hm;intro w5 g5 hb5 hg5 hm;have HB5:Hid (SlT (fun _=>True) w5 (.slice (some ⟨g5,0,none⟩) 3 3) kBl):=slt_three (hm.get 0 rfl) (H4.out.1.below hb5) (H4.out.2.1.below hb5) (H4.out.2.2.below hb5) trivial;have hyw:Rdy w5:=HY.out.below (hm.below);have hbw:Below w.heap.size w w5:=HT.out.trans (hm.below.mono HT.out.size);replace HY:Hid (Rdy w5):=hyw;replace HT:Hid (Below w.heap.size w w5):=hbw;clear hyw hbw hm hb5 hg5;have hm:=Mem.start w5)
  | (clear tw7;go_at_call 21;go_must (refine (HRkn2.out _ (HY.out.below hm.below)).mono ?_);rintro e w7 ⟨s7,he,hs,hb⟩;subst he;have hw7s:SlT (fun _=>True) w7 s7 kn2.l:=hs;have hb5:SlT (fun _=>True) w7 (.slice (some ⟨g5,0,none⟩) 3 3) kBl:=HB5.out.below (hm.call hb).below;replace HB5:Hid (SlT (fun _=>True) w7 (.slice (some ⟨g5,0,none⟩) 3 3) kBl):=hb5;clear hb5;have hbw:Below w.heap.size w w7:=HT.out.trans ((hm.call hb).below.mono HT.out.size);have hyw:Rdy w7:=HY.out.below (hm.call hb).below;replace HY:Hid (Rdy w7):=hyw;replace HT:Hid (Below w.heap.size w w7):=hbw;clear hyw hbw hm;have hm:=Mem.start w7;have HKkn2:Hid (∀W,Below w7.heap.size w7 W→Calls Tryz.prog 11 #[.slice (some ⟨g5,0,none⟩) 3 3,.agg (tcs kn2 s7).toArray] W fun e w'=>e=.returned (.bool true)∧Below W.heap.size W w'):=(fun W hW=>by have h:=cO (F:=fun _=>True) (G:=fun _=>True) kBl kn2 (.slice (some ⟨g5,0,none⟩) 3 3) s7 W (HB5.out.below hW) (hw7s.below hW) (fun h=>kT_le _ (az.1 h).1) (by simp [kBl]);rw [decide_eq_true kKn1] at h;exact h);clear hs hb)
  | (clear tw11;go_at_call 21;go_must (refine (HRkn5.out _ (HY.out.below hm.below)).mono ?_);rintro e w11 ⟨s11,he,hs,hb⟩;subst he;have hw11s:SlT (fun _=>True) w11 s11 kn5.l:=hs;have hb5:SlT (fun _=>True) w11 (.slice (some ⟨g5,0,none⟩) 3 3) kBl:=HB5.out.below (hm.call hb).below;replace HB5:Hid (SlT (fun _=>True) w11 (.slice (some ⟨g5,0,none⟩) 3 3) kBl):=hb5;clear hb5;have hbw:Below w.heap.size w w11:=HT.out.trans ((hm.call hb).below.mono HT.out.size);have hyw:Rdy w11:=HY.out.below (hm.call hb).below;replace HY:Hid (Rdy w11):=hyw;replace HT:Hid (Below w.heap.size w w11):=hbw;clear hyw hbw hm;have hm:=Mem.start w11;have HKkn5:Hid (∀W,Below w11.heap.size w11 W→Calls Tryz.prog 11 #[.slice (some ⟨g5,0,none⟩) 3 3,.agg (tcs kn5 s11).toArray] W fun e w'=>e=.returned (.bool false)∧Below W.heap.size W w'):=(fun W hW=>by have h:=cO (F:=fun _=>True) (G:=fun _=>True) kBl kn5 (.slice (some ⟨g5,0,none⟩) 3 3) s11 W (HB5.out.below hW) (hw11s.below hW) (fun h=>kT_le _ (az.1 h).1) (by simp [kBl]);rw [decide_eq_false kKn2] at h;exact h);clear hs hb)
  | (clear tw17;go_at_call 21;go_must (refine (HRkG3.out _ (HY.out.below hm.below)).mono ?_);rintro e w17 ⟨s17,he,hs,hb⟩;subst he;have hw17s:SlT (fun _=>True) w17 s17 kG3.l:=hs;have hb5:SlT (fun _=>True) w17 (.slice (some ⟨g5,0,none⟩) 3 3) kBl:=HB5.out.below (hm.call hb).below;replace HB5:Hid (SlT (fun _=>True) w17 (.slice (some ⟨g5,0,none⟩) 3 3) kBl):=hb5;clear hb5;have hbw:Below w.heap.size w w17:=HT.out.trans ((hm.call hb).below.mono HT.out.size);have hyw:Rdy w17:=HY.out.below (hm.call hb).below;replace HY:Hid (Rdy w17):=hyw;replace HT:Hid (Below w.heap.size w w17):=hbw;clear hyw hbw hm;have hm:=Mem.start w17;have HKkG3:Hid (∀W,Below w17.heap.size w17 W→Calls Tryz.prog 11 #[.slice (some ⟨g5,0,none⟩) 3 3,.agg (tcs kG3 s17).toArray] W fun e w'=>e=.returned (.bool true)∧Below W.heap.size W w'):=(fun W hW=>by have h:=cO (F:=fun _=>True) (G:=fun _=>True) kBl kG3 (.slice (some ⟨g5,0,none⟩) 3 3) s17 W (HB5.out.below hW) (hw17s.below hW) (fun h=>kT_le _ (az.1 h).1) (by simp [kBl]);rw [decide_eq_true kKn3] at h;exact h);clear hs hb)
  | (clear tw21;go_at_call 21;go_must (refine (HRkG4.out _ (HY.out.below hm.below)).mono ?_);rintro e w21 ⟨s21,he,hs,hb⟩;subst he;have hw21s:SlT (fun _=>True) w21 s21 kG4.l:=hs;have hb5:SlT (fun _=>True) w21 (.slice (some ⟨g5,0,none⟩) 3 3) kBl:=HB5.out.below (hm.call hb).below;replace HB5:Hid (SlT (fun _=>True) w21 (.slice (some ⟨g5,0,none⟩) 3 3) kBl):=hb5;clear hb5;have hbw:Below w.heap.size w w21:=HT.out.trans ((hm.call hb).below.mono HT.out.size);have hyw:Rdy w21:=HY.out.below (hm.call hb).below;replace HY:Hid (Rdy w21):=hyw;replace HT:Hid (Below w.heap.size w w21):=hbw;clear hyw hbw hm;have hm:=Mem.start w21;have HKkG4:Hid (∀W,Below w21.heap.size w21 W→Calls Tryz.prog 11 #[.slice none 0 0,.agg (tcs kG4 s21).toArray] W fun e w'=>e=.returned (.bool false)∧Below W.heap.size W w'):=(fun W hW=>by have h:=cO (F:=fun _=>True) (G:=fun _=>True) [] kG4 (.slice none 0 0) s21 W (SlT.nil (F:=fun _=>True)) (hw21s.below hW) (fun h=>Nat.le_trans (dR _ _) (by have h9:=(az.1 h).1;simp [webWs];omega)) (Nat.zero_le _);rw [decide_eq_false kKn4] at h;exact h);clear hs hb)
  | (clear tw33;go_at_call 21;go_must (refine (HRkn2.out _ (HY.out.below hm.below)).mono ?_);rintro e w33 ⟨s33,he,hs,hb⟩;subst he;have hw33s:SlT (fun _=>True) w33 s33 kn2.l:=hs;have hb5:SlT (fun _=>True) w33 (.slice (some ⟨g5,0,none⟩) 3 3) kBl:=HB5.out.below (hm.call hb).below;replace HB5:Hid (SlT (fun _=>True) w33 (.slice (some ⟨g5,0,none⟩) 3 3) kBl):=hb5;clear hb5;have hbw:Below w.heap.size w w33:=HT.out.trans ((hm.call hb).below.mono HT.out.size);have hyw:Rdy w33:=HY.out.below (hm.call hb).below;replace HY:Hid (Rdy w33):=hyw;replace HT:Hid (Below w.heap.size w w33):=hbw;clear hyw hbw hm;have hm:=Mem.start w33;have HMN:Hid (∀W,Below w33.heap.size w33 W→Calls Tryz.prog 16 #[.slice (some ⟨g5,0,none⟩) 3 3,.agg (tcs kn2 s33).toArray] W fun e w'=>∃p c,e=.returned (.slice p 2 c)∧Below W.heap.size W w'):=(fun W hW=>(min_any (F:=fun _=>True) (G:=fun _=>True) kBl kn2 (.slice (some ⟨g5,0,none⟩) 3 3) s33 W (HB5.out.below hW) (hw33s.below hW) (fun h=>kT_le _ (az.1 h).1) (by simp [kBl])).mono (by rintro e w' ⟨v,he,hs,hb⟩;obtain ⟨p,c,hv,_⟩:=hs.len;rw [kMin] at hv;exact ⟨p,c,by rw [he,hv],hb⟩));clear hs hb)
  | (clear qkn2;go_at_call 11;go_must (refine (HKkn2.out _ hm.below).mono ?_);rintro e w9 ⟨he,hb⟩;subst he;replace hm:=hm.call hb;clear hb)
  | (clear qkn5;go_at_call 11;go_must (refine (HKkn5.out _ hm.below).mono ?_);rintro e w9 ⟨he,hb⟩;subst he;replace hm:=hm.call hb;clear hb)
  | (clear qkG3;go_at_call 11;go_must (refine (HKkG3.out _ hm.below).mono ?_);rintro e w9 ⟨he,hb⟩;subst he;replace hm:=hm.call hb;clear hb)
  | (clear qkG4;go_at_call 11;go_must (refine (HKkG4.out _ hm.below).mono ?_);rintro e w9 ⟨he,hb⟩;subst he;replace hm:=hm.call hb;clear hb)
  | (go_at_call 14;go_must (refine (all_any (F:=fun _=>True) kBl (.slice (some ⟨g5,0,none⟩) 3 3) _ (HB5.out.below hm.below) (by rw [kT_len];omega) (by simp [kBl])).mono ?_);rintro e w27 ⟨v27,he,L27,hL27,hs27,hb⟩;obtain ⟨p27,c27,hv27,_⟩:=hs27.len;rw [kAll hL27] at hv27;subst hv27;subst he;replace hm:=hm.call hb;clear hb hs27 hL27)
  | (go_at_call 16;go_must (refine (HMN.out _ hm.below).mono ?_);rintro e w34 ⟨p34,c34,he,hb⟩;subst he;replace hm:=hm.call hb;clear hb))
 go_ret
 exact ⟨rfl,HT.out.trans (hm.below.mono HT.out.size)⟩
open Go Go.ChangeShapes Go.WideShapes Go.ChangeAt Go.RowKit
theorem own:ownKnob Tryz.prog.godebug=none:=by kernel_rfl
theorem laidOut:laidOutB Tryz.prog=true:=by kernel_rfl
theorem esx_of_var {W:World} {tp:TypeId} {p:Value} (h:W.var? Tryz.prog (Rows.closureTellsRow.named.getD 5 default)=some #[.iface tp p]):Esx W:=by
 have h0:=World.var?_cell (g:=1) (by kernel_rfl) h 0
 exact ⟨tp,p,by simpa using h0⟩
theorem esx_of {W:World} (h:laidMetH Tryz.prog Rows.closureTellsRow.laid W):Esx W:=by
 have h0:laidMet Tryz.prog Rows.closureTellsRow.laid W:=h
 have h5:=h0.tail.tail.tail.tail.tail
 obtain ⟨a,s,hv,_⟩:=laid_sentinel h5 (g:=1) (by kernel_rfl) (by kernel_rfl) Tryz.underlying113 (fun u hu=>typeName_ptr_named (nm := "errors.errorString") (by kernel_rfl) (by kernel_rfl) (by decide) u (by rw [hu];decide)) Tryz.underlying177 Tryz.underlying179 rfl rfl Tryz.underlying9 (by kernel_rfl) (by kernel_rfl)
 exact esx_of_var hv
theorem ten_of {W:World} (h:W.ShapedOpen Tryz.prog):10≤W.heap.size:=by
 have h0:9<(begin Tryz.prog (fun _ _=>0) default).world.heap.size:=by decide +kernel
 obtain ⟨o,_,ho,_⟩:=h.2 9 (of_decide_eq_true (by kernel_rfl)) h0
 exact (Array.getElem?_eq_some_iff.1 ho).1
open Go Go.RowKit
def Okd (K:List Tm) (t:Tm):Prop:=(t.k=4→∀x∈t.l,x∈K)∧(t.k=3→∀a b,t.l=[a,b]→Syn (· ∈ K) a→b∈K)
theorem okd_syn {B:Tm→Prop} {K:List Tm} (hB:∀t,B t→t∈K) (hK:∀t∈K,Okd K t) {t:Tm} (h:Der B t):Syn (· ∈ K) t:=by
 induction h using Der.ind with
 | base hb=>exact .of (hB _ hb)
 | part _ hk hx ih =>
  rcases ih.cs with h1|⟨_,h1⟩
  ·exact .of ((hK _ h1).1 hk _ hx)
  ·exact h1 _ hx
 | opened _ hk hl _ ih1 ih2 =>
  rcases ih1.cs with h1|⟨_,h1⟩
  ·exact .of ((hK _ h1).2 hk _ _ hl ih2)
  ·exact h1 _ (by rw [hl];simp)
 | made h0 _ ih=>exact .made h0 ih
theorem syn_derK {B:Tm→Prop} {K:List Tm} (hK:∀t∈K,Der B t) {t:Tm} (h:Syn (· ∈ K) t):Der B t:=by
 induction h using Syn.ind with
 | of hb=>exact hK _ hb
 | made h0 _ ih=>exact .made h0 ih
structure Taken (bl K:List Tm):Prop where
 base:∀t,inB bl t→t∈K
 okd:∀t∈K,Okd K t
 der:∀t∈K,Der (inB bl) t
theorem Taken.iff {bl K:List Tm} (h:Taken bl K) (t:Tm):Syn (· ∈ K) t↔Der (inB bl) t:=⟨syn_derK h.der,okd_syn h.base h.okd⟩
def subL:Tm→List Tm:=foldT fun t r=>t::r.flatten
theorem eC (t:Tm):subL t=t::t.l.flatMap subL:=by
 rw [subL,cg,List.flatMap_def]
def add1 [∀p:Prop,Decidable p] (t:Tm) (T:List Tm):List Tm:=if t∈T then T else T++[t]
def prF [∀p:Prop,Decidable p] (t:Tm) (r:List (List Tm→List Tm)) (T:List Tm):List Tm:=r.foldl (fun a g=>g a) (add1 t T)
def prW [∀p:Prop,Decidable p]:Tm→List Tm→List Tm:=foldT prF
def prWs [∀p:Prop,Decidable p] (l:List Tm) (T:List Tm):List Tm:=l.foldl (fun a x=>prW x a) T
open Classical
theorem prW_eq (t:Tm) (T:List Tm):prW t T=prWs t.l (add1 t T):=by
 unfold prW
 rw [cg]
 show (t.l.map prW).foldl (fun a g=>g a) (add1 t T)=_
 rw [List.foldl_map]
 rfl
theorem ee (x:Tm) (l T:List Tm):prWs (x::l) T=prWs l (prW x T):=rfl
theorem prWs_snoc {l:List Tm} {k:Nat} {x:Tm} (hx:l[k]?=some x) (T:List Tm):prWs (l.take (k+1)) T=prW x (prWs (l.take k) T):=by
 rw [List.take_add_one,hx]
 simp [prWs]
theorem eN (t:Tm) (T:List Tm) (x:Tm):x∈(add1 t T)↔x∈T∨x=t:=by
 unfold add1
 split
 ·next h=>exact ⟨Or.inl,fun h2=>h2.elim id (fun he=>he▸h)⟩
 ·simp
theorem d6 {l:List Tm} (H:∀y∈l,∀T x,x∈prW y T↔x∈T∨x∈subL y):∀T x,x∈prWs l T↔x∈T∨x∈l.flatMap subL:=by
 induction l with
 | nil=>intro T x;simp [prWs]
 | cons y l ih =>
  intro T x
  rw [ee,ih (fun z hz=>H z (List.mem_cons_of_mem _ hz)),H y (List.mem_cons_self ..),List.flatMap_cons,List.mem_append,or_assoc]
theorem prW_mem (t:Tm):∀T x,x∈prW t T↔x∈T∨x∈subL t:=by
 induction t using Tm.ind with
 | h t ih =>
  intro T x
  rw [prW_eq,d6 ih,eN,eC,List.mem_cons,or_assoc]
theorem add1_nd {t:Tm} {T:List Tm} (h:T.Nodup):(add1 t T).Nodup:=by
 unfold add1
 split
 ·exact h
 ·next hn=>exact List.nodup_append.2 ⟨h,by simp,fun a ha b hb he=>hn (by rw [List.mem_singleton.1 hb] at he;exact he▸ha)⟩
theorem prWs_nd {l:List Tm} (H:∀y∈l,∀T:List Tm,T.Nodup→(prW y T).Nodup):∀T:List Tm,T.Nodup→(prWs l T).Nodup:=by
 induction l with
 | nil=>intro T h;exact h
 | cons y l ih =>
  intro T h
  rw [ee]
  exact ih (fun z hz=>H z (List.mem_cons_of_mem _ hz)) _ (H y (List.mem_cons_self ..) T h)
theorem prW_nd (t:Tm):∀T:List Tm,T.Nodup→(prW t T).Nodup:=by
 induction t using Tm.ind with
 | h t ih =>
  intro T h
  rw [prW_eq]
  exact prWs_nd ih _ (add1_nd h)
theorem webWs_mem {l:List Tm} (H:∀y∈l,∀T x,Web T→(x∈webW y T↔x∈T∨x∈subL y)) (ho:∀y∈l,okT y=true):∀T x,Web T→(x∈webWs l T↔x∈T∨x∈l.flatMap subL):=by
 induction l with
 | nil=>intro T x _;simp [webWs]
 | cons y l ih =>
  intro T x hT
  rw [bT,ih (fun z hz=>H z (List.mem_cons_of_mem _ hz)) (fun z hz=>ho z (List.mem_cons_of_mem _ hz)) _ _ (cw y (ho y (List.mem_cons_self ..)) T hT).web,H y (List.mem_cons_self ..) T x hT,List.flatMap_cons,List.mem_append,or_assoc]
theorem fi (t:Tm):okT t=true→∀T x,Web T→(x∈webW t T↔x∈T∨x∈subL t):=by
 induction t using Tm.ind with
 | h t ih =>
  intro ho T x hT
  have hk:∀y∈t.l,okT y=true:=fun y hy=>aM ho hy
  have h1:=webWs_mem (l:=t.l) (fun y hy T x hT=>ih y hy (hk y hy) T x hT) hk T
  have h2:=(cK t.l hk T hT).1
  rw [cW,eC,List.mem_cons]
  cases hh:hasT (webWs t.l T) t with
  | true =>
   rw [if_pos rfl,h1 x hT]
   have h3:=(h1 t hT).1 ((dl h2.ok ho).1 hh)
   constructor
   ·rintro (h|h)
    ·exact Or.inl h
    ·exact Or.inr (Or.inr h)
   ·rintro (h|rfl|h)
    ·exact Or.inl h
    ·exact h3
    ·exact Or.inr h
  | false =>
   rw [if_neg (by simp),List.mem_append,h1 x hT,List.mem_singleton]
   constructor
   ·rintro ((h|h)|h)
    ·exact Or.inl h
    ·exact Or.inr (Or.inr h)
    ·exact Or.inr (Or.inl h)
   ·rintro (h|h|h)
    ·exact Or.inl (Or.inl h)
    ·exact Or.inr h
    ·exact Or.inl (Or.inr h)
theorem pr_web (l:List Tm) (ho:∀t∈l,okT t=true) (x:Tm):x∈prWs l []↔x∈webWs l []:=by
 rw [d6 (fun y _=>prW_mem y),webWs_mem (fun y hy T x hT=>fi y (ho y hy) T x hT) ho [] x Web.nil]
theorem sorted_uniq:∀ {A B:List Tm},(∀x,x∈A↔x∈B)→A.Pairwise (fun a b=>txt a<txt b)→B.Pairwise (fun a b=>txt a<txt b)→A=B:=by
 intro A
 induction A with
 | nil =>
  intro B h _ _
  cases B with
  | nil=>rfl
  | cons b B=>exact absurd ((h b).2 (List.mem_cons_self ..)) (by simp)
 | cons a A ih =>
  intro B h hA hB
  cases B with
  | nil=>exact absurd ((h a).1 (List.mem_cons_self ..)) (by simp)
  | cons b B =>
   obtain ⟨a1,a2⟩:=List.pairwise_cons.1 hA
   obtain ⟨b1,b2⟩:=List.pairwise_cons.1 hB
   have hab:a=b:=by
    rcases List.mem_cons.1 ((h a).1 (List.mem_cons_self ..)) with h1|h1
    ·exact h1
    ·rcases List.mem_cons.1 ((h b).2 (List.mem_cons_self ..)) with h2|h2
     ·exact h2.symm
     ·exact absurd (a1 b h2) (List.lt_asymm (b1 a h1))
   subst hab
   congr 1
   refine ih (fun x=>?_) a2 b2
   have hx:=h x
   rw [List.mem_cons,List.mem_cons] at hx
   constructor
   ·intro h1
    rcases hx.1 (Or.inr h1) with h2|h2
    ·have:=a1 x h1
     rw [h2] at this
     exact absurd this (List.lt_irrefl _)
    ·exact h2
   ·intro h1
    rcases hx.2 (Or.inr h1) with h2|h2
    ·have:=b1 x h1
     rw [h2] at this
     exact absurd this (List.lt_irrefl _)
    ·exact h2
theorem cZ {L:List Tm} {x:Tm} {at_:Nat} (hL:L.Pairwise (fun a b=>txt a<txt b)) (h1:∀y∈L.take at_,txt y<txt x) (h2:∀y,L[at_]?=some y→txt x<txt y):(L.take at_++x::L.drop at_).Pairwise (fun a b=>txt a<txt b):=by
 rw [←List.take_append_drop at_ L] at hL
 obtain ⟨p1,p2,p3⟩:=List.pairwise_append.1 hL
 have h3:∀y∈L.drop at_,txt x<txt y:=by
  intro y hy
  cases hd:L.drop at_ with
  | nil=>rw [hd] at hy;cases hy
  | cons z r =>
   have hz:L[at_]?=some z:=by
    have:(L.drop at_)[0]?=some z:=by rw [hd];rfl
    rw [List.getElem?_drop] at this
    simpa using this
   rw [hd] at hy p2
   rcases List.mem_cons.1 hy with rfl|hy
   ·exact h2 _ hz
   ·exact List.lt_trans (h2 _ hz) ((List.pairwise_cons.1 p2).1 y hy)
 refine List.pairwise_append.2 ⟨p1,List.pairwise_cons.2 ⟨h3,p2⟩,fun a ha b hb=>?_⟩
 rcases List.mem_cons.1 hb with rfl|hb
 ·exact h1 a ha
 ·exact p3 a ha b hb
theorem lt_of_not {x y:Tm} (hx:okT x=true) (hy:okT y=true) (hne:x≠y) (h:¬txt y<txt x):txt x<txt y:=by
 rcases List.le_iff_lt_or_eq.1 (List.not_lt.1 h) with h1|h1
 ·exact h1
 ·exact absurd (eL hx hy h1) hne
theorem least_step {D:(Tm→Prop)→Prop} {F s R:List Tm} {u:Nat} {x:Tm} (hx:F[u]?=some x) (h:(leastR D (· ∈ s) (F.take (u+1)).reverse).reverse++s=R) :
  (D (· ∈ F.take u++s)→(leastR D (· ∈ s) (F.take u).reverse).reverse++s=R)∧(¬D (· ∈ F.take u++s)→(leastR D (· ∈ x::s) (F.take u).reverse).reverse++x::s=R):=by
 have e:(F.take (u+1)).reverse=x::(F.take u).reverse:=by rw [List.take_add_one,hx];simp
 have e1:(fun t=>t∈s∨t∈(F.take u).reverse)=fun t=>t∈F.take u++s:=funext fun t=>propext (by rw [List.mem_append,List.mem_reverse];exact Or.comm)
 have e2:(fun t=>t∈s∨t=x)=fun t=>t∈x::s:=funext fun t=>propext (by rw [List.mem_cons];exact Or.comm)
 rw [e,leastR,e1,e2] at h
 constructor
 ·intro hd
  rw [if_pos hd] at h
  exact h
 ·intro hd
  rw [if_neg hd,List.reverse_cons,List.append_assoc] at h
  exact h
theorem inB_all {l:List Tm} (h:∀t∈l,isT t=true):inB l=fun t=>t∈l:=funext fun _=>propext ⟨fun a=>And.left a,fun a=>⟨a,h _ a⟩⟩
theorem inB_filter (l:List Tm):inB (l.filter isT)=inB l:=funext fun _=>propext ⟨fun a=>⟨(List.mem_filter.1 a.1).1,a.2⟩,fun a=>⟨List.mem_filter.2 a,a.2⟩⟩
open Go Go.RowKit
section
variable {a:Act} {w:World} {dst:Option Tmp} {typ:TypeId} {pos:String} {aft:Array Edge} {gd:Option (Nat×Bool)}
end
section
variable {ops:Array Oper} {rest:List Oper} {a:Act} {w w0:World} {Q:Exit→Act→World→Prop} {dst:Option Tmp} {typ:TypeId} {pos:String} {aft:Array Edge} {gd:Option (Nat×Bool)} {S:List Nat} {rows:List (Nat×List Value×TypeId)}
theorem bj {x:Operand} (t:Tm) (s:Value) (hw:Region.wanted {dst:=dst,op:=.buildSlice 22 1 #[(0,x)],type:=typ,pos:=pos,after:=aft,guard:=gd} (yielded ops a.tmps)=true) (hx:a.eval x=.agg (tcs t s).toArray) (hm:Mem w0 S w rows)
  (h:∀w' g,Below w.heap.size w w'→w.heap.size≤g→Mem w0 S w' ((g,tcs t s,24)::rows)→wpList Tryz.prog ops Q rest (a.put dst (.slice (some ⟨g,0,none⟩) 1 1)) w') :
  wpList Tryz.prog ops Q ({dst:=dst,op:=.buildSlice 22 1 #[(0,x)],type:=typ,pos:=pos,after:=aft,guard:=gd}::rest) a w:=by
 refine wpList_step fun K hK=>?_
 rw [if_pos hw]
 have hh:=hK _ _ (h _ _ ((Below.refl _ _).alloc (Nat.le_refl _) _) (Nat.le_refl _) (hm.alloc (tcs t s) 24))
 unfold Oper.wp execOp
 simp only [List.map_toArray,List.map_cons,List.map_nil,hx,run_bslK (P:=Tryz.prog) w _ (tcs t s) aZ cM rfl rfl,Sem.run_bind,Sem.run_pure,Result.andThen_ok]
 exact hh
end
theorem dE (p:Tm→Bool) (l:List Tm):((l.filter p).map cnt).sum≤(l.map cnt).sum:=by
 induction l with
 | nil=>simp
 | cons x l ih =>
  rw [List.filter_cons]
  split
  ·simp only [List.map_cons,List.sum_cons];omega
  ·simp only [List.map_cons,List.sum_cons];omega
theorem web1_le {bl:List Tm} (h:(bl.map cnt).sum≤380):(webWs (bl.filter isT) []).length≤380:=by
 have h1:=webWs_len (bl.filter isT) []
 have h2:=dE isT bl
 simp only [List.length_nil] at h1
 omega
theorem web_le {bl:List Tm} {gt:Tm} (h:cnt gt+(bl.map cnt).sum≤380):(webW gt (webWs (bl.filter isT) [])).length≤380:=by
 have h1:=webWs_len (bl.filter isT) []
 have h2:=dE isT bl
 have h3:=dR gt (webWs (bl.filter isT) [])
 simp only [List.length_nil] at h1
 omega
def Few (l:List Tm):Prop:=l.length≤10∧∀x∈l,cnt x≤20
theorem few_sum {l:List Tm} {m:Nat} (h:∀x∈l,cnt x≤m):(l.map cnt).sum≤l.length * m:=by
 induction l with
 | nil=>simp
 | cons x l ih =>
  have h1:=h x (List.mem_cons_self ..)
  have h2:=ih fun y hy=>h y (List.mem_cons_of_mem _ hy)
  simp only [List.map_cons,List.sum_cons,List.length_cons,Nat.succ_mul]
  omega
theorem OT.cells {base:Nat} {w:World} {b o n cap:Nat} {l:List Tm} (h:OT base w (.slice (some ⟨b,o,none⟩) n cap) l) {i:Nat} {t:Tm} (ht:l[i]?=some t) :
  ∃p m c,w.cell? ⟨b,o+i * 3,none⟩=some (.int .i64 t.k)∧w.cell? ⟨b,o+i * 3+1,none⟩=some (.int .i64 t.n)∧w.cell? ⟨b,o+i * 3+2,none⟩=some (.slice p m c)∧m=t.l.length∧SlT (FO w (.slice (some ⟨b,o,none⟩) n cap)) w (.slice p m c) t.l:=by
 obtain ⟨cs,ho,ht2⟩:=h
 obtain ⟨q,c,hv,_,_,hs⟩:=bK ho
 simp only [Value.slice.injEq] at hv
 obtain ⟨rfl,hl,rfl⟩:=hv
 have h0:0<l.length:=by have:=(List.getElem?_eq_some_iff.1 ht).1;omega
 obtain ⟨b',o',hp,hseg⟩:=hs h0
 simp only [Option.some.injEq,Addr.mk.injEq] at hp
 obtain ⟨rfl,rfl,_⟩:=hp
 obtain ⟨s,e1,e2,e3,e4⟩:=ht2.get ht
 rw [bH] at e4
 obtain ⟨ps,cp,hv2,_⟩:=e4.len
 subst hv2
 refine ⟨ps,_,cp,hseg _ _ e1,?_,?_,rfl,e4⟩
 ·have:=hseg _ _ e2;rw [←Nat.add_assoc] at this;exact this
 ·have:=hseg _ _ e3;rw [←Nat.add_assoc] at this;exact this
theorem OT.row {base g:Nat} {w:World} {t:Tm} {s:Value} {F:Nat→Prop} (hr:Row w g (tcs t s) 24) (hb:base≤g) (hs:SlT F w s t.l) (hF:∀b,F b→b<w.heap.size∧b≠g):OT base w (.slice (some ⟨g,0,none⟩) 1 1) [t]:=by
 refine ⟨tcs t s,⟨rfl,Or.inr ⟨g,1,(tcs t s).toArray,rfl,hb,hr,Nat.le_refl _,by unfold maxLen;omega,rfl,rfl⟩⟩,?_⟩
 refine ⟨s,[],rfl,(bH t s).2 (hs.weak fun b hb=>⟨(hF b hb).1,fun he=>(hF b hb).2 (Option.some.inj he)⟩),rfl⟩
theorem OT.ne {base:Nat} {w:World} {v:Value} {l:List Tm} (h:OT base w v l) {g:Nat} (hg:w.heap.size≤g):some g≠v.ownBlock:=fun he=>by
 have:=(h.lt he.symm).2
 omega
theorem dW {F:Nat→Prop} (l:List Tm) (p:Option Addr) (n c:Nat) (w:World) (r:Bool) (hr:r=true↔Few l) (hn:n=l.length) (hn4:n≤maxLen) (hs:SlT F w (.slice p n c) l) :
  Calls Tryz.prog 10 #[.slice p n c] w fun e w'=>e=.returned (.bool r)∧Below w.heap.size w w':=by
 have hm:=Mem.start w
 have HN:Hid (∀_:Unit,n=l.length):=fun _=>hn
 have HLL:Hid (SlT F w (.slice p n c) l):=hs
 have HR:Hid (r=true↔Few l):=hr
 have hn5:n≤9223372036854775807:=by unfold maxLen at hn4;omega
 clear hn hs hr hn4
 go_enter Tryz.func10,Tryz.ntmps10
 go_wp2_with fail
 go_loopw [3] (fun vk wr=>∃k:Nat,vk=.int .i64 (k:Int)∧k≤n∧Hid (Mem w [] wr [])∧Hid (∀j x,j<k→l[j]?=some x→cnt x≤20)) (fun vk _=>n - (intOf vk).toNat)
 case atStart=>exact ⟨0,rfl,Nat.zero_le _,hm,fun j x hj=>absurd hj (by omega)⟩
 case round =>
  clear hm
  obtain ⟨k,rfl,hkm,HMM,HNO⟩:=hrel
  by_cases hlt:k<n
  ·obtain ⟨x,hx⟩:∃x,l[k]?=some x:=⟨_,List.getElem?_eq_getElem (by rw [←HN.out ()];exact hlt)⟩
   have hm:=HMM.out
   obtain ⟨b,o,hp1⟩:=HLL.out.at (by omega)
   subst hp1
   obtain ⟨px,mx,cx,c0,c1,c2,hmx,hsx⟩:=(HLL.out.below hm.below).cells hx
   have HX:Hid (l[k]?=some x):=hx
   obtain ⟨d,hd⟩:∃d,d=min 21 (cnt x):=⟨_,rfl⟩
   have HC:Hid (∀W,Below wr.heap.size wr W→Calls Tryz.prog 22 #[.agg (tcs x (.slice px mx cx)).toArray,.int .i64 20] W fun e w'=>e=.returned (.int .i64 (d:Int))∧Below W.heap.size W w'):=fun W hW=>by
    have h9:=eQ x 20 (.slice px mx cx) W (by omega) (hsx.below hW)
    rw [hd]
    exact h9
   have hki:(k:Int)<(n:Int):=by omega
   have HBW:Hid (Below wr.heap.size wr wr):=Below.refl _ _
   by_cases hc:cnt x≤20
   ·have hd2:d≤20:=by omega
    have hdi:¬(20:Int)<(d:Int):=by omega
    have HNO2:Hid (∀j x,j<k+1→l[j]?=some x→cnt x≤20):=fun j y hj hy=>by
     by_cases h:j=k
     ·subst h;rw [HX.out] at hy;rw [←Option.some.inj hy];exact hc
     ·exact HNO.out j y (by omega) hy
    clear hx hsx hmx HMM hc hd HNO
    go_wp2_with (first
     | ((with_reducible refine af (some 12) (.indexAddr 22 (.tmp 10) (.tmp 11)) ?_);go_must (refine aa (.pointer (some ⟨b,o+k * 3,none⟩)) rfl (ak k rfl rfl rfl hlt) ?_))
     | ((with_reducible refine af (some 13) (.load 24 (.tmp 12)) ?_);go_must (refine aa (.agg (tcs x (.slice px mx cx)).toArray) rfl (am rfl c0 c1 c2) ?_))
     | (go_at_call 22;go_must (refine (HC.out _ HBW.out).mono ?_);rintro e w4 ⟨he,hb⟩;subst he;replace hm:=hm.call hb;clear hb))
    go_roundw
    case rel=>exact ⟨k+1,by go_num,by omega,hm,HNO2.out⟩
    case measure=>simp [intOf];omega
   ·have hdi:(20:Int)<(d:Int):=by omega
    have hd21:20<d:=by omega
    have hrf:r=false:=by
     cases hrr:r with
     | false=>rfl
     | true=>exact absurd ((HR.out.1 hrr).2 x (List.mem_of_getElem? HX.out)) hc
    clear hx hsx hmx HMM hc hd HNO
    go_wp2_with (first
     | ((with_reducible refine af (some 12) (.indexAddr 22 (.tmp 10) (.tmp 11)) ?_);go_must (refine aa (.pointer (some ⟨b,o+k * 3,none⟩)) rfl (ak k rfl rfl rfl hlt) ?_))
     | ((with_reducible refine af (some 13) (.load 24 (.tmp 12)) ?_);go_must (refine aa (.agg (tcs x (.slice px mx cx)).toArray) rfl (am rfl c0 c1 c2) ?_))
     | (go_at_call 22;go_must (refine (HC.out _ HBW.out).mono ?_);rintro e w4 ⟨he,hb⟩;subst he;replace hm:=hm.call hb;clear hb))
    go_ret
    exact ⟨by rw [hrf];rfl,hm.below⟩
  ·have hkn:n=k:=by omega
   subst hkn
   have hni:¬(n:Int)<(n:Int):=by omega
   have HRN:Hid (∀_:Unit,r=decide ((n:Int)≤10)):=fun _=>by
    rw [Bool.eq_iff_iff,HR.out,decide_eq_true_iff]
    constructor
    ·intro h;have h1:=h.1;have h2:=HN.out ();omega
    ·intro h
     refine ⟨by have h2:=HN.out ();omega,fun x hx=>?_⟩
     obtain ⟨j,hj,he⟩:=List.getElem_of_mem hx
     exact HNO.out j x (by have h2:=HN.out ();omega) (by rw [List.getElem?_eq_getElem hj,he])
   have hm:=HMM.out
   clear HMM HNO
   go_wp2_with fail
   go_ret
   exact ⟨by rw [HRN.out ()];rfl,hm.below⟩
open Go Go.RowKit
theorem info_a6:(Tryz.prog.info? 78).map (fun i=>(i.zero,i.size))=some (some (.agg [.int .i64 0,.int .i64 0,.int .i64 0,.int .i64 0,.int .i64 0,.int .i64 0].toArray),6):=by kernel_rfl
theorem cX:∀w,(zeroValue 78).run Tryz.prog w=.ok (.agg [.int .i64 0,.int .i64 0,.int .i64 0,.int .i64 0,.int .i64 0,.int .i64 0].toArray) w:=(zero_of_info info_a6).1
theorem sz_a6:(Tryz.prog.info? 78).map (·.size)=some 6:=(zero_of_info info_a6).2
def kdA:List Value:=[.int .i64 0,.int .i64 0,.int .i64 0,.int .i64 2,.int .i64 2,.int .i64 1]
theorem cT:∀v∈kdA,v.oneCell'=true:=by
 intro v hv
 simp only [kdA,List.mem_cons,List.not_mem_nil,or_false] at hv
 rcases hv with rfl|rfl|rfl|rfl|rfl|rfl<;>rfl
theorem okT_of {t:Tm} (h:okF t.k t.n t.l.length=true):okT t=t.l.all okT:=by rw [dH,h,Bool.true_and]
theorem et {t:Tm} (h:okF t.k t.n t.l.length=false):okT t=false:=by rw [dH,h,Bool.false_and]
theorem dn {l:List Tm} {k:Nat} {x:Tm} (hx:l[k]?=some x):(l.take (k+1)).all okT=((l.take k).all okT&&okT x):=by
 rw [List.take_add_one,hx];simp
theorem each_out {F:Nat→Prop} (t:Tm) (s:Value) (w:World) (hs:SlT F w s t.l) (hb:okF t.k t.n t.l.length=false) (hk15:¬(1≤t.k∧t.k≤5)) :
  Calls Tryz.prog 39 #[.agg (tcs t s).toArray] w fun e w'=>e=.returned (.bool (okT t))∧Below w.heap.size w w':=by
 have HR:Hid (∀_:Unit,okT t=false):=fun _=>et hb
 obtain ⟨p,c,rfl,_⟩:=hs.len
 obtain ⟨m,hml⟩:∃m,m=t.l.length:=⟨_,rfl⟩
 obtain ⟨k,hkk⟩:∃k,k=t.k:=⟨_,rfl⟩
 obtain ⟨n,hnn⟩:∃n,n=t.n:=⟨_,rfl⟩
 rw [←hml,←hkk,←hnn] at hb
 rw [←hkk] at hk15
 rw [←hml]
 clear hs hml
 have hm:=Mem.start w
 go_enter Tryz.func39,Tryz.ntmps39
 go_wp2_with (first
  | ((with_reducible refine af (some 1) (.box 24 (.tmp 0)) ?_);go_must (refine aw (tcs t (.slice p m c)) rfl hm ?_);clear hm;intro w1 g1 hm)
  | ((with_reducible refine af (some 3) (.alloc 78) ?_);go_must (refine ap _ cX hm ?_);clear hm;intro w2 g3 hm)
  | ((with_reducible refine af none (.store 78 (.tmp 3) (.tmp 5)) ?_);go_must (refine au 0 kdA hm rfl rfl rfl 6 sz_a6 rfl rfl cT ?_);clear hm;intro w4 hm))
 by_cases hk1:k<1
 ·clear hb hk15
  have HC0:Hid (∀W,Mem w [] W [(g3,kdA,78),(g1,tcs t (.slice p m c),24)]→W.cell? ⟨g1,0,none⟩=some (.int .i64 k)):=fun W hW=>by rw [hkk];exact ((hW.get 1 rfl).cell 0).trans rfl
  have HC1:Hid (∀W,Mem w [] W [(g3,kdA,78),(g1,tcs t (.slice p m c),24)]→W.cell? ⟨g1,1,none⟩=some (.int .i64 n)):=fun W hW=>by rw [hnn];exact ((hW.get 1 rfl).cell 1).trans rfl
  have HC2:Hid (∀W,Mem w [] W [(g3,kdA,78),(g1,tcs t (.slice p m c),24)]→W.cell? ⟨g1,2,none⟩=some (.slice p m c)):=fun W hW=>((hW.get 1 rfl).cell 2).trans rfl
  have hd1:decide (k<1)=true:=decide_eq_true hk1
  clear hkk hnn
  refine aq ?_
  refine ao (T:=fun W=>Mem w [] W [(g3,kdA,78),(g1,tcs t (.slice p m c),24)]) (by kernel_rfl) hm ?_
  intro wc hbw hmw
  replace hm:Mem w [] wc [(g3,kdA,78),(g1,tcs t (.slice p m c),24)]:=hmw
  clear hbw hmw
  refine aT 0 (v:=.pointer (some ⟨g1,0,none⟩)) rfl (by kernel_rfl) rfl (fun W _=>by go_simp) hm ?_
  go_simp
  refine aT 1 (v:=.int .i64 k) rfl (by kernel_rfl) rfl (fun W hW=>ad _ (HC0.out W hW) rfl ag) hm ?_
  go_simp
  refine aT 2 (v:=.bool true) rfl (by kernel_rfl) rfl (fun W _=>by go_simp) hm ?_
  go_simp
  refine aT 3 (v:=.bool true) rfl (by kernel_rfl) rfl (fun W _=>by go_simp) hm ?_
  go_simp
  refine ae 4 rfl (by kernel_rfl) (by kernel_rfl) (by kernel_rfl) rfl hm ?_
  go_simp
  refine ae 5 rfl (by kernel_rfl) (by kernel_rfl) (by kernel_rfl) rfl hm ?_
  go_simp
  refine ae 6 rfl (by kernel_rfl) (by kernel_rfl) (by kernel_rfl) rfl hm ?_
  go_simp
  refine aT 7 (v:=.bool true) rfl (by kernel_rfl) rfl (fun W _=>by go_simp) hm ?_
  go_simp
  refine aT 8 (v:=.bool true) rfl (by kernel_rfl) rfl (fun W _=>by go_simp) hm ?_
  go_simp
  refine ae 9 rfl (by kernel_rfl) (by kernel_rfl) (by kernel_rfl) rfl hm ?_
  go_simp
  refine ae 10 rfl (by kernel_rfl) (by kernel_rfl) (by kernel_rfl) rfl hm ?_
  go_simp
  refine ae 11 rfl (by kernel_rfl) (by kernel_rfl) (by kernel_rfl) rfl hm ?_
  go_simp
  refine ae 12 rfl (by kernel_rfl) (by kernel_rfl) (by kernel_rfl) rfl hm ?_
  go_simp
  refine ae 13 rfl (by kernel_rfl) (by kernel_rfl) (by kernel_rfl) rfl hm ?_
  go_simp
  refine ae 14 rfl (by kernel_rfl) (by kernel_rfl) (by kernel_rfl) rfl hm ?_
  go_simp
  refine ae 15 rfl (by kernel_rfl) (by kernel_rfl) (by kernel_rfl) rfl hm ?_
  go_simp
  refine ae 16 rfl (by kernel_rfl) (by kernel_rfl) (by kernel_rfl) rfl hm ?_
  go_simp
  refine aT 17 (v:=.bool true) rfl (by kernel_rfl) rfl (fun W _=>by go_simp) hm ?_
  go_simp
  refine aT 18 (v:=.bool true) rfl (by kernel_rfl) rfl (fun W _=>by go_simp) hm ?_
  go_simp
  refine ae 19 rfl (by kernel_rfl) (by kernel_rfl) (by kernel_rfl) rfl hm ?_
  go_simp
  refine ae 20 rfl (by kernel_rfl) (by kernel_rfl) (by kernel_rfl) rfl hm ?_
  go_simp
  refine ae 21 rfl (by kernel_rfl) (by kernel_rfl) (by kernel_rfl) rfl hm ?_
  go_simp
  refine aT 22 (v:=.bool true) rfl (by kernel_rfl) rfl (fun W _=>by go_simp) hm ?_
  go_simp
  refine aT 23 (v:=.bool true) rfl (by kernel_rfl) rfl (fun W _=>by go_simp) hm ?_
  go_simp
  refine ae 24 rfl (by kernel_rfl) (by kernel_rfl) (by kernel_rfl) rfl hm ?_
  go_simp
  refine ae 25 rfl (by kernel_rfl) (by kernel_rfl) (by kernel_rfl) rfl hm ?_
  go_simp
  refine ae 26 rfl (by kernel_rfl) (by kernel_rfl) (by kernel_rfl) rfl hm ?_
  go_simp
  refine aT 27 (v:=.bool true) rfl (by kernel_rfl) rfl (fun W _=>by go_simp) hm ?_
  go_simp
  refine aT 28 (v:=.bool true) rfl (by kernel_rfl) rfl (fun W _=>by go_simp) hm ?_
  go_simp
  refine ae 29 rfl (by kernel_rfl) (by kernel_rfl) (by kernel_rfl) rfl hm ?_
  go_simp
  refine ae 30 rfl (by kernel_rfl) (by kernel_rfl) (by kernel_rfl) rfl hm ?_
  go_simp
  refine ae 31 rfl (by kernel_rfl) (by kernel_rfl) (by kernel_rfl) rfl hm ?_
  go_simp
  refine ae 32 rfl (by kernel_rfl) (by kernel_rfl) (by kernel_rfl) rfl hm ?_
  go_simp
  refine ae 33 rfl (by kernel_rfl) (by kernel_rfl) (by kernel_rfl) rfl hm ?_
  go_simp
  refine ae 34 rfl (by kernel_rfl) (by kernel_rfl) (by kernel_rfl) rfl hm ?_
  go_simp
  refine ae 35 rfl (by kernel_rfl) (by kernel_rfl) (by kernel_rfl) rfl hm ?_
  go_simp
  refine ae 36 rfl (by kernel_rfl) (by kernel_rfl) (by kernel_rfl) rfl hm ?_
  go_simp
  refine ae 37 rfl (by kernel_rfl) (by kernel_rfl) (by kernel_rfl) rfl hm ?_
  go_simp
  refine ae 38 rfl (by kernel_rfl) (by kernel_rfl) (by kernel_rfl) rfl hm ?_
  go_simp
  refine ae 39 rfl (by kernel_rfl) (by kernel_rfl) (by kernel_rfl) rfl hm ?_
  go_simp
  refine ae 40 rfl (by kernel_rfl) (by kernel_rfl) (by kernel_rfl) rfl hm ?_
  go_simp
  refine ae 41 rfl (by kernel_rfl) (by kernel_rfl) (by kernel_rfl) rfl hm ?_
  go_simp
  refine aT 42 (v:=.bool true) rfl (by kernel_rfl) rfl (fun W _=>by go_simp) hm ?_
  go_simp
  refine wpAnyH_done (by kernel_rfl) ?_ _
  simp only [endsIn]
  go_wp2_with fail
  go_ret
  exact ⟨by rw [HR.out ()];rfl,hm.below⟩
 ·have hk5:5<k:=by omega
  clear hb hk15
  have HC0:Hid (∀W,Mem w [] W [(g3,kdA,78),(g1,tcs t (.slice p m c),24)]→W.cell? ⟨g1,0,none⟩=some (.int .i64 k)):=fun W hW=>by rw [hkk];exact ((hW.get 1 rfl).cell 0).trans rfl
  have HC1:Hid (∀W,Mem w [] W [(g3,kdA,78),(g1,tcs t (.slice p m c),24)]→W.cell? ⟨g1,1,none⟩=some (.int .i64 n)):=fun W hW=>by rw [hnn];exact ((hW.get 1 rfl).cell 1).trans rfl
  have HC2:Hid (∀W,Mem w [] W [(g3,kdA,78),(g1,tcs t (.slice p m c),24)]→W.cell? ⟨g1,2,none⟩=some (.slice p m c)):=fun W hW=>((hW.get 1 rfl).cell 2).trans rfl
  have hd1:decide (k<1)=false:=decide_eq_false hk1
  have hd5:decide (5<k)=true:=decide_eq_true hk5
  clear hkk hnn
  refine aq ?_
  refine ao (T:=fun W=>Mem w [] W [(g3,kdA,78),(g1,tcs t (.slice p m c),24)]) (by kernel_rfl) hm ?_
  intro wc hbw hmw
  replace hm:Mem w [] wc [(g3,kdA,78),(g1,tcs t (.slice p m c),24)]:=hmw
  clear hbw hmw
  refine aT 0 (v:=.pointer (some ⟨g1,0,none⟩)) rfl (by kernel_rfl) rfl (fun W _=>by go_simp) hm ?_
  go_simp
  refine aT 1 (v:=.int .i64 k) rfl (by kernel_rfl) rfl (fun W hW=>ad _ (HC0.out W hW) rfl ag) hm ?_
  go_simp
  refine aT 2 (v:=.bool false) rfl (by kernel_rfl) rfl (fun W _=>by go_simp) hm ?_
  go_simp
  refine aT 3 (v:=.bool false) rfl (by kernel_rfl) rfl (fun W _=>by go_simp) hm ?_
  go_simp
  refine aG 4 (v:=.pointer (some ⟨g1,0,none⟩)) rfl (by kernel_rfl) rfl (fun W _=>by go_simp) hm ?_
  go_simp
  refine aG 5 (v:=.int .i64 k) rfl (by kernel_rfl) rfl (fun W hW=>ad _ (HC0.out W hW) rfl ag) hm ?_
  go_simp
  refine aG 6 (v:=.bool true) rfl (by kernel_rfl) rfl (fun W _=>by go_simp) hm ?_
  go_simp
  refine aT 7 (v:=.bool true) rfl (by kernel_rfl) rfl (fun W _=>by go_simp) hm ?_
  go_simp
  refine aT 8 (v:=.bool true) rfl (by kernel_rfl) rfl (fun W _=>by go_simp) hm ?_
  go_simp
  refine ae 9 rfl (by kernel_rfl) (by kernel_rfl) (by kernel_rfl) rfl hm ?_
  go_simp
  refine ae 10 rfl (by kernel_rfl) (by kernel_rfl) (by kernel_rfl) rfl hm ?_
  go_simp
  refine ae 11 rfl (by kernel_rfl) (by kernel_rfl) (by kernel_rfl) rfl hm ?_
  go_simp
  refine ae 12 rfl (by kernel_rfl) (by kernel_rfl) (by kernel_rfl) rfl hm ?_
  go_simp
  refine ae 13 rfl (by kernel_rfl) (by kernel_rfl) (by kernel_rfl) rfl hm ?_
  go_simp
  refine ae 14 rfl (by kernel_rfl) (by kernel_rfl) (by kernel_rfl) rfl hm ?_
  go_simp
  refine ae 15 rfl (by kernel_rfl) (by kernel_rfl) (by kernel_rfl) rfl hm ?_
  go_simp
  refine ae 16 rfl (by kernel_rfl) (by kernel_rfl) (by kernel_rfl) rfl hm ?_
  go_simp
  refine aT 17 (v:=.bool true) rfl (by kernel_rfl) rfl (fun W _=>by go_simp) hm ?_
  go_simp
  refine aT 18 (v:=.bool true) rfl (by kernel_rfl) rfl (fun W _=>by go_simp) hm ?_
  go_simp
  refine ae 19 rfl (by kernel_rfl) (by kernel_rfl) (by kernel_rfl) rfl hm ?_
  go_simp
  refine ae 20 rfl (by kernel_rfl) (by kernel_rfl) (by kernel_rfl) rfl hm ?_
  go_simp
  refine ae 21 rfl (by kernel_rfl) (by kernel_rfl) (by kernel_rfl) rfl hm ?_
  go_simp
  refine aT 22 (v:=.bool true) rfl (by kernel_rfl) rfl (fun W _=>by go_simp) hm ?_
  go_simp
  refine aT 23 (v:=.bool true) rfl (by kernel_rfl) rfl (fun W _=>by go_simp) hm ?_
  go_simp
  refine ae 24 rfl (by kernel_rfl) (by kernel_rfl) (by kernel_rfl) rfl hm ?_
  go_simp
  refine ae 25 rfl (by kernel_rfl) (by kernel_rfl) (by kernel_rfl) rfl hm ?_
  go_simp
  refine ae 26 rfl (by kernel_rfl) (by kernel_rfl) (by kernel_rfl) rfl hm ?_
  go_simp
  refine aT 27 (v:=.bool true) rfl (by kernel_rfl) rfl (fun W _=>by go_simp) hm ?_
  go_simp
  refine aT 28 (v:=.bool true) rfl (by kernel_rfl) rfl (fun W _=>by go_simp) hm ?_
  go_simp
  refine ae 29 rfl (by kernel_rfl) (by kernel_rfl) (by kernel_rfl) rfl hm ?_
  go_simp
  refine ae 30 rfl (by kernel_rfl) (by kernel_rfl) (by kernel_rfl) rfl hm ?_
  go_simp
  refine ae 31 rfl (by kernel_rfl) (by kernel_rfl) (by kernel_rfl) rfl hm ?_
  go_simp
  refine ae 32 rfl (by kernel_rfl) (by kernel_rfl) (by kernel_rfl) rfl hm ?_
  go_simp
  refine ae 33 rfl (by kernel_rfl) (by kernel_rfl) (by kernel_rfl) rfl hm ?_
  go_simp
  refine ae 34 rfl (by kernel_rfl) (by kernel_rfl) (by kernel_rfl) rfl hm ?_
  go_simp
  refine ae 35 rfl (by kernel_rfl) (by kernel_rfl) (by kernel_rfl) rfl hm ?_
  go_simp
  refine ae 36 rfl (by kernel_rfl) (by kernel_rfl) (by kernel_rfl) rfl hm ?_
  go_simp
  refine ae 37 rfl (by kernel_rfl) (by kernel_rfl) (by kernel_rfl) rfl hm ?_
  go_simp
  refine ae 38 rfl (by kernel_rfl) (by kernel_rfl) (by kernel_rfl) rfl hm ?_
  go_simp
  refine ae 39 rfl (by kernel_rfl) (by kernel_rfl) (by kernel_rfl) rfl hm ?_
  go_simp
  refine ae 40 rfl (by kernel_rfl) (by kernel_rfl) (by kernel_rfl) rfl hm ?_
  go_simp
  refine ae 41 rfl (by kernel_rfl) (by kernel_rfl) (by kernel_rfl) rfl hm ?_
  go_simp
  refine aT 42 (v:=.bool true) rfl (by kernel_rfl) rfl (fun W _=>by go_simp) hm ?_
  go_simp
  refine wpAnyH_done (by kernel_rfl) ?_ _
  simp only [endsIn]
  go_wp2_with fail
  go_ret
  exact ⟨by rw [HR.out ()];rfl,hm.below⟩
end Go.Proofs.YtcibhfcjbokdlaaGreatDoor
