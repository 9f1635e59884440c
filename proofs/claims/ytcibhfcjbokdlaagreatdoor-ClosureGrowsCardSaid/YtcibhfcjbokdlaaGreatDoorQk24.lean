import Derived.Deep.LoopGhost
import Derived.Test.YtcibhfcjbokdlaaGreatDoorQk22
set_option maxRecDepth 100000
set_option maxHeartbeats 4000000
namespace Go.Proofs.YtcibhfcjbokdlaaGreatDoor
open Go Go.RowKit Classical
theorem der_nil (t:Tm):¬Der (inB []) t:=fun h=>by
 have h1:=h.syn (T:=fun _=>True) (K:=fun _=>False) (fun _ _ _ _=>trivial) (fun _ h=>h.elim) (fun t hb=>inB_nil t hb) ⟨fun _ _ h=>h.elim,fun _ _ _ h=>h.elim,fun t _ h2 h3=>by
  cases hl:t.l with
  | nil=>exact h2 hl
  | cons y r=>exact h3 y (by rw [hl];simp)⟩
 have key:∀t:Tm,¬Syn (fun _=>False) t:=fun t=>by
  induction t using Tm.ind with
  | h t ih =>
   intro h
   rcases h.cs with h2|⟨h2,h3⟩
   ·exact h2
   ·cases hl:t.l with
    | nil=>exact h2 hl
    | cons y r=>exact ih y (by rw [hl];simp) (h3 y (by rw [hl];simp))
 exact key t h1
theorem web_more {l d:List Tm} (h:∀t∈d,isT t=true→t∈webWs (l.filter isT) []):webWs ((l++d).filter isT) []=webWs (l.filter isT) []:=by
 rw [List.filter_append,d6]
 exact webWs_in (db l).1 fun t ht=>h t (List.mem_filter.1 ht).1 (List.mem_filter.1 ht).2
theorem web_twice {l d:List Tm} (h:∀t∈d,t∈l):webWs ((l++d).filter isT) []=webWs (l.filter isT) []:=web_more fun t ht hi=>(db l).2 t (List.mem_filter.2 ⟨h t ht,hi⟩)
theorem few_app {a b:List Tm} (ha:Few a) (hb:Few b) (hl:a.length+b.length≤10):Few (a++b):=⟨by rw [List.length_append];exact hl,fun t ht=>(List.mem_append.1 ht).elim (ha.2 t) (hb.2 t)⟩
def turnL (l:List Tm) (k:Nat):List Tm:=l.drop k++l.take k
theorem dG (l:List Tm) (k:Nat) (t:Tm):t∈turnL l k↔t∈l:=by
 unfold turnL
 rw [List.mem_append]
 constructor
 ·rintro (h|h)
  ·exact List.mem_of_mem_drop h
  ·exact List.mem_of_mem_take h
 ·intro h
  rw [←List.take_append_drop k l] at h
  exact (List.mem_append.1 h).symm
theorem b9 (l:List Tm) (k:Nat):(turnL l k).length=l.length:=by
 unfold turnL
 rw [List.length_append,List.length_drop,List.length_take]
 omega
theorem ce {l:List Tm} (h:Few l) (k:Nat):Few (turnL l k):=ep h (fun t ht=>(dG l k t).1 ht) (by rw [b9];exact h.1)
theorem kn_turn (l:List Tm) (k:Nat) (t:Tm):Kn (turnL l k) t↔Kn l t:=kn_same (dG l k) t
theorem kn_two (l:List Tm) (k:Nat) (t:Tm):Kn (turnL l k++l) t↔Kn l t:=kn_same (fun u=>by rw [List.mem_append,dG,or_self]) t
theorem kn_all {l d:List Tm} (h:AllIs l d) (t:Tm):Kn (l++d) t↔Kn l t:=kn_adds (fun u hu=>((h.1 u).1 hu).2) t
theorem all_len {l d:List Tm} (h:AllIs l d):d.length≤(webWs (l.filter isT) []).length :=
 dY d _ (List.Pairwise.imp (fun {a b} hlt he=>by rw [he] at hlt;exact List.lt_irrefl _ hlt) h.2) fun t ht=>((h.1 t).1 ht).1
theorem two_le {l:List Tm} {gt:Tm} (k:Nat) (h:Few l) (hg:cnt gt≤20):(webW gt (webWs ((turnL l k++l).filter isT) [])).length≤380:=by
 rw [web_twice fun t ht=>(dG l k t).2 ht]
 exact bg (bI (ce h k) hg)
theorem alld_le {l d:List Tm} {gt:Tm} (h:Few l) (hd:AllIs l d) (hg:cnt gt≤20):(webW gt (webWs ((l++d).filter isT) [])).length≤380:=by
 rw [web_more fun t ht _=>((hd.1 t).1 ht).1]
 exact bg (bI h hg)
theorem dj {l:List Tm} (h:Few l):(webWs (l.filter isT) []).length≤380:=web1_le (by
 have h1:=few_sum h.2
 have h2:=Nat.mul_le_mul_right 20 h.1
 omega)
theorem grows_out {F1 F2 G:Nat→Prop} (la lb:List Tm) (gt:Tm) (av bv s:Value) (n:Int) (w:World) (hY:Rdy w) (ha:SlT F1 w av la) (hla:la.length≤maxLen) (hb:SlT F2 w bv lb) (hlb:lb.length≤maxLen) (hgs:SlT G w s gt.l) (hout:¬(Few la∧Few lb∧la.length+lb.length≤10∧cnt gt≤20)) :
  Calls Tryz.prog 4 #[av,bv,.agg (tcs gt s).toArray,.int .u8 n] w fun e w'=>e=.returned (.bool true)∧Below w.heap.size w w':=by
 obtain ⟨pa,ca,rfl,hca⟩:=ha.len
 obtain ⟨na,hna⟩:∃l,l=la.length:=⟨_,rfl⟩
 rw [←hna] at ha hca hout ⊢
 obtain ⟨pb,cb,rfl,hcb⟩:=hb.len
 obtain ⟨nb,hnb⟩:∃l,l=lb.length:=⟨_,rfl⟩
 rw [←hnb] at hb hcb hout ⊢
 obtain ⟨pp,cap,rfl,_⟩:=hgs.len
 obtain ⟨mm,hmm⟩:∃m,m=gt.l.length:=⟨_,rfl⟩
 rw [←hmm] at hgs ⊢
 have HY0:Hid (Rdy w):=hY
 have HSA0:Hid (SlT (fun b=>b<w.heap.size) w (.slice pa na ca) la):=ha.lt
 have HSB0:Hid (SlT (fun b=>b<w.heap.size) w (.slice pb nb cb) lb):=hb.lt
 have HGS0:Hid (SlT (fun b=>b<w.heap.size) w (.slice pp mm cap) gt.l):=hgs.lt
 have HNA:Hid (∀_:Unit,na=la.length):=fun _=>hna
 have HNB:Hid (∀_:Unit,nb=lb.length):=fun _=>hnb
 have HLA:Hid (na≤maxLen):=by show _≤_;rw [hna];exact hla
 have HLB:Hid (nb≤maxLen):=by show _≤_;rw [hnb];exact hlb
 have hna9:na≤9223372036854775807:=by have:=HLA.out;unfold maxLen at this;omega
 have hnb9:nb≤9223372036854775807:=by have:=HLB.out;unfold maxLen at this;omega
 have tkk:Nat:=0
 have tf1:Nat:=0
 have tf2:Nat:=0
 have tka:Nat:=0
 clear hY ha hb hgs hmm hca hcb hla hlb hna hnb
 have hm:=Mem.start w
 go_enter Tryz.func4,Tryz.ntmps4
 go_wp2_with (first
  | ((with_reducible refine ad (some 6) (.box 24 (.tmp 2)) ?_);go_must (refine aH (tcs gt (.slice pp mm cap)) rfl hm ?_);clear hm;intro w1 g6 hm))
 have HB1:Hid (Below w.heap.size w w1):=hm.below
 have HR6:Hid (Row w1 g6 (tcs gt (.slice pp mm cap)) 24):=hm.get 0 rfl
 have HY:Hid (Rdy w1):=HY0.out.below HB1.out
 have HSA:Hid (SlT (fun b=>b<w1.heap.size) w1 (.slice pa na ca) la):=(HSA0.out.below HB1.out).weak fun b hb=>Nat.lt_of_lt_of_le hb HB1.out.size
 have HSB:Hid (SlT (fun b=>b<w1.heap.size) w1 (.slice pb nb cb) lb):=(HSB0.out.below HB1.out).weak fun b hb=>Nat.lt_of_lt_of_le hb HB1.out.size
 have HGS:Hid (SlT (fun b=>b<w1.heap.size) w1 (.slice pp mm cap) gt.l):=(HGS0.out.below HB1.out).weak fun b hb=>Nat.lt_of_lt_of_le hb HB1.out.size
 clear hm HY0 HSA0 HSB0 HGS0
 have hm:=Mem.start w1
 have HOUT:Hid (¬(Few la∧Few lb∧na+nb≤10∧cnt gt≤20)):=hout
 clear hout
 by_cases hfa:Few la
 ·have HPA:Hid (Few la):=hfa
  have HF1:Hid (∀W,Below w1.heap.size w1 W→Calls Tryz.prog 10 #[.slice pa na ca] W fun e w'=>e=.returned (.bool true)∧Below W.heap.size W w'):=fun W hW=>aU la pa na ca W true (⟨fun _=>HPA.out,fun _=>rfl⟩) (HNA.out ()) HLA.out (HSA.out.below hW)
  clear hfa
  by_cases hfb:Few lb
  ·have HPB:Hid (Few lb):=hfb
   have HFB:Hid (∀W,Below w1.heap.size w1 W→Calls Tryz.prog 10 #[.slice pb nb cb] W fun e w'=>e=.returned (.bool true)∧Below W.heap.size W w'):=fun W hW=>aU lb pb nb cb W true (⟨fun _=>HPB.out,fun _=>rfl⟩) (HNB.out ()) HLB.out (HSB.out.below hW)
   clear hfb
   by_cases hl:na+nb≤10
   ·have HF2:Hid (¬Few [gt]):=fun h=>HOUT.out ⟨HPA.out,HPB.out,hl,de.1 h⟩
    have hab:(na:Int)+(nb:Int)≤10:=by omega
    have hwab:IntKind.i64.wrap ((na:Int)+(nb:Int))=(na:Int)+(nb:Int):=bd _ (by omega) (by omega)
    have hnab:decide ((10:Int)<(na:Int)+(nb:Int))=false:=decide_eq_false (by omega)
    go_wp2_with (first
     | (clear tkk;go_at_call 9;go_must (refine (aL _ (HY.out.below hm.below)).mono ?_);rintro e wk ⟨he,hb⟩;subst he;replace hm:=hm.call hb;clear hb)
     | (clear tf1;go_at_call 10;go_must (refine (HF1.out _ hm.below).mono ?_);rintro e wf ⟨he,hb⟩;subst he;replace hm:=hm.call hb;clear hb)
     | (clear tf2;go_at_call 10;go_must (refine (HFB.out _ hm.below).mono ?_);rintro e wf ⟨he,hb⟩;subst he;replace hm:=hm.call hb;clear hb)
     | ((with_reducible refine aI (some 34) (.load 24 (.tmp 6)) (some (16,false)) ?_);go_must (refine aa (.agg (tcs gt (.slice pp mm cap)).toArray) rfl (ah 0 (tcs gt (.slice pp mm cap)) (HR6.out.below' hm.below) rfl _ Tryz.underlying24 rfl 3 af (Nat.le_refl _) rfl) ?_))
     | ((with_reducible refine aI (some 35) (.buildSlice 22 1 #[(0,.tmp 34)]) (some (16,false)) ?_);go_must (refine bf gt (.slice pp mm cap) rfl rfl hm ?_);clear hm;intro w35 g35 hb hg hm;have H35:Hid (SlT (fun _=>True) w35 (.slice (some ⟨g35,0,none⟩) 1 1) [gt]):=bP (hm.get 0 rfl) ((HGS.out.below hm.below).weak (fun _ _=>trivial)) trivial;clear hb hg)
     | (go_at_call 10;go_must (refine (aU [gt] (some ⟨g35,0,none⟩) 1 1 _ false (⟨(fun h=>by cases h),fun h=>absurd h HF2.out⟩) rfl (by unfold maxLen;omega) H35.out).mono ?_);rintro e wf3 ⟨he,hb⟩;subst he;replace hm:=(hm.call hb).tail;clear hb))
    go_ret
    exact ⟨rfl,HB1.out.trans (hm.below.mono HB1.out.size)⟩
   ·have hn20:na≤10∧nb≤10:=⟨by have h1:=HPA.out.1;have h2:=HNA.out ();omega,by have h1:=HPB.out.1;have h2:=HNB.out ();omega⟩
    have hwab:IntKind.i64.wrap ((na:Int)+(nb:Int))=(na:Int)+(nb:Int):=bd _ (by omega) (by omega)
    have hnab:decide ((10:Int)<(na:Int)+(nb:Int))=true:=decide_eq_true (by omega)
    go_wp2_with (first
     | (clear tkk;go_at_call 9;go_must (refine (aL _ (HY.out.below hm.below)).mono ?_);rintro e wk ⟨he,hb⟩;subst he;replace hm:=hm.call hb;clear hb)
     | (clear tf1;go_at_call 10;go_must (refine (HF1.out _ hm.below).mono ?_);rintro e wf ⟨he,hb⟩;subst he;replace hm:=hm.call hb;clear hb)
     | (clear tf2;go_at_call 10;go_must (refine (HFB.out _ hm.below).mono ?_);rintro e wf ⟨he,hb⟩;subst he;replace hm:=hm.call hb;clear hb))
    go_ret
    exact ⟨rfl,HB1.out.trans (hm.below.mono HB1.out.size)⟩
  ·have HPB:Hid (¬Few lb):=hfb
   have HFB:Hid (∀W,Below w1.heap.size w1 W→Calls Tryz.prog 10 #[.slice pb nb cb] W fun e w'=>e=.returned (.bool false)∧Below W.heap.size W w'):=fun W hW=>aU lb pb nb cb W false (⟨(fun h=>by cases h),fun h=>absurd h HPB.out⟩) (HNB.out ()) HLB.out (HSB.out.below hW)
   clear hfb
   go_wp2_with (first
    | (clear tkk;go_at_call 9;go_must (refine (aL _ (HY.out.below hm.below)).mono ?_);rintro e wk ⟨he,hb⟩;subst he;replace hm:=hm.call hb;clear hb)
    | (clear tf1;go_at_call 10;go_must (refine (HF1.out _ hm.below).mono ?_);rintro e wf ⟨he,hb⟩;subst he;replace hm:=hm.call hb;clear hb)
    | (clear tf2;go_at_call 10;go_must (refine (HFB.out _ hm.below).mono ?_);rintro e wf ⟨he,hb⟩;subst he;replace hm:=hm.call hb;clear hb))
   go_ret
   exact ⟨rfl,HB1.out.trans (hm.below.mono HB1.out.size)⟩
 ·have HPA:Hid (¬Few la):=hfa
  have HF1:Hid (∀W,Below w1.heap.size w1 W→Calls Tryz.prog 10 #[.slice pa na ca] W fun e w'=>e=.returned (.bool false)∧Below W.heap.size W w'):=fun W hW=>aU la pa na ca W false (⟨(fun h=>by cases h),fun h=>absurd h HPA.out⟩) (HNA.out ()) HLA.out (HSA.out.below hW)
  clear hfa
  go_wp2_with (first
   | (clear tkk;go_at_call 9;go_must (refine (aL _ (HY.out.below hm.below)).mono ?_);rintro e wk ⟨he,hb⟩;subst he;replace hm:=hm.call hb;clear hb)
   | (clear tf1;go_at_call 10;go_must (refine (HF1.out _ hm.below).mono ?_);rintro e wf ⟨he,hb⟩;subst he;replace hm:=hm.call hb;clear hb))
  go_ret
  exact ⟨rfl,HB1.out.trans (hm.below.mono HB1.out.size)⟩
theorem aX {F G:Nat→Prop} {bl:List Tm} {gt:Tm} {v s:Value} {w:World} {b:Bool} (hk:decide (Kn bl gt)=b) (hbs:SlT F w v bl) (hgs:SlT G w s gt.l) (hT:(webW gt (webWs (bl.filter isT) [])).length≤380) (hbl:bl.length≤1000) :
  Calls Tryz.prog 11 #[v,.agg (tcs gt s).toArray] w fun e w'=>e=.returned (.bool b)∧Below w.heap.size w w':=by
 have h:=aW bl gt v s w hbs hgs (fun _=>hT) hbl
 rw [hk] at h
 exact h
open Go Go.RowKit Classical
theorem grows_tt {F1 F2 G:Nat→Prop} (la lb:List Tm) (gt:Tm) (av bv s:Value) (n:Int) (bn:0≤n∧n≤255) (w:World) (hY:Rdy w) (ha:SlT F1 w av la) (hla:la.length≤maxLen) (hb:SlT F2 w bv lb) (hlb:lb.length≤maxLen) (hgs:SlT G w s gt.l) (hfa:Few la) (hfb:Few lb) (hl10:la.length+lb.length≤10) (hg20:cnt gt≤20) (hxk:decide (Kn la gt)=true) (hyk:decide (Kn (la++lb) gt)=true) :
  Calls Tryz.prog 4 #[av,bv,.agg (tcs gt s).toArray,.int .u8 n] w fun e w'=>e=.returned (.bool true)∧Below w.heap.size w w':=by
 obtain ⟨pa,ca,rfl,hca⟩:=ha.len
 obtain ⟨na,hna⟩:∃l,l=la.length:=⟨_,rfl⟩
 rw [←hna] at ha hca hl10 ⊢
 obtain ⟨pb,cb,rfl,hcb⟩:=hb.len
 obtain ⟨nb,hnb⟩:∃l,l=lb.length:=⟨_,rfl⟩
 rw [←hnb] at hb hcb hl10 ⊢
 obtain ⟨pp,cap,rfl,_⟩:=hgs.len
 obtain ⟨mm,hmm⟩:∃m,m=gt.l.length:=⟨_,rfl⟩
 rw [←hmm] at hgs ⊢
 have HY0:Hid (Rdy w):=hY
 have HSA0:Hid (SlT (fun b=>b<w.heap.size) w (.slice pa na ca) la):=ha.lt
 have HSB0:Hid (SlT (fun b=>b<w.heap.size) w (.slice pb nb cb) lb):=hb.lt
 have HGS0:Hid (SlT (fun b=>b<w.heap.size) w (.slice pp mm cap) gt.l):=hgs.lt
 have HNA:Hid (∀_:Unit,na=la.length):=fun _=>hna
 have HNB:Hid (∀_:Unit,nb=lb.length):=fun _=>hnb
 have HLA:Hid (na≤maxLen):=by show _≤_;rw [hna];exact hla
 have HLB:Hid (nb≤maxLen):=by show _≤_;rw [hnb];exact hlb
 have hna9:na≤9223372036854775807:=by have:=HLA.out;unfold maxLen at this;omega
 have hnb9:nb≤9223372036854775807:=by have:=HLB.out;unfold maxLen at this;omega
 have tkk:Nat:=0
 have tf1:Nat:=0
 have tf2:Nat:=0
 have tka:Nat:=0
 clear hY ha hb hgs hmm hca hcb hla hlb hna hnb
 have hm:=Mem.start w
 go_enter Tryz.func4,Tryz.ntmps4
 go_wp2_with (first
  | ((with_reducible refine ad (some 6) (.box 24 (.tmp 2)) ?_);go_must (refine aH (tcs gt (.slice pp mm cap)) rfl hm ?_);clear hm;intro w1 g6 hm))
 have HB1:Hid (Below w.heap.size w w1):=hm.below
 have HR6:Hid (Row w1 g6 (tcs gt (.slice pp mm cap)) 24):=hm.get 0 rfl
 have HY:Hid (Rdy w1):=HY0.out.below HB1.out
 have HSA:Hid (SlT (fun b=>b<w1.heap.size) w1 (.slice pa na ca) la):=(HSA0.out.below HB1.out).weak fun b hb=>Nat.lt_of_lt_of_le hb HB1.out.size
 have HSB:Hid (SlT (fun b=>b<w1.heap.size) w1 (.slice pb nb cb) lb):=(HSB0.out.below HB1.out).weak fun b hb=>Nat.lt_of_lt_of_le hb HB1.out.size
 have HGS:Hid (SlT (fun b=>b<w1.heap.size) w1 (.slice pp mm cap) gt.l):=(HGS0.out.below HB1.out).weak fun b hb=>Nat.lt_of_lt_of_le hb HB1.out.size
 clear hm HY0 HSA0 HSB0 HGS0
 have hm:=Mem.start w1
 have HYK:Hid (decide (Kn (la++lb) gt)=true):=hyk
 have HXK:Hid (decide (Kn la gt)=true):=hxk
 have HFA:Hid (Few la∧Few lb∧Few (la++lb)):=⟨hfa,hfb,few_app hfa hfb (by rw [←HNA.out (),←HNB.out ()];exact hl10)⟩
 have HG20:Hid (cnt gt≤20):=hg20
 have HF2:Hid (Few [gt]):=de.2 hg20
 have HF1:Hid (∀W,Below w1.heap.size w1 W→Calls Tryz.prog 10 #[.slice pa na ca] W fun e w'=>e=.returned (.bool true)∧Below W.heap.size W w'):=fun W hW=>aU la pa na ca W true (⟨fun _=>HFA.out.1,fun _=>rfl⟩) (HNA.out ()) HLA.out (HSA.out.below hW)
 have HFB:Hid (∀W,Below w1.heap.size w1 W→Calls Tryz.prog 10 #[.slice pb nb cb] W fun e w'=>e=.returned (.bool true)∧Below W.heap.size W w'):=fun W hW=>aU lb pb nb cb W true (⟨fun _=>HFA.out.2.1,fun _=>rfl⟩) (HNB.out ()) HLB.out (HSB.out.below hW)
 have hab:(na:Int)+(nb:Int)≤10:=by omega
 have hwab:IntKind.i64.wrap ((na:Int)+(nb:Int))=(na:Int)+(nb:Int):=bd _ (by omega) (by omega)
 have hnab:decide ((10:Int)<(na:Int)+(nb:Int))=false:=decide_eq_false (by omega)
 clear hyk hxk hfa hfb hg20
 go_wp2_with (first
  | (clear tkk;go_at_call 9;go_must (refine (aL _ (HY.out.below hm.below)).mono ?_);rintro e wk ⟨he,hb⟩;subst he;replace hm:=hm.call hb;clear hb)
  | (clear tf1;go_at_call 10;go_must (refine (HF1.out _ hm.below).mono ?_);rintro e wf ⟨he,hb⟩;subst he;replace hm:=hm.call hb;clear hb)
  | (clear tf2;go_at_call 10;go_must (refine (HFB.out _ hm.below).mono ?_);rintro e wf ⟨he,hb⟩;subst he;replace hm:=hm.call hb;clear hb)
  | ((with_reducible refine aI (some 34) (.load 24 (.tmp 6)) (some (16,false)) ?_);go_must (refine aa (.agg (tcs gt (.slice pp mm cap)).toArray) rfl (ah 0 (tcs gt (.slice pp mm cap)) (HR6.out.below' hm.below) rfl _ Tryz.underlying24 rfl 3 af (Nat.le_refl _) rfl) ?_))
  | ((with_reducible refine aI (some 35) (.buildSlice 22 1 #[(0,.tmp 34)]) (some (16,false)) ?_);go_must (refine bf gt (.slice pp mm cap) rfl rfl hm ?_);clear hm;intro w35 g35 hb hg hm;have H35:Hid (SlT (fun _=>True) w35 (.slice (some ⟨g35,0,none⟩) 1 1) [gt]):=bP (hm.get 0 rfl) ((HGS.out.below hm.below).weak (fun _ _=>trivial)) trivial;clear hb hg)
  | (go_at_call 10;go_must (refine (aU [gt] (some ⟨g35,0,none⟩) 1 1 _ true (⟨fun _=>HF2.out,fun _=>rfl⟩) rfl (by unfold maxLen;omega) H35.out).mono ?_);rintro e wf3 ⟨he,hb⟩;subst he;replace hm:=(hm.call hb).tail;clear hb)
  | ((with_reducible refine ad (some 40) (.call {callee:=.builtin .append,args:=#[.const (.slice none 0 0),.tmp 39],argTypes:=#[22,22]}) ?_);go_must (refine aw (base:=w1.heap.size) (l2:=la) rfl rfl rfl hm OT.nil (HNA.out ()) (OT.nil.old (base:=w1.heap.size) (fun b hb=>hb) (HSA.out.below hm.below) hm.size) (by simp;omega) (Nat.le_refl _) hm.size aV ?_);intro v40 w40 ho hg hb9 hm5;have HOw40:Hid (OT w1.heap.size w40 v40 ([]++la)):=ho;clear hm ho hg hb9;have hm:=hm5;clear hm5)
  | ((with_reducible refine ad (some 42) (.call {callee:=.builtin .append,args:=#[.tmp 40,.tmp 41],argTypes:=#[22,22]}) ?_);go_must (refine aw (base:=w1.heap.size) (l2:=lb) rfl rfl rfl hm HOw40.out (HNB.out ()) (HOw40.out.old (fun b hb=>hb) (HSB.out.below hm.below) hm.size) (by rw [List.nil_append,←HNA.out ()];omega) (Nat.le_refl _) hm.size aV ?_);intro v42 w42 ho hg hb9 hm5;have HOw42:Hid (OT w1.heap.size w42 v42 ([]++la++lb)):=ho;clear hm ho hg hb9;have hm:=hm5;clear hm5))
 have HO9:Hid (OT w1.heap.size w42 v42 (la++lb)):=HOw42.out
 obtain ⟨p9,c9,hv9,hc9⟩:=HO9.out.len
 obtain ⟨n9,hn9⟩:∃l,l=(la++lb).length:=⟨_,rfl⟩
 rw [←hn9] at hv9 hc9
 subst hv9
 have HN9:Hid (∀_:Unit,n9=(la++lb).length):=fun _=>hn9
 have hn10:n9≤10:=by rw [hn9];exact HFA.out.2.2.1
 have HS9:Hid (SlT (fun b=>b<w42.heap.size) w42 (.slice p9 n9 c9) (la++lb)):=HO9.out.slt
 have HB9:Hid (Below w1.heap.size w1 w42):=hm.below
 have HA9:Hid (SlT (fun b=>b<w1.heap.size) w42 (.slice pa na ca) la):=HSA.out.below hm.below
 have HG9:Hid (SlT (fun b=>b<w1.heap.size) w42 (.slice pp mm cap) gt.l):=HGS.out.below hm.below
 have HR9:Hid (Row w42 g6 (tcs gt (.slice pp mm cap)) 24):=HR6.out.below' hm.below
 have HZ9:Hid (w1.heap.size≤w42.heap.size):=hm.size
 clear hm HR6 HOw42 HO9 HOw40 HSA HSB HGS hn9
 have hm:=Mem.start w42
 refine ay ?_
 refine ao (T:=fun W=>Mem w42 [] W []) (by kernel_rfl) hm ?_
 intro wc hbw hmw
 replace hm:Mem w42 [] wc []:=hmw
 clear hbw hmw
 refine aT 0 (v:=.slice pa na ca) rfl (by kernel_rfl) rfl (fun W _=>by go_simp) hm ?_
 go_simp
 refine aT 1 (v:=.agg (tcs gt (.slice pp mm cap)).toArray) rfl (by kernel_rfl) rfl (fun W hW=>ah 0 (tcs gt (.slice pp mm cap)) (HR9.out.below' hW.below) rfl _ Tryz.underlying24 rfl 3 af (Nat.le_refl _) rfl) hm ?_
 go_simp
 refine aT 3 (v:=.slice p9 n9 c9) rfl (by kernel_rfl) rfl (fun W _=>by go_simp) hm ?_
 go_simp
 refine aT 4 (v:=.agg (tcs gt (.slice pp mm cap)).toArray) rfl (by kernel_rfl) rfl (fun W hW=>ah 0 (tcs gt (.slice pp mm cap)) (HR9.out.below' hW.below) rfl _ Tryz.underlying24 rfl 3 af (Nat.le_refl _) rfl) hm ?_
 go_simp
 refine aO 2 (by kernel_rfl) rfl rfl ?_
 intro K hK
 go_wp2_with (go_at_call 11;refine (aX (gt:=gt) (bl:=la) HXK.out (HA9.out.below hm.below) (HG9.out.below hm.below) (bg (bI HFA.out.1 HG20.out)) (Nat.le_trans HFA.out.1.1 (by omega))).mono ?_;rintro e w45 ⟨he,hb⟩;subst he;replace hm:=hm.call hb;clear hb)
 refine hK _ _ hm ?_
 clear hK K
 go_simp
 refine aO 5 (by kernel_rfl) rfl rfl ?_
 intro K hK
 go_wp2_with (go_at_call 11;refine (aX (gt:=gt) (bl:=la++lb) HYK.out (HS9.out.below hm.below) (HG9.out.below hm.below) (bg (bI HFA.out.2.2 HG20.out)) (Nat.le_trans HFA.out.2.2.1 (by omega))).mono ?_;rintro e w48 ⟨he,hb⟩;subst he;replace hm:=hm.call hb;clear hb)
 refine hK _ _ hm ?_
 clear hK K
 go_simp
 refine aT 6 (v:=.bool true) rfl (by kernel_rfl) rfl (fun W _=>by go_simp) hm ?_
 go_simp
 refine aT 7 (v:=.bool true) rfl (by kernel_rfl) rfl (fun W _=>by go_simp) hm ?_
 go_simp
 refine wpAnyH_done (by kernel_rfl) ?_ _
 simp only [endsIn]
 by_cases h0:n9=0
 ·exfalso
  have h8:la++lb=[]:=List.eq_nil_of_length_eq_zero (by rw [←HN9.out ()];exact h0)
  have h7:Kn (la++lb) gt:=of_decide_eq_true HYK.out
  rw [h8] at h7
  exact der_nil gt h7.2
 ·have hn0:¬((n9:Int)=0):=by omega
  have hnp:0<n9:=by omega
  obtain ⟨k,hk⟩:∃k:Nat,n % (n9:Int)=(k:Int):=⟨(n % (n9:Int)).toNat,by have:=Int.emod_nonneg n (show (n9:Int)≠0 by omega);omega⟩
  have hkn:k≤n9:=by have:=Int.emod_lt_of_pos n (show (0:Int)<(n9:Int) by omega);omega
  have hkc:k≤c9:=by omega
  go_wp2_with fail
  try rw [hk]
  refine ay ?_
  refine ao (T:=fun W=>Mem w42 [] W []) (by kernel_rfl) hm ?_
  intro wc hbw hmw
  replace hm:Mem w42 [] wc []:=hmw
  clear hbw hmw
  refine aT 0 (v:=.slice p9 n9 c9) rfl (by kernel_rfl) rfl (fun W _=>by go_simp) hm ?_
  go_simp
  refine aT 1 (v:=.int .i64 (k:Int)) rfl (by kernel_rfl) rfl (fun W _=>by go_simp) hm ?_
  go_simp
  refine aT 2 (v:=.slice (offA p9 c9 k) (n9 - k) (c9 - k)) rfl (by kernel_rfl) rfl (fun W _=>dF k hkn rfl rfl rfl) hm ?_
  go_simp
  refine aT 4 (v:=.slice p9 n9 c9) rfl (by kernel_rfl) rfl (fun W _=>by go_simp) hm ?_
  go_simp
  refine aT 5 (v:=.int .i64 (k:Int)) rfl (by kernel_rfl) rfl (fun W _=>by go_simp) hm ?_
  go_simp
  refine aT 6 (v:=.slice (cutHi p9 c9) k c9) rfl (by kernel_rfl) rfl (fun W _=>dP k hkc rfl rfl rfl) hm ?_
  go_simp
  refine aO 3 (by kernel_rfl) rfl rfl ?_
  intro K hK
  refine aw (base:=w42.heap.size) (l2:=(la++lb).drop k) rfl rfl rfl hm OT.nil (by rw [List.length_drop,←HN9.out ()]) (OT.nil.old (base:=w42.heap.size) (fun b hb=>hb) ((HS9.out.drop hkn).below hm.below) hm.size) (by simp;omega) (Nat.le_refl _) hm.size aV ?_
  intro v67 w67 ho hg hb9 hm5
  have HOw67:Hid (OT w42.heap.size w67 v67 ([]++(la++lb).drop k)):=ho
  clear hm ho hg hb9
  have hm:=hm5
  clear hm5
  refine wpList_nil ?_
  refine hK _ _ hm ?_
  clear hK K
  go_simp
  refine aO 7 (by kernel_rfl) rfl rfl ?_
  intro K hK
  refine aw (base:=w42.heap.size) (l2:=(la++lb).take k) rfl rfl rfl hm HOw67.out (by rw [List.length_take,←HN9.out (),Nat.min_eq_left hkn]) (HOw67.out.old (fun b hb=>hb) ((HS9.out.take hkn).below hm.below) hm.size) (by rw [List.nil_append,List.length_drop,←HN9.out ()];omega) (Nat.le_refl _) hm.size aV ?_
  intro v71 w71 ho hg hb9 hm5
  have HOw71:Hid (OT w42.heap.size w71 v71 ([]++(la++lb).drop k++(la++lb).take k)):=ho
  clear hm ho hg hb9
  have hm:=hm5
  clear hm5
  refine wpList_nil ?_
  refine hK _ _ hm ?_
  clear hK K
  go_simp
  refine aT 8 (v:=v71) rfl (by kernel_rfl) rfl (fun W _=>by go_simp) hm ?_
  go_simp
  refine wpAnyH_done (by kernel_rfl) ?_ _
  simp only [endsIn]
  have HOT:Hid (OT w42.heap.size w71 v71 (turnL (la++lb) k)):=HOw71.out
  clear HOw71 HOw67
  go_wp2_with fail
  refine ay ?_
  refine ao (T:=fun W=>Mem w42 [] W []) (by kernel_rfl) hm ?_
  intro wc hbw hmw
  replace hm:Mem w42 [] wc []:=hmw
  have HOTC:Hid (OT w42.heap.size wc v71 (turnL (la++lb) k)):=HOT.out.below hbw
  clear hbw hmw HOT
  refine aT 0 (v:=v71) rfl (by kernel_rfl) rfl (fun W _=>by go_simp) hm ?_
  go_simp
  refine aT 1 (v:=.agg (tcs gt (.slice pp mm cap)).toArray) rfl (by kernel_rfl) rfl (fun W hW=>ah 0 (tcs gt (.slice pp mm cap)) (HR9.out.below' hW.below) rfl _ Tryz.underlying24 rfl 3 af (Nat.le_refl _) rfl) hm ?_
  go_simp
  refine aT 3 (v:=.bool true) rfl (by kernel_rfl) rfl (fun W _=>by go_simp) hm ?_
  go_simp
  refine aO 2 (by kernel_rfl) rfl rfl ?_
  intro K hK
  go_wp2_with (go_at_call 11;refine (aX (gt:=gt) (bl:=turnL (la++lb) k) ((decide_eq_decide.2 (kn_turn _ k gt)).trans HYK.out) HOTC.out.slt (HG9.out.below hm.below) (bg (bI (ce HFA.out.2.2 k) HG20.out)) (Nat.le_trans (ce HFA.out.2.2 k).1 (by omega))).mono ?_;rintro e w74 ⟨he,hb⟩;subst he;have HOT74:Hid (OT w42.heap.size w74 v71 (turnL (la++lb) k)):=HOTC.out.below hb;replace hm:=hm.call hb;clear hb)
  refine hK _ _ hm ?_
  clear hK K
  go_simp
  refine aT 4 (v:=.bool false) rfl (by kernel_rfl) rfl (fun W _=>by go_simp) hm ?_
  go_simp
  refine aT 5 (v:=.bool false) rfl (by kernel_rfl) rfl (fun W _=>by go_simp) hm ?_
  go_simp
  refine aG 6 (v:=v71) rfl (by kernel_rfl) rfl (fun W _=>by go_simp) hm ?_
  go_simp
  refine aG 7 (v:=.slice p9 n9 c9) rfl (by kernel_rfl) rfl (fun W _=>by go_simp) hm ?_
  go_simp
  refine aG 9 (v:=.agg (tcs gt (.slice pp mm cap)).toArray) rfl (by kernel_rfl) rfl (fun W hW=>ah 0 (tcs gt (.slice pp mm cap)) (HR9.out.below' hW.below) rfl _ Tryz.underlying24 rfl 3 af (Nat.le_refl _) rfl) hm ?_
  go_simp
  refine aG 11 (v:=.bool true) rfl (by kernel_rfl) rfl (fun W _=>by go_simp) hm ?_
  go_simp
  refine aO 8 (by kernel_rfl) rfl rfl ?_
  intro K hK
  refine aw (base:=w42.heap.size) (l2:=(la++lb)) rfl rfl rfl hm HOT74.out (HN9.out ()) (HOT74.out.old (fun b hb=>hb) (HS9.out.below hm.below) hm.size) (by rw [b9,←HN9.out ()];omega) (Nat.le_refl _) hm.size aV ?_
  intro v80 w80 ho hg hb9 hm5
  have HOw80:Hid (OT w42.heap.size w80 v80 (turnL (la++lb) k++(la++lb))):=ho
  clear hm ho hg hb9
  have hm:=hm5
  clear hm5
  refine wpList_nil ?_
  refine hK _ _ hm ?_
  clear hK K
  go_simp
  refine aO 10 (by kernel_rfl) rfl rfl ?_
  intro K hK
  go_wp2_with (go_at_call 11;refine (aX (gt:=gt) (bl:=turnL (la++lb) k++(la++lb)) ((decide_eq_decide.2 (kn_two _ k gt)).trans HYK.out) HOw80.out.slt (HG9.out.below hm.below) (two_le k HFA.out.2.2 HG20.out) (by rw [List.length_append,b9];have h9:=HFA.out.2.2.1;omega)).mono ?_;rintro e w82 ⟨he,hb⟩;subst he;replace hm:=hm.call hb;clear hb)
  refine hK _ _ hm ?_
  clear hK K
  go_simp
  refine aG 12 (v:=.bool false) rfl (by kernel_rfl) rfl (fun W _=>by go_simp) hm ?_
  go_simp
  refine aT 13 (v:=.bool false) rfl (by kernel_rfl) rfl (fun W _=>by go_simp) hm ?_
  go_simp
  refine wpAnyH_done (by kernel_rfl) ?_ _
  simp only [endsIn]
  go_wp2_with (first
   | (go_at_call 14;go_must (refine (el (la++lb) (.slice p9 n9 c9) _ (HS9.out.below hm.below) (dj HFA.out.2.2) (Nat.le_trans HFA.out.2.2.1 (by omega))).mono ?_);rintro e w87 ⟨v87,he,d,hd,hs87,hb87⟩;obtain ⟨p87,c87,hv87,hcd⟩:=hs87.len;obtain ⟨nd,hnd⟩:∃l,l=d.length:=⟨_,rfl⟩;rw [←hnd] at hv87;subst hv87;subst he;replace hm:=hm.call hb87;have HAD:Hid (AllIs (la++lb) d):=hd;have HND:Hid (∀_:Unit,nd=d.length):=(fun _=>hnd);have HSD:Hid (SlT (fun b=>b<w87.heap.size) w87 (.slice p87 nd c87) d):=hs87.weak (fun b hb=>hb.2);have HB87:Hid (Below w42.heap.size w42 w87):=hm.below;clear hb87 hs87 hcd hd hnd))
  have hnd4:nd≤380:=by have h9:=all_len HAD.out;have h8:=dj HFA.out.2.2;have h7:=HND.out ();omega
  have HS87:Hid (SlT (fun b=>b<w87.heap.size) w87 (.slice p9 n9 c9) (la++lb)):=(HS9.out.below HB87.out).weak fun b hb=>Nat.lt_of_lt_of_le hb HB87.out.size
  have HG87:Hid (SlT (fun b=>b<w1.heap.size) w87 (.slice pp mm cap) gt.l):=HG9.out.below HB87.out
  have HR87:Hid (Row w87 g6 (tcs gt (.slice pp mm cap)) 24):=HR9.out.below' HB87.out
  clear hm
  have hm:=Mem.start w87
  refine ay ?_
  refine ao (T:=fun W=>Mem w87 [] W []) (by kernel_rfl) hm ?_
  intro wc hbw hmw
  replace hm:Mem w87 [] wc []:=hmw
  clear hbw hmw
  refine aT 0 (v:=.slice p9 n9 c9) rfl (by kernel_rfl) rfl (fun W _=>by go_simp) hm ?_
  go_simp
  refine aT 2 (v:=.slice p87 nd c87) rfl (by kernel_rfl) rfl (fun W _=>by go_simp) hm ?_
  go_simp
  refine aT 4 (v:=.agg (tcs gt (.slice pp mm cap)).toArray) rfl (by kernel_rfl) rfl (fun W hW=>ah 0 (tcs gt (.slice pp mm cap)) (HR87.out.below' hW.below) rfl _ Tryz.underlying24 rfl 3 af (Nat.le_refl _) rfl) hm ?_
  go_simp
  refine aT 6 (v:=.bool true) rfl (by kernel_rfl) rfl (fun W _=>by go_simp) hm ?_
  go_simp
  refine aO 1 (by kernel_rfl) rfl rfl ?_
  intro K hK
  refine aw (base:=w87.heap.size) (l2:=(la++lb)) rfl rfl rfl hm OT.nil (HN9.out ()) (OT.nil.old (base:=w87.heap.size) (fun b hb=>hb) (HS87.out.below hm.below) hm.size) (by simp;omega) (Nat.le_refl _) hm.size aV ?_
  intro v89 w89 ho hg hb9 hm5
  have HOw89:Hid (OT w87.heap.size w89 v89 ([]++(la++lb))):=ho
  clear hm ho hg hb9
  have hm:=hm5
  clear hm5
  refine wpList_nil ?_
  refine hK _ _ hm ?_
  clear hK K
  go_simp
  refine aO 3 (by kernel_rfl) rfl rfl ?_
  intro K hK
  refine aw (base:=w87.heap.size) (l2:=d) rfl rfl rfl hm HOw89.out (HND.out ()) (HOw89.out.old (fun b hb=>hb) (HSD.out.below hm.below) hm.size) (by rw [List.nil_append,←HN9.out ()];omega) (Nat.le_refl _) hm.size aV ?_
  intro v91 w91 ho hg hb9 hm5
  have HOw91:Hid (OT w87.heap.size w91 v91 ([]++(la++lb)++d)):=ho
  clear hm ho hg hb9
  have hm:=hm5
  clear hm5
  refine wpList_nil ?_
  refine hK _ _ hm ?_
  clear hK K
  go_simp
  refine aO 5 (by kernel_rfl) rfl rfl ?_
  intro K hK
  go_wp2_with (go_at_call 11;refine (aX (gt:=gt) (bl:=la++lb++d) ((decide_eq_decide.2 (kn_all HAD.out gt)).trans HYK.out) HOw91.out.slt (HG87.out.below hm.below) (alld_le HFA.out.2.2 HAD.out HG20.out) (by rw [List.length_append,←HN9.out (),←HND.out ()];omega)).mono ?_;rintro e w93 ⟨he,hb⟩;subst he;replace hm:=hm.call hb;clear hb)
  refine hK _ _ hm ?_
  clear hK K
  go_simp
  refine aT 7 (v:=.bool true) rfl (by kernel_rfl) rfl (fun W _=>by go_simp) hm ?_
  go_simp
  refine aT 8 (v:=.bool true) rfl (by kernel_rfl) rfl (fun W _=>by go_simp) hm ?_
  go_simp
  refine wpAnyH_done (by kernel_rfl) ?_ _
  simp only [endsIn]
  go_wp2_with fail
  go_ret
  exact ⟨rfl,HB1.out.trans ((HB9.out.trans ((HB87.out.trans (hm.below.mono HB87.out.size)).mono HB9.out.size)).mono HB1.out.size)⟩
open Go Go.RowKit Classical
theorem grows_ft {F1 F2 G:Nat→Prop} (la lb:List Tm) (gt:Tm) (av bv s:Value) (n:Int) (bn:0≤n∧n≤255) (w:World) (hY:Rdy w) (ha:SlT F1 w av la) (hla:la.length≤maxLen) (hb:SlT F2 w bv lb) (hlb:lb.length≤maxLen) (hgs:SlT G w s gt.l) (hfa:Few la) (hfb:Few lb) (hl10:la.length+lb.length≤10) (hg20:cnt gt≤20) (hxk:decide (Kn la gt)=false) (hyk:decide (Kn (la++lb) gt)=true) :
  Calls Tryz.prog 4 #[av,bv,.agg (tcs gt s).toArray,.int .u8 n] w fun e w'=>e=.returned (.bool true)∧Below w.heap.size w w':=by
 obtain ⟨pa,ca,rfl,hca⟩:=ha.len
 obtain ⟨na,hna⟩:∃l,l=la.length:=⟨_,rfl⟩
 rw [←hna] at ha hca hl10 ⊢
 obtain ⟨pb,cb,rfl,hcb⟩:=hb.len
 obtain ⟨nb,hnb⟩:∃l,l=lb.length:=⟨_,rfl⟩
 rw [←hnb] at hb hcb hl10 ⊢
 obtain ⟨pp,cap,rfl,_⟩:=hgs.len
 obtain ⟨mm,hmm⟩:∃m,m=gt.l.length:=⟨_,rfl⟩
 rw [←hmm] at hgs ⊢
 have HY0:Hid (Rdy w):=hY
 have HSA0:Hid (SlT (fun b=>b<w.heap.size) w (.slice pa na ca) la):=ha.lt
 have HSB0:Hid (SlT (fun b=>b<w.heap.size) w (.slice pb nb cb) lb):=hb.lt
 have HGS0:Hid (SlT (fun b=>b<w.heap.size) w (.slice pp mm cap) gt.l):=hgs.lt
 have HNA:Hid (∀_:Unit,na=la.length):=fun _=>hna
 have HNB:Hid (∀_:Unit,nb=lb.length):=fun _=>hnb
 have HLA:Hid (na≤maxLen):=by show _≤_;rw [hna];exact hla
 have HLB:Hid (nb≤maxLen):=by show _≤_;rw [hnb];exact hlb
 have hna9:na≤9223372036854775807:=by have:=HLA.out;unfold maxLen at this;omega
 have hnb9:nb≤9223372036854775807:=by have:=HLB.out;unfold maxLen at this;omega
 have tkk:Nat:=0
 have tf1:Nat:=0
 have tf2:Nat:=0
 have tka:Nat:=0
 clear hY ha hb hgs hmm hca hcb hla hlb hna hnb
 have hm:=Mem.start w
 go_enter Tryz.func4,Tryz.ntmps4
 go_wp2_with (first
  | ((with_reducible refine ad (some 6) (.box 24 (.tmp 2)) ?_);go_must (refine aH (tcs gt (.slice pp mm cap)) rfl hm ?_);clear hm;intro w1 g6 hm))
 have HB1:Hid (Below w.heap.size w w1):=hm.below
 have HR6:Hid (Row w1 g6 (tcs gt (.slice pp mm cap)) 24):=hm.get 0 rfl
 have HY:Hid (Rdy w1):=HY0.out.below HB1.out
 have HSA:Hid (SlT (fun b=>b<w1.heap.size) w1 (.slice pa na ca) la):=(HSA0.out.below HB1.out).weak fun b hb=>Nat.lt_of_lt_of_le hb HB1.out.size
 have HSB:Hid (SlT (fun b=>b<w1.heap.size) w1 (.slice pb nb cb) lb):=(HSB0.out.below HB1.out).weak fun b hb=>Nat.lt_of_lt_of_le hb HB1.out.size
 have HGS:Hid (SlT (fun b=>b<w1.heap.size) w1 (.slice pp mm cap) gt.l):=(HGS0.out.below HB1.out).weak fun b hb=>Nat.lt_of_lt_of_le hb HB1.out.size
 clear hm HY0 HSA0 HSB0 HGS0
 have hm:=Mem.start w1
 have HYK:Hid (decide (Kn (la++lb) gt)=true):=hyk
 have HXK:Hid (decide (Kn la gt)=false):=hxk
 have HFA:Hid (Few la∧Few lb∧Few (la++lb)):=⟨hfa,hfb,few_app hfa hfb (by rw [←HNA.out (),←HNB.out ()];exact hl10)⟩
 have HG20:Hid (cnt gt≤20):=hg20
 have HF2:Hid (Few [gt]):=de.2 hg20
 have HF1:Hid (∀W,Below w1.heap.size w1 W→Calls Tryz.prog 10 #[.slice pa na ca] W fun e w'=>e=.returned (.bool true)∧Below W.heap.size W w'):=fun W hW=>aU la pa na ca W true (⟨fun _=>HFA.out.1,fun _=>rfl⟩) (HNA.out ()) HLA.out (HSA.out.below hW)
 have HFB:Hid (∀W,Below w1.heap.size w1 W→Calls Tryz.prog 10 #[.slice pb nb cb] W fun e w'=>e=.returned (.bool true)∧Below W.heap.size W w'):=fun W hW=>aU lb pb nb cb W true (⟨fun _=>HFA.out.2.1,fun _=>rfl⟩) (HNB.out ()) HLB.out (HSB.out.below hW)
 have hab:(na:Int)+(nb:Int)≤10:=by omega
 have hwab:IntKind.i64.wrap ((na:Int)+(nb:Int))=(na:Int)+(nb:Int):=bd _ (by omega) (by omega)
 have hnab:decide ((10:Int)<(na:Int)+(nb:Int))=false:=decide_eq_false (by omega)
 clear hyk hxk hfa hfb hg20
 go_wp2_with (first
  | (clear tkk;go_at_call 9;go_must (refine (aL _ (HY.out.below hm.below)).mono ?_);rintro e wk ⟨he,hb⟩;subst he;replace hm:=hm.call hb;clear hb)
  | (clear tf1;go_at_call 10;go_must (refine (HF1.out _ hm.below).mono ?_);rintro e wf ⟨he,hb⟩;subst he;replace hm:=hm.call hb;clear hb)
  | (clear tf2;go_at_call 10;go_must (refine (HFB.out _ hm.below).mono ?_);rintro e wf ⟨he,hb⟩;subst he;replace hm:=hm.call hb;clear hb)
  | ((with_reducible refine aI (some 34) (.load 24 (.tmp 6)) (some (16,false)) ?_);go_must (refine aa (.agg (tcs gt (.slice pp mm cap)).toArray) rfl (ah 0 (tcs gt (.slice pp mm cap)) (HR6.out.below' hm.below) rfl _ Tryz.underlying24 rfl 3 af (Nat.le_refl _) rfl) ?_))
  | ((with_reducible refine aI (some 35) (.buildSlice 22 1 #[(0,.tmp 34)]) (some (16,false)) ?_);go_must (refine bf gt (.slice pp mm cap) rfl rfl hm ?_);clear hm;intro w35 g35 hb hg hm;have H35:Hid (SlT (fun _=>True) w35 (.slice (some ⟨g35,0,none⟩) 1 1) [gt]):=bP (hm.get 0 rfl) ((HGS.out.below hm.below).weak (fun _ _=>trivial)) trivial;clear hb hg)
  | (go_at_call 10;go_must (refine (aU [gt] (some ⟨g35,0,none⟩) 1 1 _ true (⟨fun _=>HF2.out,fun _=>rfl⟩) rfl (by unfold maxLen;omega) H35.out).mono ?_);rintro e wf3 ⟨he,hb⟩;subst he;replace hm:=(hm.call hb).tail;clear hb)
  | ((with_reducible refine ad (some 40) (.call {callee:=.builtin .append,args:=#[.const (.slice none 0 0),.tmp 39],argTypes:=#[22,22]}) ?_);go_must (refine aw (base:=w1.heap.size) (l2:=la) rfl rfl rfl hm OT.nil (HNA.out ()) (OT.nil.old (base:=w1.heap.size) (fun b hb=>hb) (HSA.out.below hm.below) hm.size) (by simp;omega) (Nat.le_refl _) hm.size aV ?_);intro v40 w40 ho hg hb9 hm5;have HOw40:Hid (OT w1.heap.size w40 v40 ([]++la)):=ho;clear hm ho hg hb9;have hm:=hm5;clear hm5)
  | ((with_reducible refine ad (some 42) (.call {callee:=.builtin .append,args:=#[.tmp 40,.tmp 41],argTypes:=#[22,22]}) ?_);go_must (refine aw (base:=w1.heap.size) (l2:=lb) rfl rfl rfl hm HOw40.out (HNB.out ()) (HOw40.out.old (fun b hb=>hb) (HSB.out.below hm.below) hm.size) (by rw [List.nil_append,←HNA.out ()];omega) (Nat.le_refl _) hm.size aV ?_);intro v42 w42 ho hg hb9 hm5;have HOw42:Hid (OT w1.heap.size w42 v42 ([]++la++lb)):=ho;clear hm ho hg hb9;have hm:=hm5;clear hm5))
 have HO9:Hid (OT w1.heap.size w42 v42 (la++lb)):=HOw42.out
 obtain ⟨p9,c9,hv9,hc9⟩:=HO9.out.len
 obtain ⟨n9,hn9⟩:∃l,l=(la++lb).length:=⟨_,rfl⟩
 rw [←hn9] at hv9 hc9
 subst hv9
 have HN9:Hid (∀_:Unit,n9=(la++lb).length):=fun _=>hn9
 have hn10:n9≤10:=by rw [hn9];exact HFA.out.2.2.1
 have HS9:Hid (SlT (fun b=>b<w42.heap.size) w42 (.slice p9 n9 c9) (la++lb)):=HO9.out.slt
 have HB9:Hid (Below w1.heap.size w1 w42):=hm.below
 have HA9:Hid (SlT (fun b=>b<w1.heap.size) w42 (.slice pa na ca) la):=HSA.out.below hm.below
 have HG9:Hid (SlT (fun b=>b<w1.heap.size) w42 (.slice pp mm cap) gt.l):=HGS.out.below hm.below
 have HR9:Hid (Row w42 g6 (tcs gt (.slice pp mm cap)) 24):=HR6.out.below' hm.below
 have HZ9:Hid (w1.heap.size≤w42.heap.size):=hm.size
 clear hm HR6 HOw42 HO9 HOw40 HSA HSB HGS hn9
 have hm:=Mem.start w42
 refine ay ?_
 refine ao (T:=fun W=>Mem w42 [] W []) (by kernel_rfl) hm ?_
 intro wc hbw hmw
 replace hm:Mem w42 [] wc []:=hmw
 clear hbw hmw
 refine aT 0 (v:=.slice pa na ca) rfl (by kernel_rfl) rfl (fun W _=>by go_simp) hm ?_
 go_simp
 refine aT 1 (v:=.agg (tcs gt (.slice pp mm cap)).toArray) rfl (by kernel_rfl) rfl (fun W hW=>ah 0 (tcs gt (.slice pp mm cap)) (HR9.out.below' hW.below) rfl _ Tryz.underlying24 rfl 3 af (Nat.le_refl _) rfl) hm ?_
 go_simp
 refine aT 3 (v:=.slice p9 n9 c9) rfl (by kernel_rfl) rfl (fun W _=>by go_simp) hm ?_
 go_simp
 refine aT 4 (v:=.agg (tcs gt (.slice pp mm cap)).toArray) rfl (by kernel_rfl) rfl (fun W hW=>ah 0 (tcs gt (.slice pp mm cap)) (HR9.out.below' hW.below) rfl _ Tryz.underlying24 rfl 3 af (Nat.le_refl _) rfl) hm ?_
 go_simp
 refine aO 2 (by kernel_rfl) rfl rfl ?_
 intro K hK
 go_wp2_with (go_at_call 11;refine (aX (gt:=gt) (bl:=la) HXK.out (HA9.out.below hm.below) (HG9.out.below hm.below) (bg (bI HFA.out.1 HG20.out)) (Nat.le_trans HFA.out.1.1 (by omega))).mono ?_;rintro e w45 ⟨he,hb⟩;subst he;replace hm:=hm.call hb;clear hb)
 refine hK _ _ hm ?_
 clear hK K
 go_simp
 refine aO 5 (by kernel_rfl) rfl rfl ?_
 intro K hK
 go_wp2_with (go_at_call 11;refine (aX (gt:=gt) (bl:=la++lb) HYK.out (HS9.out.below hm.below) (HG9.out.below hm.below) (bg (bI HFA.out.2.2 HG20.out)) (Nat.le_trans HFA.out.2.2.1 (by omega))).mono ?_;rintro e w48 ⟨he,hb⟩;subst he;replace hm:=hm.call hb;clear hb)
 refine hK _ _ hm ?_
 clear hK K
 go_simp
 refine aT 6 (v:=.bool false) rfl (by kernel_rfl) rfl (fun W _=>by go_simp) hm ?_
 go_simp
 refine aT 7 (v:=.bool true) rfl (by kernel_rfl) rfl (fun W _=>by go_simp) hm ?_
 go_simp
 refine wpAnyH_done (by kernel_rfl) ?_ _
 simp only [endsIn]
 by_cases h0:n9=0
 ·exfalso
  have h8:la++lb=[]:=List.eq_nil_of_length_eq_zero (by rw [←HN9.out ()];exact h0)
  have h7:Kn (la++lb) gt:=of_decide_eq_true HYK.out
  rw [h8] at h7
  exact der_nil gt h7.2
 ·have hn0:¬((n9:Int)=0):=by omega
  have hnp:0<n9:=by omega
  obtain ⟨k,hk⟩:∃k:Nat,n % (n9:Int)=(k:Int):=⟨(n % (n9:Int)).toNat,by have:=Int.emod_nonneg n (show (n9:Int)≠0 by omega);omega⟩
  have hkn:k≤n9:=by have:=Int.emod_lt_of_pos n (show (0:Int)<(n9:Int) by omega);omega
  have hkc:k≤c9:=by omega
  go_wp2_with fail
  try rw [hk]
  refine ay ?_
  refine ao (T:=fun W=>Mem w42 [] W []) (by kernel_rfl) hm ?_
  intro wc hbw hmw
  replace hm:Mem w42 [] wc []:=hmw
  clear hbw hmw
  refine aT 0 (v:=.slice p9 n9 c9) rfl (by kernel_rfl) rfl (fun W _=>by go_simp) hm ?_
  go_simp
  refine aT 1 (v:=.int .i64 (k:Int)) rfl (by kernel_rfl) rfl (fun W _=>by go_simp) hm ?_
  go_simp
  refine aT 2 (v:=.slice (offA p9 c9 k) (n9 - k) (c9 - k)) rfl (by kernel_rfl) rfl (fun W _=>dF k hkn rfl rfl rfl) hm ?_
  go_simp
  refine aT 4 (v:=.slice p9 n9 c9) rfl (by kernel_rfl) rfl (fun W _=>by go_simp) hm ?_
  go_simp
  refine aT 5 (v:=.int .i64 (k:Int)) rfl (by kernel_rfl) rfl (fun W _=>by go_simp) hm ?_
  go_simp
  refine aT 6 (v:=.slice (cutHi p9 c9) k c9) rfl (by kernel_rfl) rfl (fun W _=>dP k hkc rfl rfl rfl) hm ?_
  go_simp
  refine aO 3 (by kernel_rfl) rfl rfl ?_
  intro K hK
  refine aw (base:=w42.heap.size) (l2:=(la++lb).drop k) rfl rfl rfl hm OT.nil (by rw [List.length_drop,←HN9.out ()]) (OT.nil.old (base:=w42.heap.size) (fun b hb=>hb) ((HS9.out.drop hkn).below hm.below) hm.size) (by simp;omega) (Nat.le_refl _) hm.size aV ?_
  intro v67 w67 ho hg hb9 hm5
  have HOw67:Hid (OT w42.heap.size w67 v67 ([]++(la++lb).drop k)):=ho
  clear hm ho hg hb9
  have hm:=hm5
  clear hm5
  refine wpList_nil ?_
  refine hK _ _ hm ?_
  clear hK K
  go_simp
  refine aO 7 (by kernel_rfl) rfl rfl ?_
  intro K hK
  refine aw (base:=w42.heap.size) (l2:=(la++lb).take k) rfl rfl rfl hm HOw67.out (by rw [List.length_take,←HN9.out (),Nat.min_eq_left hkn]) (HOw67.out.old (fun b hb=>hb) ((HS9.out.take hkn).below hm.below) hm.size) (by rw [List.nil_append,List.length_drop,←HN9.out ()];omega) (Nat.le_refl _) hm.size aV ?_
  intro v71 w71 ho hg hb9 hm5
  have HOw71:Hid (OT w42.heap.size w71 v71 ([]++(la++lb).drop k++(la++lb).take k)):=ho
  clear hm ho hg hb9
  have hm:=hm5
  clear hm5
  refine wpList_nil ?_
  refine hK _ _ hm ?_
  clear hK K
  go_simp
  refine aT 8 (v:=v71) rfl (by kernel_rfl) rfl (fun W _=>by go_simp) hm ?_
  go_simp
  refine wpAnyH_done (by kernel_rfl) ?_ _
  simp only [endsIn]
  have HOT:Hid (OT w42.heap.size w71 v71 (turnL (la++lb) k)):=HOw71.out
  clear HOw71 HOw67
  go_wp2_with fail
  refine ay ?_
  refine ao (T:=fun W=>Mem w42 [] W []) (by kernel_rfl) hm ?_
  intro wc hbw hmw
  replace hm:Mem w42 [] wc []:=hmw
  have HOTC:Hid (OT w42.heap.size wc v71 (turnL (la++lb) k)):=HOT.out.below hbw
  clear hbw hmw HOT
  refine aT 0 (v:=v71) rfl (by kernel_rfl) rfl (fun W _=>by go_simp) hm ?_
  go_simp
  refine aT 1 (v:=.agg (tcs gt (.slice pp mm cap)).toArray) rfl (by kernel_rfl) rfl (fun W hW=>ah 0 (tcs gt (.slice pp mm cap)) (HR9.out.below' hW.below) rfl _ Tryz.underlying24 rfl 3 af (Nat.le_refl _) rfl) hm ?_
  go_simp
  refine aT 3 (v:=.bool true) rfl (by kernel_rfl) rfl (fun W _=>by go_simp) hm ?_
  go_simp
  refine aO 2 (by kernel_rfl) rfl rfl ?_
  intro K hK
  go_wp2_with (go_at_call 11;refine (aX (gt:=gt) (bl:=turnL (la++lb) k) ((decide_eq_decide.2 (kn_turn _ k gt)).trans HYK.out) HOTC.out.slt (HG9.out.below hm.below) (bg (bI (ce HFA.out.2.2 k) HG20.out)) (Nat.le_trans (ce HFA.out.2.2 k).1 (by omega))).mono ?_;rintro e w74 ⟨he,hb⟩;subst he;have HOT74:Hid (OT w42.heap.size w74 v71 (turnL (la++lb) k)):=HOTC.out.below hb;replace hm:=hm.call hb;clear hb)
  refine hK _ _ hm ?_
  clear hK K
  go_simp
  refine aT 4 (v:=.bool false) rfl (by kernel_rfl) rfl (fun W _=>by go_simp) hm ?_
  go_simp
  refine aT 5 (v:=.bool false) rfl (by kernel_rfl) rfl (fun W _=>by go_simp) hm ?_
  go_simp
  refine aG 6 (v:=v71) rfl (by kernel_rfl) rfl (fun W _=>by go_simp) hm ?_
  go_simp
  refine aG 7 (v:=.slice p9 n9 c9) rfl (by kernel_rfl) rfl (fun W _=>by go_simp) hm ?_
  go_simp
  refine aG 9 (v:=.agg (tcs gt (.slice pp mm cap)).toArray) rfl (by kernel_rfl) rfl (fun W hW=>ah 0 (tcs gt (.slice pp mm cap)) (HR9.out.below' hW.below) rfl _ Tryz.underlying24 rfl 3 af (Nat.le_refl _) rfl) hm ?_
  go_simp
  refine aG 11 (v:=.bool true) rfl (by kernel_rfl) rfl (fun W _=>by go_simp) hm ?_
  go_simp
  refine aO 8 (by kernel_rfl) rfl rfl ?_
  intro K hK
  refine aw (base:=w42.heap.size) (l2:=(la++lb)) rfl rfl rfl hm HOT74.out (HN9.out ()) (HOT74.out.old (fun b hb=>hb) (HS9.out.below hm.below) hm.size) (by rw [b9,←HN9.out ()];omega) (Nat.le_refl _) hm.size aV ?_
  intro v80 w80 ho hg hb9 hm5
  have HOw80:Hid (OT w42.heap.size w80 v80 (turnL (la++lb) k++(la++lb))):=ho
  clear hm ho hg hb9
  have hm:=hm5
  clear hm5
  refine wpList_nil ?_
  refine hK _ _ hm ?_
  clear hK K
  go_simp
  refine aO 10 (by kernel_rfl) rfl rfl ?_
  intro K hK
  go_wp2_with (go_at_call 11;refine (aX (gt:=gt) (bl:=turnL (la++lb) k++(la++lb)) ((decide_eq_decide.2 (kn_two _ k gt)).trans HYK.out) HOw80.out.slt (HG9.out.below hm.below) (two_le k HFA.out.2.2 HG20.out) (by rw [List.length_append,b9];have h9:=HFA.out.2.2.1;omega)).mono ?_;rintro e w82 ⟨he,hb⟩;subst he;replace hm:=hm.call hb;clear hb)
  refine hK _ _ hm ?_
  clear hK K
  go_simp
  refine aG 12 (v:=.bool false) rfl (by kernel_rfl) rfl (fun W _=>by go_simp) hm ?_
  go_simp
  refine aT 13 (v:=.bool false) rfl (by kernel_rfl) rfl (fun W _=>by go_simp) hm ?_
  go_simp
  refine wpAnyH_done (by kernel_rfl) ?_ _
  simp only [endsIn]
  go_wp2_with (first
   | (go_at_call 14;go_must (refine (el (la++lb) (.slice p9 n9 c9) _ (HS9.out.below hm.below) (dj HFA.out.2.2) (Nat.le_trans HFA.out.2.2.1 (by omega))).mono ?_);rintro e w87 ⟨v87,he,d,hd,hs87,hb87⟩;obtain ⟨p87,c87,hv87,hcd⟩:=hs87.len;obtain ⟨nd,hnd⟩:∃l,l=d.length:=⟨_,rfl⟩;rw [←hnd] at hv87;subst hv87;subst he;replace hm:=hm.call hb87;have HAD:Hid (AllIs (la++lb) d):=hd;have HND:Hid (∀_:Unit,nd=d.length):=(fun _=>hnd);have HSD:Hid (SlT (fun b=>b<w87.heap.size) w87 (.slice p87 nd c87) d):=hs87.weak (fun b hb=>hb.2);have HB87:Hid (Below w42.heap.size w42 w87):=hm.below;clear hb87 hs87 hcd hd hnd))
  have hnd4:nd≤380:=by have h9:=all_len HAD.out;have h8:=dj HFA.out.2.2;have h7:=HND.out ();omega
  have HS87:Hid (SlT (fun b=>b<w87.heap.size) w87 (.slice p9 n9 c9) (la++lb)):=(HS9.out.below HB87.out).weak fun b hb=>Nat.lt_of_lt_of_le hb HB87.out.size
  have HG87:Hid (SlT (fun b=>b<w1.heap.size) w87 (.slice pp mm cap) gt.l):=HG9.out.below HB87.out
  have HR87:Hid (Row w87 g6 (tcs gt (.slice pp mm cap)) 24):=HR9.out.below' HB87.out
  clear hm
  have hm:=Mem.start w87
  refine ay ?_
  refine ao (T:=fun W=>Mem w87 [] W []) (by kernel_rfl) hm ?_
  intro wc hbw hmw
  replace hm:Mem w87 [] wc []:=hmw
  clear hbw hmw
  refine aT 0 (v:=.slice p9 n9 c9) rfl (by kernel_rfl) rfl (fun W _=>by go_simp) hm ?_
  go_simp
  refine aT 2 (v:=.slice p87 nd c87) rfl (by kernel_rfl) rfl (fun W _=>by go_simp) hm ?_
  go_simp
  refine aT 4 (v:=.agg (tcs gt (.slice pp mm cap)).toArray) rfl (by kernel_rfl) rfl (fun W hW=>ah 0 (tcs gt (.slice pp mm cap)) (HR87.out.below' hW.below) rfl _ Tryz.underlying24 rfl 3 af (Nat.le_refl _) rfl) hm ?_
  go_simp
  refine aT 6 (v:=.bool true) rfl (by kernel_rfl) rfl (fun W _=>by go_simp) hm ?_
  go_simp
  refine aO 1 (by kernel_rfl) rfl rfl ?_
  intro K hK
  refine aw (base:=w87.heap.size) (l2:=(la++lb)) rfl rfl rfl hm OT.nil (HN9.out ()) (OT.nil.old (base:=w87.heap.size) (fun b hb=>hb) (HS87.out.below hm.below) hm.size) (by simp;omega) (Nat.le_refl _) hm.size aV ?_
  intro v89 w89 ho hg hb9 hm5
  have HOw89:Hid (OT w87.heap.size w89 v89 ([]++(la++lb))):=ho
  clear hm ho hg hb9
  have hm:=hm5
  clear hm5
  refine wpList_nil ?_
  refine hK _ _ hm ?_
  clear hK K
  go_simp
  refine aO 3 (by kernel_rfl) rfl rfl ?_
  intro K hK
  refine aw (base:=w87.heap.size) (l2:=d) rfl rfl rfl hm HOw89.out (HND.out ()) (HOw89.out.old (fun b hb=>hb) (HSD.out.below hm.below) hm.size) (by rw [List.nil_append,←HN9.out ()];omega) (Nat.le_refl _) hm.size aV ?_
  intro v91 w91 ho hg hb9 hm5
  have HOw91:Hid (OT w87.heap.size w91 v91 ([]++(la++lb)++d)):=ho
  clear hm ho hg hb9
  have hm:=hm5
  clear hm5
  refine wpList_nil ?_
  refine hK _ _ hm ?_
  clear hK K
  go_simp
  refine aO 5 (by kernel_rfl) rfl rfl ?_
  intro K hK
  go_wp2_with (go_at_call 11;refine (aX (gt:=gt) (bl:=la++lb++d) ((decide_eq_decide.2 (kn_all HAD.out gt)).trans HYK.out) HOw91.out.slt (HG87.out.below hm.below) (alld_le HFA.out.2.2 HAD.out HG20.out) (by rw [List.length_append,←HN9.out (),←HND.out ()];omega)).mono ?_;rintro e w93 ⟨he,hb⟩;subst he;replace hm:=hm.call hb;clear hb)
  refine hK _ _ hm ?_
  clear hK K
  go_simp
  refine aT 7 (v:=.bool true) rfl (by kernel_rfl) rfl (fun W _=>by go_simp) hm ?_
  go_simp
  refine aT 8 (v:=.bool true) rfl (by kernel_rfl) rfl (fun W _=>by go_simp) hm ?_
  go_simp
  refine wpAnyH_done (by kernel_rfl) ?_ _
  simp only [endsIn]
  go_wp2_with fail
  go_ret
  exact ⟨rfl,HB1.out.trans ((HB9.out.trans ((HB87.out.trans (hm.below.mono HB87.out.size)).mono HB9.out.size)).mono HB1.out.size)⟩
end Go.Proofs.YtcibhfcjbokdlaaGreatDoor
