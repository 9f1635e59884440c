import Derived.Test.YtcibhfcjbokdlaaGreatDoorQt04
set_option maxRecDepth 100000
set_option maxHeartbeats 4000000
namespace Go.Proofs.YtcibhfcjbokdlaaGreatDoor
open Go Go.RowKit Go.Maps Classical
def NumsOf (T:List Tm) (ql:List Nat) (l:List Tm):Prop:=ql.length=l.length∧∀(j q:Nat),ql[j]?=some q→∃x,l[j]?=some x∧T[q]?=some x
theorem NumsOf.nil (T:List Tm):NumsOf T [] []:=⟨rfl,fun j q h=>by simp at h⟩
def SlN (w:World) (v:Value) (ql:List Nat):Prop:=SlV 1 w v ql.length (nums ql)
theorem SlN.nil (w:World):SlN w (.slice none 0 0) []:=⟨none,0,rfl,Nat.le_refl _,rfl,fun h=>absurd h (by simp)⟩
theorem SlN.below {w w':World} {v:Value} {ql:List Nat} (h:SlN w v ql) (hb:Below w.heap.size w w'):SlN w' v ql:=SlV.below h hb
/-- The numbers of a list of kids, all in the web. -/
theorem nums_of {T:List Tm} {l:List Tm} (h:∀x∈l,x∈T):∃ql,NumsOf T ql l:=by
 induction l with
 | nil=>exact ⟨[],NumsOf.nil T⟩
 | cons x l ih =>
  obtain ⟨ql,h1,h2⟩:=ih (fun y hy=>h y (List.mem_cons_of_mem _ hy))
  obtain ⟨q,hq,he⟩:=List.getElem_of_mem (h x (List.mem_cons_self ..))
  refine ⟨q::ql,by simp [h1],fun j r hj=>?_⟩
  cases j with
  | zero =>
   simp only [List.getElem?_cons_zero,Option.some.injEq] at hj
   subst hj
   exact ⟨x,rfl,by rw [List.getElem?_eq_getElem hq,he]⟩
  | succ j=>exact h2 j r (by simpa using hj)
/-- The numbers that stand in a shape. -/
theorem WebR.kidsN {w:World} {g:Nat} {T:List Tm} {AR:Nat→Option Addr×Nat×List Nat} {m bs cs ba ca i:Nat} {t:Tm} (h:WebR w g T AR m bs cs ba ca) (hn:T.Nodup) (ht:T[i]?=some t):∃ql,NumsOf T ql t.l∧SlN w (.slice (some ⟨bs,i * 5+3,none⟩) t.l.length 2) ql∧∀(j q:Nat),ql[j]?=some q→w.cell? ⟨bs,i * 5+3+j,none⟩=some (.int .i64 (q:Int)):=by
 obtain ⟨_,_,_,a4,a5⟩:=h.sh i t ht
 obtain ⟨ql,h1,h2⟩:=nums_of (T:=T) (l:=t.l) (fun x hx=>by
  obtain ⟨j,hj,he⟩:=List.getElem_of_mem hx
  obtain ⟨q,h1,_⟩:=a5 j x (by rw [List.getElem?_eq_getElem hj,he])
  exact List.mem_of_getElem? h1)
 have hc:∀(j q:Nat),ql[j]?=some q→w.cell? ⟨bs,i * 5+3+j,none⟩=some (.int .i64 (q:Int)):=fun j q hj=>by
  obtain ⟨x,hx,hq⟩:=h2 j q hj
  obtain ⟨q',hq',hcell⟩:=a5 j x hx
  obtain ⟨l1,e1⟩:=List.getElem?_eq_some_iff.1 hq
  obtain ⟨l2,e2⟩:=List.getElem?_eq_some_iff.1 hq'
  have:q=q':=by
   rcases Nat.lt_trichotomy q q' with hlt|rfl|hlt
   ·exact absurd (e1.trans e2.symm) ((List.pairwise_iff_getElem.1 hn) q q' l1 l2 hlt)
   ·rfl
   ·exact absurd (e2.trans e1.symm) ((List.pairwise_iff_getElem.1 hn) q' q l2 l1 hlt)
  rw [this]
  exact hcell
 refine ⟨ql,⟨h1,h2⟩,⟨_,2,by rw [h1],by rw [h1];exact a4,by rw [aL];omega,fun _=>⟨bs,i * 5+3,rfl,fun j u hu=>?_⟩⟩,hc⟩
 cases hq:ql[j]? with
 | none=>simp [nums,hq] at hu
 | some q =>
  rw [dk hq] at hu
  rw [←Option.some.inj hu]
  exact hc j q hq
theorem apart_no (w:World) (dg mk g i n:Nat) (T R:List Tm) (AR:Nat→Option Addr×Nat×List Nat) (m bs cs ba ca:Nat) (t:Tm) (tk:Int) (b0:Bool) (hw:WebR w g T AR m bs cs ba ca) (hd:DerR w dg mk g T R) (hi:i≤100000) (ht:T[i]?=some t) (hn:n=t.l.length) (hk:tk=t.k) (h0:b0=true↔t∈R) (hb0:b0=false) :
  Calls Tryz.prog 43 #[.pointer (some ⟨dg,0,none⟩),.int .i64 (i:Int)] w fun e w'=>e=.returned (.slice none 0 0)∧Below w.heap.size w w':=by
 have hm:=Mem.start w
 have hlt:i<T.length:=(List.getElem?_eq_some_iff.1 ht).1
 obtain ⟨L,hL⟩:∃L,L=T.length:=⟨_,rfl⟩
 have hr:=hw.row
 obtain ⟨a1,_,_,a4,_⟩:=hw.sh i t ht
 obtain ⟨vr,hrd⟩:=hd.row
 rw [←hL] at hlt hr
 rw [←hk] at a1
 have HR:Hid (Row w dg [.pointer (some ⟨g,0,none⟩),.map (some mk),vr] 52):=hrd
 have HRW:Hid (Row w g [.map (some m),.slice (some ⟨bs,0,none⟩) L cs,.slice (some ⟨ba,0,none⟩) L ca] 62):=hr
 have HLT:Hid (i<L):=hlt
 have HK:Hid (∀W,Below w.heap.size w W→W.cell? ⟨bs,i * 5,none⟩=some (.int .i64 tk)):=fun W hW=>(hW.cell (p:=⟨bs,_,none⟩) (block_lt_of_cell a1)).trans a1
 have HKD:Hid (∀W,Below w.heap.size w W→Calls Tryz.prog 55 #[.pointer (some ⟨g,0,none⟩),.int .i64 (i:Int)] W fun e w'=>e=.returned (.slice (some ⟨bs,i * 5+3,none⟩) n 2)∧Below W.heap.size W w'):=fun W hW=>by have h:=cH W g i T AR m bs cs ba ca t (hw.below hW) ht;rw [←hn] at h;exact h
 have HH1:Hid (∀W,Below w.heap.size w W→Calls Tryz.prog 29 #[.pointer (some ⟨dg,0,none⟩),.int .i64 (i:Int)] W fun e w'=>e=.returned (.bool b0)∧Below W.heap.size W w'):=fun W hW=>bc W dg mk g i T R t b0 (hd.below hW) hi ht h0
 subst hb0
 clear hw hd ht hn hk h0 hL hr a1 a4 hrd hlt
 go_enter Tryz.func43,Tryz.ntmps43
 go_wp2_with (first
  | (go_at_call 29;refine (HH1.out _ hm.below).mono ?_;rintro e w1 ⟨he,hb⟩;subst he;replace hm:=hm.call hb;clear hb)
  | ((with_reducible refine af (some 13) (.load 39 (.tmp 12)) ?_);go_must (refine aa (.pointer (some ⟨g,0,none⟩)) rfl (ad (.pointer (some ⟨g,0,none⟩)) ((HR.out.below' hm.below).cell 0) rfl bD) ?_))
  | (go_at_call 55;go_must (refine (HKD.out _ hm.below).mono ?_);rintro e w2 ⟨he,hb⟩;subst he;replace hm:=hm.call hb;clear hb)
  | ((with_reducible refine af (some 19) (.load 39 (.tmp 18)) ?_);go_must (refine aa (.pointer (some ⟨g,0,none⟩)) rfl (ad (.pointer (some ⟨g,0,none⟩)) ((HR.out.below' hm.below).cell 0) rfl bD) ?_))
  | ((with_reducible refine af (some 22) (.load 59 (.tmp 21)) ?_);go_must (refine aa (.slice (some ⟨bs,0,none⟩) L cs) rfl (ad (.slice (some ⟨bs,0,none⟩) L cs) ((HRW.out.below' hm.below).cell 1) rfl bw) ?_))
  | ((with_reducible refine af (some 24) (.indexAddr 59 (.tmp 22) (.tmp 23)) ?_);go_must (refine aa (.pointer (some ⟨bs,i * 5,none⟩)) rfl (bS i rfl rfl rfl HLT.out) ?_))
  | ((with_reducible refine af (some 26) (.load 3 (.tmp 25)) ?_);go_must (refine aa (.int .i64 tk) rfl (ad (.int .i64 tk) (HK.out _ hm.below) rfl ag) ?_))
  | ((with_reducible refine af (some 34) (.indexAddr 41 (.tmp 33) (.const (.int .i64 0))) ?_);go_must (refine aa (.pointer (some ⟨bs,i * 5+3+0,none⟩)) rfl (a8 0 rfl rfl rfl HN0.out) ?_))
  | ((with_reducible refine af (some 35) (.load 3 (.tmp 34)) ?_);go_must (refine aa (.int .i64 (q0:Int)) rfl (ad (.int .i64 (q0:Int)) (HQ0.out _ hm.below) rfl ag) ?_))
  | ((with_reducible refine af (some 38) (.slice 41 (.tmp 37) (some (.const (.int .i64 1))) none none) ?_);go_must (refine aa (.slice (cutLo (some ⟨bs,i * 5+3,none⟩) 2 1) (n - 1) (2 - 1)) rfl (cd aU bB 1 HN0.out rfl rfl rfl) ?_)))
 go_ret
 exact ⟨rfl,hm.below⟩
theorem apart_pair (w:World) (dg mk g i n:Nat) (T R:List Tm) (AR:Nat→Option Addr×Nat×List Nat) (m bs cs ba ca:Nat) (t:Tm) (tk:Int) (b0:Bool) (hw:WebR w g T AR m bs cs ba ca) (hd:DerR w dg mk g T R) (hi:i≤100000) (ht:T[i]?=some t) (hn:n=t.l.length) (hk:tk=t.k) (h0:b0=true↔t∈R) (hb0:b0=true) (h4:tk=4) :
  Calls Tryz.prog 43 #[.pointer (some ⟨dg,0,none⟩),.int .i64 (i:Int)] w fun e w'=>e=.returned (.slice (some ⟨bs,i * 5+3,none⟩) n 2)∧Below w.heap.size w w':=by
 have hm:=Mem.start w
 have hlt:i<T.length:=(List.getElem?_eq_some_iff.1 ht).1
 obtain ⟨L,hL⟩:∃L,L=T.length:=⟨_,rfl⟩
 have hr:=hw.row
 obtain ⟨a1,_,_,a4,_⟩:=hw.sh i t ht
 obtain ⟨vr,hrd⟩:=hd.row
 rw [←hL] at hlt hr
 rw [←hk] at a1
 have HR:Hid (Row w dg [.pointer (some ⟨g,0,none⟩),.map (some mk),vr] 52):=hrd
 have HRW:Hid (Row w g [.map (some m),.slice (some ⟨bs,0,none⟩) L cs,.slice (some ⟨ba,0,none⟩) L ca] 62):=hr
 have HLT:Hid (i<L):=hlt
 have HK:Hid (∀W,Below w.heap.size w W→W.cell? ⟨bs,i * 5,none⟩=some (.int .i64 tk)):=fun W hW=>(hW.cell (p:=⟨bs,_,none⟩) (block_lt_of_cell a1)).trans a1
 have HKD:Hid (∀W,Below w.heap.size w W→Calls Tryz.prog 55 #[.pointer (some ⟨g,0,none⟩),.int .i64 (i:Int)] W fun e w'=>e=.returned (.slice (some ⟨bs,i * 5+3,none⟩) n 2)∧Below W.heap.size W w'):=fun W hW=>by have h:=cH W g i T AR m bs cs ba ca t (hw.below hW) ht;rw [←hn] at h;exact h
 have HH1:Hid (∀W,Below w.heap.size w W→Calls Tryz.prog 29 #[.pointer (some ⟨dg,0,none⟩),.int .i64 (i:Int)] W fun e w'=>e=.returned (.bool b0)∧Below W.heap.size W w'):=fun W hW=>bc W dg mk g i T R t b0 (hd.below hW) hi ht h0
 subst hb0
 have e4:(tk==4)=true:=dX _ _ h4
 clear hw hd ht hn hk h0 hL hr a1 a4 hrd hlt h4
 go_enter Tryz.func43,Tryz.ntmps43
 go_wp2_with (first
  | (go_at_call 29;refine (HH1.out _ hm.below).mono ?_;rintro e w1 ⟨he,hb⟩;subst he;replace hm:=hm.call hb;clear hb)
  | ((with_reducible refine af (some 13) (.load 39 (.tmp 12)) ?_);go_must (refine aa (.pointer (some ⟨g,0,none⟩)) rfl (ad (.pointer (some ⟨g,0,none⟩)) ((HR.out.below' hm.below).cell 0) rfl bD) ?_))
  | (go_at_call 55;go_must (refine (HKD.out _ hm.below).mono ?_);rintro e w2 ⟨he,hb⟩;subst he;replace hm:=hm.call hb;clear hb)
  | ((with_reducible refine af (some 19) (.load 39 (.tmp 18)) ?_);go_must (refine aa (.pointer (some ⟨g,0,none⟩)) rfl (ad (.pointer (some ⟨g,0,none⟩)) ((HR.out.below' hm.below).cell 0) rfl bD) ?_))
  | ((with_reducible refine af (some 22) (.load 59 (.tmp 21)) ?_);go_must (refine aa (.slice (some ⟨bs,0,none⟩) L cs) rfl (ad (.slice (some ⟨bs,0,none⟩) L cs) ((HRW.out.below' hm.below).cell 1) rfl bw) ?_))
  | ((with_reducible refine af (some 24) (.indexAddr 59 (.tmp 22) (.tmp 23)) ?_);go_must (refine aa (.pointer (some ⟨bs,i * 5,none⟩)) rfl (bS i rfl rfl rfl HLT.out) ?_))
  | ((with_reducible refine af (some 26) (.load 3 (.tmp 25)) ?_);go_must (refine aa (.int .i64 tk) rfl (ad (.int .i64 tk) (HK.out _ hm.below) rfl ag) ?_))
  | ((with_reducible refine af (some 34) (.indexAddr 41 (.tmp 33) (.const (.int .i64 0))) ?_);go_must (refine aa (.pointer (some ⟨bs,i * 5+3+0,none⟩)) rfl (a8 0 rfl rfl rfl HN0.out) ?_))
  | ((with_reducible refine af (some 35) (.load 3 (.tmp 34)) ?_);go_must (refine aa (.int .i64 (q0:Int)) rfl (ad (.int .i64 (q0:Int)) (HQ0.out _ hm.below) rfl ag) ?_))
  | ((with_reducible refine af (some 38) (.slice 41 (.tmp 37) (some (.const (.int .i64 1))) none none) ?_);go_must (refine aa (.slice (cutLo (some ⟨bs,i * 5+3,none⟩) 2 1) (n - 1) (2 - 1)) rfl (cd aU bB 1 HN0.out rfl rfl rfl) ?_)))
 go_ret
 exact ⟨rfl,hm.below⟩
theorem apart_oth (w:World) (dg mk g i n:Nat) (T R:List Tm) (AR:Nat→Option Addr×Nat×List Nat) (m bs cs ba ca:Nat) (t:Tm) (tk:Int) (b0:Bool) (hw:WebR w g T AR m bs cs ba ca) (hd:DerR w dg mk g T R) (hi:i≤100000) (ht:T[i]?=some t) (hn:n=t.l.length) (hk:tk=t.k) (h0:b0=true↔t∈R) (hb0:b0=true) (h4:tk≠4) (h3:tk≠3) :
  Calls Tryz.prog 43 #[.pointer (some ⟨dg,0,none⟩),.int .i64 (i:Int)] w fun e w'=>e=.returned (.slice none 0 0)∧Below w.heap.size w w':=by
 have hm:=Mem.start w
 have hlt:i<T.length:=(List.getElem?_eq_some_iff.1 ht).1
 obtain ⟨L,hL⟩:∃L,L=T.length:=⟨_,rfl⟩
 have hr:=hw.row
 obtain ⟨a1,_,_,a4,_⟩:=hw.sh i t ht
 obtain ⟨vr,hrd⟩:=hd.row
 rw [←hL] at hlt hr
 rw [←hk] at a1
 have HR:Hid (Row w dg [.pointer (some ⟨g,0,none⟩),.map (some mk),vr] 52):=hrd
 have HRW:Hid (Row w g [.map (some m),.slice (some ⟨bs,0,none⟩) L cs,.slice (some ⟨ba,0,none⟩) L ca] 62):=hr
 have HLT:Hid (i<L):=hlt
 have HK:Hid (∀W,Below w.heap.size w W→W.cell? ⟨bs,i * 5,none⟩=some (.int .i64 tk)):=fun W hW=>(hW.cell (p:=⟨bs,_,none⟩) (block_lt_of_cell a1)).trans a1
 have HKD:Hid (∀W,Below w.heap.size w W→Calls Tryz.prog 55 #[.pointer (some ⟨g,0,none⟩),.int .i64 (i:Int)] W fun e w'=>e=.returned (.slice (some ⟨bs,i * 5+3,none⟩) n 2)∧Below W.heap.size W w'):=fun W hW=>by have h:=cH W g i T AR m bs cs ba ca t (hw.below hW) ht;rw [←hn] at h;exact h
 have HH1:Hid (∀W,Below w.heap.size w W→Calls Tryz.prog 29 #[.pointer (some ⟨dg,0,none⟩),.int .i64 (i:Int)] W fun e w'=>e=.returned (.bool b0)∧Below W.heap.size W w'):=fun W hW=>bc W dg mk g i T R t b0 (hd.below hW) hi ht h0
 subst hb0
 have e4:(tk==4)=false:=aD _ _ h4
 have e3:(tk==3)=false:=aD _ _ h3
 clear hw hd ht hn hk h0 hL hr a1 a4 hrd hlt h4 h3
 go_enter Tryz.func43,Tryz.ntmps43
 go_wp2_with (first
  | (go_at_call 29;refine (HH1.out _ hm.below).mono ?_;rintro e w1 ⟨he,hb⟩;subst he;replace hm:=hm.call hb;clear hb)
  | ((with_reducible refine af (some 13) (.load 39 (.tmp 12)) ?_);go_must (refine aa (.pointer (some ⟨g,0,none⟩)) rfl (ad (.pointer (some ⟨g,0,none⟩)) ((HR.out.below' hm.below).cell 0) rfl bD) ?_))
  | (go_at_call 55;go_must (refine (HKD.out _ hm.below).mono ?_);rintro e w2 ⟨he,hb⟩;subst he;replace hm:=hm.call hb;clear hb)
  | ((with_reducible refine af (some 19) (.load 39 (.tmp 18)) ?_);go_must (refine aa (.pointer (some ⟨g,0,none⟩)) rfl (ad (.pointer (some ⟨g,0,none⟩)) ((HR.out.below' hm.below).cell 0) rfl bD) ?_))
  | ((with_reducible refine af (some 22) (.load 59 (.tmp 21)) ?_);go_must (refine aa (.slice (some ⟨bs,0,none⟩) L cs) rfl (ad (.slice (some ⟨bs,0,none⟩) L cs) ((HRW.out.below' hm.below).cell 1) rfl bw) ?_))
  | ((with_reducible refine af (some 24) (.indexAddr 59 (.tmp 22) (.tmp 23)) ?_);go_must (refine aa (.pointer (some ⟨bs,i * 5,none⟩)) rfl (bS i rfl rfl rfl HLT.out) ?_))
  | ((with_reducible refine af (some 26) (.load 3 (.tmp 25)) ?_);go_must (refine aa (.int .i64 tk) rfl (ad (.int .i64 tk) (HK.out _ hm.below) rfl ag) ?_))
  | ((with_reducible refine af (some 34) (.indexAddr 41 (.tmp 33) (.const (.int .i64 0))) ?_);go_must (refine aa (.pointer (some ⟨bs,i * 5+3+0,none⟩)) rfl (a8 0 rfl rfl rfl HN0.out) ?_))
  | ((with_reducible refine af (some 35) (.load 3 (.tmp 34)) ?_);go_must (refine aa (.int .i64 (q0:Int)) rfl (ad (.int .i64 (q0:Int)) (HQ0.out _ hm.below) rfl ag) ?_))
  | ((with_reducible refine af (some 38) (.slice 41 (.tmp 37) (some (.const (.int .i64 1))) none none) ?_);go_must (refine aa (.slice (cutLo (some ⟨bs,i * 5+3,none⟩) 2 1) (n - 1) (2 - 1)) rfl (cd aU bB 1 HN0.out rfl rfl rfl) ?_)))
 go_ret
 exact ⟨rfl,hm.below⟩
theorem apart_open (w:World) (dg mk g i n q0:Nat) (T R:List Tm) (AR:Nat→Option Addr×Nat×List Nat) (m bs cs ba ca:Nat) (t:Tm) (tk:Int) (b0:Bool) (hw:WebR w g T AR m bs cs ba ca) (hd:DerR w dg mk g T R) (hi:i≤100000) (ht:T[i]?=some t) (hn:n=t.l.length) (hk:tk=t.k) (h0:b0=true↔t∈R) (hb0:b0=true) (h3:tk=3) (x:Tm) (h1:0<n) (hq:q0≤100000) (hx:T[q0]?=some x) (hc:w.cell? ⟨bs,i * 5+3,none⟩=some (.int .i64 (q0:Int))) (hxr:true=true↔x∈R) :
  Calls Tryz.prog 43 #[.pointer (some ⟨dg,0,none⟩),.int .i64 (i:Int)] w fun e w'=>e=.returned (.slice (cutLo (some ⟨bs,i * 5+3,none⟩) 2 1) (n - 1) (2 - 1))∧Below w.heap.size w w':=by
 have hm:=Mem.start w
 have hlt:i<T.length:=(List.getElem?_eq_some_iff.1 ht).1
 obtain ⟨L,hL⟩:∃L,L=T.length:=⟨_,rfl⟩
 have hr:=hw.row
 obtain ⟨a1,_,_,a4,_⟩:=hw.sh i t ht
 obtain ⟨vr,hrd⟩:=hd.row
 rw [←hL] at hlt hr
 rw [←hk] at a1
 have HR:Hid (Row w dg [.pointer (some ⟨g,0,none⟩),.map (some mk),vr] 52):=hrd
 have HRW:Hid (Row w g [.map (some m),.slice (some ⟨bs,0,none⟩) L cs,.slice (some ⟨ba,0,none⟩) L ca] 62):=hr
 have HLT:Hid (i<L):=hlt
 have HK:Hid (∀W,Below w.heap.size w W→W.cell? ⟨bs,i * 5,none⟩=some (.int .i64 tk)):=fun W hW=>(hW.cell (p:=⟨bs,_,none⟩) (block_lt_of_cell a1)).trans a1
 have HKD:Hid (∀W,Below w.heap.size w W→Calls Tryz.prog 55 #[.pointer (some ⟨g,0,none⟩),.int .i64 (i:Int)] W fun e w'=>e=.returned (.slice (some ⟨bs,i * 5+3,none⟩) n 2)∧Below W.heap.size W w'):=fun W hW=>by have h:=cH W g i T AR m bs cs ba ca t (hw.below hW) ht;rw [←hn] at h;exact h
 have HH1:Hid (∀W,Below w.heap.size w W→Calls Tryz.prog 29 #[.pointer (some ⟨dg,0,none⟩),.int .i64 (i:Int)] W fun e w'=>e=.returned (.bool b0)∧Below W.heap.size W w'):=fun W hW=>bc W dg mk g i T R t b0 (hd.below hW) hi ht h0
 subst hb0
 have e4:(tk==4)=false:=aD _ _ (by omega)
 have e3:(tk==3)=true:=dX _ _ h3
 have HN0:Hid (0<n):=h1
 have HQ0:Hid (∀W,Below w.heap.size w W→W.cell? ⟨bs,i * 5+3+0,none⟩=some (.int .i64 (q0:Int))):=fun W hW=>(hW.cell (p:=⟨bs,_,none⟩) (block_lt_of_cell hc)).trans hc
 have HH2:Hid (∀W,Below w.heap.size w W→Calls Tryz.prog 29 #[.pointer (some ⟨dg,0,none⟩),.int .i64 (q0:Int)] W fun e w'=>e=.returned (.bool true)∧Below W.heap.size W w'):=fun W hW=>bc W dg mk g q0 T R x true (hd.below hW) hq hx hxr
 have T1:Hid True:=trivial
 have T2:Hid True:=trivial
 clear hw hd ht hn hk h0 hL hr a1 a4 hrd hlt h3 h1 hq hx hc hxr
 go_enter Tryz.func43,Tryz.ntmps43
 go_wp2_with (first
  | (go_at_call 29;clear T1;refine (HH1.out _ hm.below).mono ?_;rintro e w1 ⟨he,hb⟩;subst he;replace hm:=hm.call hb;clear hb)
  | (go_at_call 29;clear T2;refine (HH2.out _ hm.below).mono ?_;rintro e w9 ⟨he,hb⟩;subst he;replace hm:=hm.call hb;clear hb)
  | ((with_reducible refine af (some 13) (.load 39 (.tmp 12)) ?_);go_must (refine aa (.pointer (some ⟨g,0,none⟩)) rfl (ad (.pointer (some ⟨g,0,none⟩)) ((HR.out.below' hm.below).cell 0) rfl bD) ?_))
  | (go_at_call 55;go_must (refine (HKD.out _ hm.below).mono ?_);rintro e w2 ⟨he,hb⟩;subst he;replace hm:=hm.call hb;clear hb)
  | ((with_reducible refine af (some 19) (.load 39 (.tmp 18)) ?_);go_must (refine aa (.pointer (some ⟨g,0,none⟩)) rfl (ad (.pointer (some ⟨g,0,none⟩)) ((HR.out.below' hm.below).cell 0) rfl bD) ?_))
  | ((with_reducible refine af (some 22) (.load 59 (.tmp 21)) ?_);go_must (refine aa (.slice (some ⟨bs,0,none⟩) L cs) rfl (ad (.slice (some ⟨bs,0,none⟩) L cs) ((HRW.out.below' hm.below).cell 1) rfl bw) ?_))
  | ((with_reducible refine af (some 24) (.indexAddr 59 (.tmp 22) (.tmp 23)) ?_);go_must (refine aa (.pointer (some ⟨bs,i * 5,none⟩)) rfl (bS i rfl rfl rfl HLT.out) ?_))
  | ((with_reducible refine af (some 26) (.load 3 (.tmp 25)) ?_);go_must (refine aa (.int .i64 tk) rfl (ad (.int .i64 tk) (HK.out _ hm.below) rfl ag) ?_))
  | ((with_reducible refine af (some 34) (.indexAddr 41 (.tmp 33) (.const (.int .i64 0))) ?_);go_must (refine aa (.pointer (some ⟨bs,i * 5+3+0,none⟩)) rfl (a8 0 rfl rfl rfl HN0.out) ?_))
  | ((with_reducible refine af (some 35) (.load 3 (.tmp 34)) ?_);go_must (refine aa (.int .i64 (q0:Int)) rfl (ad (.int .i64 (q0:Int)) (HQ0.out _ hm.below) rfl ag) ?_))
  | ((with_reducible refine af (some 38) (.slice 41 (.tmp 37) (some (.const (.int .i64 1))) none none) ?_);go_must (refine aa (.slice (cutLo (some ⟨bs,i * 5+3,none⟩) 2 1) (n - 1) (2 - 1)) rfl (cd aU bB 1 HN0.out rfl rfl rfl) ?_)))
 go_ret
 exact ⟨rfl,hm.below⟩
theorem apart_shut (w:World) (dg mk g i n q0:Nat) (T R:List Tm) (AR:Nat→Option Addr×Nat×List Nat) (m bs cs ba ca:Nat) (t:Tm) (tk:Int) (b0:Bool) (hw:WebR w g T AR m bs cs ba ca) (hd:DerR w dg mk g T R) (hi:i≤100000) (ht:T[i]?=some t) (hn:n=t.l.length) (hk:tk=t.k) (h0:b0=true↔t∈R) (hb0:b0=true) (h3:tk=3) (x:Tm) (h1:0<n) (hq:q0≤100000) (hx:T[q0]?=some x) (hc:w.cell? ⟨bs,i * 5+3,none⟩=some (.int .i64 (q0:Int))) (hxr:false=true↔x∈R) :
  Calls Tryz.prog 43 #[.pointer (some ⟨dg,0,none⟩),.int .i64 (i:Int)] w fun e w'=>e=.returned (.slice none 0 0)∧Below w.heap.size w w':=by
 have hm:=Mem.start w
 have hlt:i<T.length:=(List.getElem?_eq_some_iff.1 ht).1
 obtain ⟨L,hL⟩:∃L,L=T.length:=⟨_,rfl⟩
 have hr:=hw.row
 obtain ⟨a1,_,_,a4,_⟩:=hw.sh i t ht
 obtain ⟨vr,hrd⟩:=hd.row
 rw [←hL] at hlt hr
 rw [←hk] at a1
 have HR:Hid (Row w dg [.pointer (some ⟨g,0,none⟩),.map (some mk),vr] 52):=hrd
 have HRW:Hid (Row w g [.map (some m),.slice (some ⟨bs,0,none⟩) L cs,.slice (some ⟨ba,0,none⟩) L ca] 62):=hr
 have HLT:Hid (i<L):=hlt
 have HK:Hid (∀W,Below w.heap.size w W→W.cell? ⟨bs,i * 5,none⟩=some (.int .i64 tk)):=fun W hW=>(hW.cell (p:=⟨bs,_,none⟩) (block_lt_of_cell a1)).trans a1
 have HKD:Hid (∀W,Below w.heap.size w W→Calls Tryz.prog 55 #[.pointer (some ⟨g,0,none⟩),.int .i64 (i:Int)] W fun e w'=>e=.returned (.slice (some ⟨bs,i * 5+3,none⟩) n 2)∧Below W.heap.size W w'):=fun W hW=>by have h:=cH W g i T AR m bs cs ba ca t (hw.below hW) ht;rw [←hn] at h;exact h
 have HH1:Hid (∀W,Below w.heap.size w W→Calls Tryz.prog 29 #[.pointer (some ⟨dg,0,none⟩),.int .i64 (i:Int)] W fun e w'=>e=.returned (.bool b0)∧Below W.heap.size W w'):=fun W hW=>bc W dg mk g i T R t b0 (hd.below hW) hi ht h0
 subst hb0
 have e4:(tk==4)=false:=aD _ _ (by omega)
 have e3:(tk==3)=true:=dX _ _ h3
 have HN0:Hid (0<n):=h1
 have HQ0:Hid (∀W,Below w.heap.size w W→W.cell? ⟨bs,i * 5+3+0,none⟩=some (.int .i64 (q0:Int))):=fun W hW=>(hW.cell (p:=⟨bs,_,none⟩) (block_lt_of_cell hc)).trans hc
 have HH2:Hid (∀W,Below w.heap.size w W→Calls Tryz.prog 29 #[.pointer (some ⟨dg,0,none⟩),.int .i64 (q0:Int)] W fun e w'=>e=.returned (.bool false)∧Below W.heap.size W w'):=fun W hW=>bc W dg mk g q0 T R x false (hd.below hW) hq hx hxr
 have T1:Hid True:=trivial
 have T2:Hid True:=trivial
 clear hw hd ht hn hk h0 hL hr a1 a4 hrd hlt h3 h1 hq hx hc hxr
 go_enter Tryz.func43,Tryz.ntmps43
 go_wp2_with (first
  | (go_at_call 29;clear T1;refine (HH1.out _ hm.below).mono ?_;rintro e w1 ⟨he,hb⟩;subst he;replace hm:=hm.call hb;clear hb)
  | (go_at_call 29;clear T2;refine (HH2.out _ hm.below).mono ?_;rintro e w9 ⟨he,hb⟩;subst he;replace hm:=hm.call hb;clear hb)
  | ((with_reducible refine af (some 13) (.load 39 (.tmp 12)) ?_);go_must (refine aa (.pointer (some ⟨g,0,none⟩)) rfl (ad (.pointer (some ⟨g,0,none⟩)) ((HR.out.below' hm.below).cell 0) rfl bD) ?_))
  | (go_at_call 55;go_must (refine (HKD.out _ hm.below).mono ?_);rintro e w2 ⟨he,hb⟩;subst he;replace hm:=hm.call hb;clear hb)
  | ((with_reducible refine af (some 19) (.load 39 (.tmp 18)) ?_);go_must (refine aa (.pointer (some ⟨g,0,none⟩)) rfl (ad (.pointer (some ⟨g,0,none⟩)) ((HR.out.below' hm.below).cell 0) rfl bD) ?_))
  | ((with_reducible refine af (some 22) (.load 59 (.tmp 21)) ?_);go_must (refine aa (.slice (some ⟨bs,0,none⟩) L cs) rfl (ad (.slice (some ⟨bs,0,none⟩) L cs) ((HRW.out.below' hm.below).cell 1) rfl bw) ?_))
  | ((with_reducible refine af (some 24) (.indexAddr 59 (.tmp 22) (.tmp 23)) ?_);go_must (refine aa (.pointer (some ⟨bs,i * 5,none⟩)) rfl (bS i rfl rfl rfl HLT.out) ?_))
  | ((with_reducible refine af (some 26) (.load 3 (.tmp 25)) ?_);go_must (refine aa (.int .i64 tk) rfl (ad (.int .i64 tk) (HK.out _ hm.below) rfl ag) ?_))
  | ((with_reducible refine af (some 34) (.indexAddr 41 (.tmp 33) (.const (.int .i64 0))) ?_);go_must (refine aa (.pointer (some ⟨bs,i * 5+3+0,none⟩)) rfl (a8 0 rfl rfl rfl HN0.out) ?_))
  | ((with_reducible refine af (some 35) (.load 3 (.tmp 34)) ?_);go_must (refine aa (.int .i64 (q0:Int)) rfl (ad (.int .i64 (q0:Int)) (HQ0.out _ hm.below) rfl ag) ?_))
  | ((with_reducible refine af (some 38) (.slice 41 (.tmp 37) (some (.const (.int .i64 1))) none none) ?_);go_must (refine aa (.slice (cutLo (some ⟨bs,i * 5+3,none⟩) 2 1) (n - 1) (2 - 1)) rfl (cd aU bB 1 HN0.out rfl rfl rfl) ?_)))
 go_ret
 exact ⟨rfl,hm.below⟩
theorem ok_len {t:Tm} (h:okT t=true):t.l.length=kn t.k:=by
 rw [dH] at h
 simp only [Bool.and_eq_true] at h
 have h1:=h.1
 unfold okF at h1
 simp only [Bool.and_eq_true,decide_eq_true_iff] at h1
 exact h1.1.2
theorem drop1N {T:List Tm} {a b:Tm} {q0 q1:Nat} (h:NumsOf T [q0,q1] [a,b]):NumsOf T [q1] [b]:=by
 refine ⟨rfl,fun j q hj=>?_⟩
 obtain ⟨x,h1,h2⟩:=h.2 (j+1) q (by simpa using hj)
 exact ⟨x,by simpa using h1,h2⟩
theorem apart_any (w:World) (dg mk g i:Nat) (T R:List Tm) (AR:Nat→Option Addr×Nat×List Nat) (m bs cs ba ca:Nat) (t:Tm) (hT:Web T) (hTl:T.length≤100000) (hw:WebR w g T AR m bs cs ba ca) (hd:DerR w dg mk g T R) (ht:T[i]?=some t) :
  Calls Tryz.prog 43 #[.pointer (some ⟨dg,0,none⟩),.int .i64 (i:Int)] w fun e w'=>∃v ql,e=.returned v∧SlN w' v ql∧NumsOf T ql (apartL (· ∈ R) t)∧Below w.heap.size w w':=by
 have hi:i≤100000:=by have:=(List.getElem?_eq_some_iff.1 ht).1;omega
 have hok:=hT.ok t (List.mem_of_getElem? ht)
 have hlen:=ok_len hok
 by_cases hr:t∈R
 ·obtain ⟨ql,hq1,hq2,hq3⟩:=hw.kidsN hT.nd ht
  by_cases h4:t.k=4
  ·refine (apart_pair w dg mk g i _ T R AR m bs cs ba ca t _ true hw hd hi ht rfl rfl (by simp [hr]) rfl h4).mono ?_
   rintro e w' ⟨he,hb⟩
   exact ⟨_,ql,he,hq2.below hb,by unfold apartL;rw [if_pos hr,if_pos h4];exact hq1,hb⟩
  ·by_cases h3:t.k=3
   ·have h2:t.l.length=2:=by rw [hlen,h3];rfl
    obtain ⟨a,b,hl⟩:∃a b,t.l=[a,b]:=by
     match hh:t.l,h2 with
     | [a,b],_=>exact ⟨a,b,rfl⟩
    have hql2:ql.length=2:=by rw [hq1.1,h2]
    obtain ⟨q0,q1,hql⟩:∃x y,ql=[x,y]:=by
     match hh:ql,hql2 with
     | [x,y],_=>exact ⟨x,y,rfl⟩
    subst hql
    rw [hl] at hq1
    obtain ⟨x,hx1,hx2⟩:=hq1.2 0 q0 rfl
    simp only [List.getElem?_cons_zero,Option.some.injEq] at hx1
    subst hx1
    have hc:=hq3 0 q0 rfl
    have hq0:q0≤100000:=by have:=(List.getElem?_eq_some_iff.1 hx2).1;omega
    by_cases ha:a∈R
    ·refine (apart_open w dg mk g i _ q0 T R AR m bs cs ba ca t _ true hw hd hi ht rfl rfl (by simp [hr]) rfl h3 a (by omega) hq0 hx2 hc (by simp [ha])).mono ?_
     rintro e w' ⟨he,hb⟩
     refine ⟨_,[q1],he,?_,by unfold apartL;rw [if_pos hr,if_neg h4,if_pos ⟨h3,a,b,hl,ha⟩,hl];exact drop1N hq1,hb⟩
     have hc1:=hq3 1 q1 rfl
     rw [h2]
     refine ⟨some ⟨bs,i * 5+3+1,none⟩,1,?_,Nat.le_refl _,rfl,fun _=>⟨bs,i * 5+3+1,rfl,fun j u hu=>?_⟩⟩
     ·rw [cutLo,if_neg (by omega)]
      simp [aQ]
     ·have hj:j=0:=by
       have:=(List.getElem?_eq_some_iff.1 hu).1
       simp [nums] at this
       omega
      subst hj
      have hu2:Value.int .i64 (q1:Int)=u:=Option.some.inj hu
      subst hu2
      exact (hb.cell (p:=⟨bs,_,none⟩) (block_lt_of_cell hc1)).trans hc1
    ·refine (apart_shut w dg mk g i _ q0 T R AR m bs cs ba ca t _ true hw hd hi ht rfl rfl (by simp [hr]) rfl h3 a (by omega) hq0 hx2 hc (by simp [ha])).mono ?_
     rintro e w' ⟨he,hb⟩
     refine ⟨_,[],he,SlN.nil _,?_,hb⟩
     unfold apartL
     rw [if_pos hr,if_neg h4,if_neg]
     ·exact NumsOf.nil T
     ·rintro ⟨_,a',b',hl',ha'⟩
      rw [hl] at hl'
      simp only [List.cons.injEq] at hl'
      rw [←hl'.1] at ha'
      exact ha ha'
   ·refine (apart_oth w dg mk g i _ T R AR m bs cs ba ca t _ true hw hd hi ht rfl rfl (by simp [hr]) rfl h4 h3).mono ?_
    rintro e w' ⟨he,hb⟩
    exact ⟨_,[],he,SlN.nil _,by unfold apartL;rw [if_pos hr,if_neg h4,if_neg (fun h=>h3 h.1)];exact NumsOf.nil T,hb⟩
 ·refine (apart_no w dg mk g i _ T R AR m bs cs ba ca t _ false hw hd hi ht rfl rfl (by simp [hr]) rfl).mono ?_
  rintro e w' ⟨he,hb⟩
  exact ⟨_,[],he,SlN.nil _,by unfold apartL;rw [if_neg hr];exact NumsOf.nil T,hb⟩
open Go Go.RowKit Go.Maps Classical
/-- One number in a row of its own. -/
theorem sln_one {w:World} {g q:Nat} (hr:Row w g [.int .i64 (q:Int)] 3):SlN w (.slice (some ⟨g,0,none⟩) 1 1) [q] :=
 ⟨_,1,rfl,Nat.le_refl _,rfl,fun _=>⟨g,0,rfl,fun j u hu=>by rw [Nat.zero_add,hr.cell j];exact hu⟩⟩
theorem together_any (w:World) (dg mk g i:Nat) (T R:List Tm) (AR:Nat→Option Addr×Nat×List Nat) (m bs cs ba ca:Nat) (t:Tm) (hT:Web T) (hTl:T.length≤100000) (hw:WebR w g T AR m bs cs ba ca) (hd:DerR w dg mk g T R) (ht:T[i]?=some t) :
  Calls Tryz.prog 44 #[.pointer (some ⟨dg,0,none⟩),.int .i64 (i:Int)] w fun e w'=>∃v ql,e=.returned v∧SlN w' v ql∧NumsOf T ql (togetherL (· ∈ R) t)∧Below w.heap.size w w':=by
 have hm:=Mem.start w
 obtain ⟨n,hn⟩:∃n,n=t.l.length:=⟨_,rfl⟩
 obtain ⟨vr,hrd⟩:=hd.row
 obtain ⟨ql,hq1,hq2,hq3⟩:=hw.kidsN hT.nd ht
 have HR:Hid (Row w dg [.pointer (some ⟨g,0,none⟩),.map (some mk),vr] 52):=hrd
 have HKD:Hid (∀W,Below w.heap.size w W→Calls Tryz.prog 55 #[.pointer (some ⟨g,0,none⟩),.int .i64 (i:Int)] W fun e w'=>e=.returned (.slice (some ⟨bs,i * 5+3,none⟩) n 2)∧Below W.heap.size W w'):=fun W hW=>by have h:=cH W g i T AR m bs cs ba ca t (hw.below hW) ht;rw [←hn] at h;exact h
 have HQ:Hid (NumsOf T ql t.l):=hq1
 have HQC:Hid (∀(j q:Nat),ql[j]?=some q→∀W,Below w.heap.size w W→W.cell? ⟨bs,i * 5+3+j,none⟩=some (.int .i64 (q:Int))):=fun j q hj W hW=>(hW.cell (p:=⟨bs,_,none⟩) (block_lt_of_cell (hq3 j q hj))).trans (hq3 j q hj)
 have HD:Hid (DerR w dg mk g T R):=hd
 have HTL:Hid (T.length≤100000):=hTl
 have HT:Hid (T[i]?=some t):=ht
 have HN:Hid (∀_:Unit,n=t.l.length):=fun _=>hn
 have hn4:n≤2:=by have:=(hw.sh i t ht).2.2.2.1;omega
 clear hrd hq1 hq2 hq3 hw hd hTl ht hn hT
 go_enter Tryz.func44,Tryz.ntmps44
 go_wp2_with (first
  | ((with_reducible refine af (some 10) (.load 39 (.tmp 9)) ?_);go_must (refine aa (.pointer (some ⟨g,0,none⟩)) rfl (ad (.pointer (some ⟨g,0,none⟩)) ((HR.out.below' hm.below).cell 0) rfl bD) ?_))
  | (go_at_call 55;go_must (refine (HKD.out _ hm.below).mono ?_);rintro e w2 ⟨he,hb⟩;subst he;replace hm:=hm.call hb;clear hb))
 have HM0:Hid (Below w.heap.size w w2):=hm.below
 clear hm
 go_loopw [14] (fun vj wr=>∃j:Nat,vj=.int .i64 (j:Int)∧j≤n∧Hid (Below w.heap.size w wr)∧Hid (∀x∈t.l.take j,x∈R)) (fun vj _=>n - (intOf vj).toNat)
 case atStart=>exact ⟨0,rfl,Nat.zero_le _,HM0.out,fun x hx=>by simp at hx⟩
 case round =>
  clear HM0
  obtain ⟨j,rfl,hj,HB,HA⟩:=hrel
  have hm:=Mem.start wr
  by_cases hlt:j<n
  ·have hji:(j:Int)<(n:Int):=by omega
   obtain ⟨q,hq⟩:∃q,ql[j]?=some q:=⟨_,List.getElem?_eq_getElem (by rw [HQ.out.1,←HN.out ()];exact hlt)⟩
   obtain ⟨x,hx,hTx⟩:=HQ.out.2 j q hq
   have HC:Hid (∀W,Below w.heap.size w W→W.cell? ⟨bs,i * 5+3+j,none⟩=some (.int .i64 (q:Int))):=HQC.out j q hq
   have HLT:Hid (j<n):=hlt
   have HX:Hid (t.l[j]?=some x):=hx
   obtain ⟨b,hb⟩:∃b:Bool,b=true↔x∈R:=⟨@decide (x∈R) (Classical.propDecidable _),by simp⟩
   have HH:Hid (∀W,Below w.heap.size w W→Calls Tryz.prog 29 #[.pointer (some ⟨dg,0,none⟩),.int .i64 (q:Int)] W fun e w'=>e=.returned (.bool b)∧Below W.heap.size W w'):=fun W hW=>bc W dg mk g q T R x b (HD.out.below hW) (by have h1:=(List.getElem?_eq_some_iff.1 hTx).1;have h2:=HTL.out;omega) hTx hb
   have HBX:Hid (b=true↔x∈R):=hb
   clear hq hx hTx hlt hb
   cases b with
   | false =>
    go_wp2_with (first
     | ((with_reducible refine af (some 16) (.indexAddr 41 (.tmp 12) (.tmp 14)) ?_);go_must (refine aa (.pointer (some ⟨bs,i * 5+3+j,none⟩)) rfl (a8 j rfl rfl rfl HLT.out) ?_))
     | ((with_reducible refine af (some 17) (.load 3 (.tmp 16)) ?_);go_must (refine aa (.int .i64 (q:Int)) rfl (ad (.int .i64 (q:Int)) (HC.out _ (HB.out.trans (hm.below.mono HB.out.size))) rfl ag) ?_))
     | (go_at_call 29;go_must (refine (HH.out _ (HB.out.trans (hm.below.mono HB.out.size))).mono ?_);rintro e w5 ⟨he,hb⟩;subst he;replace hm:=hm.call hb;clear hb))
    go_ret
    refine ⟨_,[],rfl,SlN.nil _,?_,HB.out.trans (hm.below.mono HB.out.size)⟩
    unfold togetherL
    rw [if_neg (fun h=>by have:=HBX.out.2 (h x (List.mem_of_getElem? HX.out));cases this)]
    exact NumsOf.nil T
   | true =>
    go_wp2_with (first
     | ((with_reducible refine af (some 16) (.indexAddr 41 (.tmp 12) (.tmp 14)) ?_);go_must (refine aa (.pointer (some ⟨bs,i * 5+3+j,none⟩)) rfl (a8 j rfl rfl rfl HLT.out) ?_))
     | ((with_reducible refine af (some 17) (.load 3 (.tmp 16)) ?_);go_must (refine aa (.int .i64 (q:Int)) rfl (ad (.int .i64 (q:Int)) (HC.out _ (HB.out.trans (hm.below.mono HB.out.size))) rfl ag) ?_))
     | (go_at_call 29;go_must (refine (HH.out _ (HB.out.trans (hm.below.mono HB.out.size))).mono ?_);rintro e w5 ⟨he,hb⟩;subst he;replace hm:=hm.call hb;clear hb))
    go_roundw
    case rel=>exact ⟨j+1,by go_num,by have:=HLT.out;omega,HB.out.trans (hm.below.mono HB.out.size),fun y hy=>by
     rw [List.take_add_one,HX.out,Option.toList_some] at hy
     rcases List.mem_append.1 hy with hy|hy
     ·exact HA.out y hy
     ·rw [List.mem_singleton.1 hy];exact HBX.out.1 (by first|rfl|trivial)⟩
    case measure=>have:=HLT.out;simp [intOf];omega
  ·have hje:j=n:=by omega
   subst hje
   have hji:¬(j:Int)<(j:Int):=by omega
   clear hlt
   go_wp2_with (first
    | ((with_reducible refine af (some 24) (.buildSlice 41 1 #[(0,.tmp 23)]) ?_);go_must (refine bL rfl (.int .i64 0) (.int .i64 (i:Int)) aU bV rfl rfl rfl hm ?_);clear hm;intro w7 g7 hb7 hm;clear hb7))
   go_ret
   refine ⟨_,rfl,[i],sln_one (hm.get 0 rfl),?_,HB.out.trans (hm.below.mono HB.out.size)⟩
   unfold togetherL
   rw [if_pos (fun x hx=>HA.out x (by rw [HN.out (),List.take_length];exact hx))]
   refine ⟨rfl,fun k q hk=>?_⟩
   cases k with
   | zero =>
    simp only [List.getElem?_cons_zero,Option.some.injEq] at hk
    subst hk
    exact ⟨t,rfl,HT.out⟩
   | succ k=>simp at hk
open Go Go.RowKit
theorem eT (R P:List UInt8) (room:Int) (g:Nat) (w:World) (hr:Row w g (rdv R room) 80) :
  Calls Tryz.prog 77 #[.pointer (some ⟨g,0,none⟩),.string (mkS P)] w fun e w'=>e=.returned (.bool (Lib.hasPrefix R P))∧Row w' g (rdv (Lib.trimPrefix R P) room) 80∧Upd g w w':=by
 have hm:=Mem.enter hr
 have HCP:Hid (∀W,Calls Tryz.prog 89 #[.string (mkS R),.string (mkS P)] W fun e w'=>e=.returned (.tuple #[.string (mkS (Lib.trimPrefix R P)),.bool (Lib.hasPrefix R P)])∧w'=W):=fun W=>by
  have:=cutp_any (mkS R) (mkS P) W
  rw [aR,aR] at this
  exact this
 clear hr
 go_enter Tryz.func77,Tryz.ntmps77
 go_wp2_with (first
  | ((with_reducible refine af (some 11) (.load 9 (.tmp 10)) ?_);go_must (refine aa (.string (mkS R)) rfl (ad (.string (mkS R)) (Mem.cell hm 0 rfl 0) rfl bf) ?_))
  | (go_at_call 89;go_must (refine (HCP.out _).mono ?_);rintro e w' ⟨he,hw⟩;subst he;replace hw:=hw.symm;subst hw)
  | ((with_reducible refine af none (.store 9 (.tmp 19) (.tmp 17)) ?_);go_must (refine bz 0 0 (.string (mkS (Lib.trimPrefix R P))) hm rfl rfl rfl sz_str (by show 0<2;omega) rfl rfl ?_);clear hm;intro w2 hm))
 go_ret
 exact ⟨rfl,hm.get 0 rfl,hm.toUpd⟩
theorem dq {R P:List UInt8} (h:Lib.hasPrefix R P=true) (room:Int) (g:Nat) (w:World) (hr:Row w g (rdv R room) 80) :
  Calls Tryz.prog 77 #[.pointer (some ⟨g,0,none⟩),.string (mkS P)] w fun e w'=>e=.returned (.bool true)∧Row w' g (rdv (R.drop P.length) room) 80∧Upd g w w':=by
 have:=eT R P room g w hr
 rw [h,eV h] at this
 exact this
theorem skip_no {R P:List UInt8} (h:Lib.hasPrefix R P=false) (room:Int) (g:Nat) (w:World) (hr:Row w g (rdv R room) 80) :
  Calls Tryz.prog 77 #[.pointer (some ⟨g,0,none⟩),.string (mkS P)] w fun e w'=>e=.returned (.bool false)∧Row w' g (rdv R room) 80∧Upd g w w':=by
 have:=eT R P room g w hr
 rw [h,trim_no h] at this
 exact this
theorem cN (R:List UInt8) (room:Int) (g:Nat) (w:World) (hr:Row w g (rdv R room) 80) :
  Calls Tryz.prog 61 #[.pointer (some ⟨g,0,none⟩)] w fun e w'=>e=.returned (.int .i64 (kdOf R))∧Row w' g (rdv (R.drop (wd (kdOf R)).length) room) 80∧Upd g w w':=by
 have hm:=Mem.enter hr
 clear hr
 go_enter Tryz.func61,Tryz.ntmps61
 go_wp2_with (first
  | ((with_reducible refine af (some 7) (.buildSlice 41 4 #[(0,.const (.int .i64 1)),(1,.const (.int .i64 2)),(2,.const (.int .i64 3)),(3,.const (.int .i64 5))]) ?_);go_must (refine wpl_kds rfl hm ?_);clear hm;intro w7 g7 hm))
 go_loopw [9] (fun vi wr=>∃k:Nat,k≤4∧vi=.int .i64 (k:Int)∧Hid (∀j,j<k→Lib.hasPrefix R (wd (kd j))=false)∧Hid (Mem w [g] wr [(g7,kds,3),(g,rdv R room,80)])) (fun vi _=>4 - (intOf vi).toNat)
 case atStart=>exact ⟨0,by omega,rfl,fun j hj=>absurd hj (by omega),hm⟩
 case round =>
  clear hm
  obtain ⟨k,hk,rfl,HA,HMM⟩:=hrel
  by_cases hlt:k<4
  ·have hki:(k:Int)<4:=by omega
   have hm:=HMM.out
   have hkr:=kd_range hlt
   have HKG:Hid (∀_:Unit,kds[k]?=some (.int .i64 (kd k))):=fun _=>kds_get hlt
   have HF1:Hid (∀_:Unit,∀v∈[Value.string (mkS (wd (kd k))),.bool (nb (kd k)),.int .i64 (kn (kd k):Int)],v.oneCell'=true):=fun _=>by rw [←aW hkr];exact bX _
   have HFO:Hid (∀W,Calls Tryz.prog 53 #[.int .i64 (kd k)] W fun e w'=>e=.returned (.tuple #[.agg [Value.string (mkS (wd (kd k))),.bool (nb (kd k)),.int .i64 (kn (kd k):Int)].toArray,.bool true])∧Below W.heap.size W w'):=fun W=>by
    have:=bd (kd k) W
    rw [aW hkr,decide_eq_true hkr] at this
    exact this
   clear HMM hkr
   cases hp:Lib.hasPrefix R (wd (kd k)) with
   | false =>
    have HSK:Hid (∀W,Row W g (rdv R room) 80→Calls Tryz.prog 77 #[.pointer (some ⟨g,0,none⟩),.string (mkS (wd (kd k)))] W fun e w'=>e=.returned (.bool false)∧Row w' g (rdv R room) 80∧Upd g W w'):=fun W hW=>skip_no hp room g W hW
    have HB:Hid (∀j,j<k+1→Lib.hasPrefix R (wd (kd j))=false):=fun j hj=>by
     by_cases h:j=k
     ·subst h;exact hp
     ·exact HA.out j (by omega)
    clear hp HA
    go_wp2_with (first
     | ((with_reducible refine af (some 11) (.indexAddr 41 (.tmp 7) (.tmp 9)) ?_);go_must (refine aa (.pointer (some ⟨g7,k,none⟩)) rfl (exec_ixI0 k rfl rfl rfl hlt) ?_))
     | ((with_reducible refine af (some 12) (.load 3 (.tmp 11)) ?_);go_must (refine aa (.int .i64 (kd k)) rfl (ad (.int .i64 (kd k)) ((Mem.cell hm 0 rfl k).trans (HKG.out ())) rfl ag) ?_))
     | (go_at_call 53;go_must (refine (HFO.out _).mono ?_);rintro e w8 ⟨he,hb⟩;subst he;replace hm:=hm.call hb;clear hb)
     | ((with_reducible refine af (some 5) (.alloc 85) ?_);go_must (refine ap _ aI hm ?_);clear hm;intro w9 g9 hm)
     | ((with_reducible refine af none (.store 85 (.tmp 5) (.tmp 16)) ?_);go_must (refine au 0 ([Value.string (mkS (wd (kd k))),.bool (nb (kd k)),.int .i64 (kn (kd k):Int)]) hm rfl rfl rfl 3 aJ rfl rfl ((HF1.out ())) ?_);clear hm;intro w10 hm)
     | ((with_reducible refine af (some 20) (.load 9 (.tmp 19)) ?_);go_must (refine aa (.string (mkS (wd (kd k)))) rfl (ad (.string (mkS (wd (kd k)))) (Mem.cell hm 0 rfl 0) rfl bf) ?_))
     | (go_at_call 77;go_must (refine (HSK.out _ (hm.get 2 rfl)).mono ?_);rintro e w11 ⟨he,hr,hu⟩;subst he;replace hm:=hm.upd 2 rfl hu hr;clear hr hu))
    go_roundw
    case rel=>exact ⟨k+1,by omega,by go_num,HB.out,hm.tail⟩
    case measure=>simp [intOf];omega
   | true =>
    have HSK:Hid (∀W,Row W g (rdv R room) 80→Calls Tryz.prog 77 #[.pointer (some ⟨g,0,none⟩),.string (mkS (wd (kd k)))] W fun e w'=>e=.returned (.bool true)∧Row w' g (rdv (R.drop (wd (kd k)).length) room) 80∧Upd g W w'):=fun W hW=>dq hp room g W hW
    have HR:Hid (∀_:Unit,kdOf R=kd k):=fun _=>kdOf_at hlt HA.out hp
    clear hp HA
    go_wp2_with (first
     | ((with_reducible refine af (some 11) (.indexAddr 41 (.tmp 7) (.tmp 9)) ?_);go_must (refine aa (.pointer (some ⟨g7,k,none⟩)) rfl (exec_ixI0 k rfl rfl rfl hlt) ?_))
     | ((with_reducible refine af (some 12) (.load 3 (.tmp 11)) ?_);go_must (refine aa (.int .i64 (kd k)) rfl (ad (.int .i64 (kd k)) ((Mem.cell hm 0 rfl k).trans (HKG.out ())) rfl ag) ?_))
     | (go_at_call 53;go_must (refine (HFO.out _).mono ?_);rintro e w8 ⟨he,hb⟩;subst he;replace hm:=hm.call hb;clear hb)
     | ((with_reducible refine af (some 5) (.alloc 85) ?_);go_must (refine ap _ aI hm ?_);clear hm;intro w9 g9 hm)
     | ((with_reducible refine af none (.store 85 (.tmp 5) (.tmp 16)) ?_);go_must (refine au 0 ([Value.string (mkS (wd (kd k))),.bool (nb (kd k)),.int .i64 (kn (kd k):Int)]) hm rfl rfl rfl 3 aJ rfl rfl ((HF1.out ())) ?_);clear hm;intro w10 hm)
     | ((with_reducible refine af (some 20) (.load 9 (.tmp 19)) ?_);go_must (refine aa (.string (mkS (wd (kd k)))) rfl (ad (.string (mkS (wd (kd k)))) (Mem.cell hm 0 rfl 0) rfl bf) ?_))
     | (go_at_call 77;go_must (refine (HSK.out _ (hm.get 2 rfl)).mono ?_);rintro e w11 ⟨he,hr,hu⟩;subst he;replace hm:=hm.upd 2 rfl hu hr;clear hr hu))
    go_ret
    refine ⟨by rw [HR.out ()];rfl,?_,hm.toUpd⟩
    rw [HR.out ()]
    exact hm.get 2 rfl
  ·have hk4:k=4:=by omega
   subst hk4
   have hki:¬((4:Nat):Int)<4:=by omega
   have HR:Hid (∀_:Unit,kdOf R=4):=fun _=>kdOf_none HA.out
   have hm:=HMM.out
   clear HA
   go_wp2_with fail
   go_ret
   refine ⟨by rw [HR.out ()];rfl,?_,hm.toUpd⟩
   rw [HR.out ()]
   exact hm.get 1 rfl
end Go.Proofs.YtcibhfcjbokdlaaGreatDoor
