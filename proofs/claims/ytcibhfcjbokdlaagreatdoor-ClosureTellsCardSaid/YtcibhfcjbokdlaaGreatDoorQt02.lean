import Derived.Test.YtcibhfcjbokdlaaGreatDoorQt01
set_option maxRecDepth 100000
set_option maxHeartbeats 4000000
namespace Go.Proofs.YtcibhfcjbokdlaaGreatDoor
open Go Go.RowKit
def Der (B:Tm→Prop) (t:Tm):Prop:=∀P:Tm→Prop,(∀t,B t→P t)→(∀t x,P t→t.k=4→x∈t.l→P x)→(∀t a b,P t→t.k=3→t.l=[a,b]→P a→P b)→(∀t,t.l≠[]→(∀x∈t.l,P x)→P t)→P t
theorem Der.base {B:Tm→Prop} {t:Tm} (h:B t):Der B t:=fun _ h1 _ _ _=>h1 t h
theorem Der.part {B:Tm→Prop} {t x:Tm} (h:Der B t) (hk:t.k=4) (hx:x∈t.l):Der B x:=fun P h1 h2 h3 h4=>h2 t x (h P h1 h2 h3 h4) hk hx
theorem Der.opened {B:Tm→Prop} {t a b:Tm} (h:Der B t) (hk:t.k=3) (hl:t.l=[a,b]) (ha:Der B a):Der B b:=fun P h1 h2 h3 h4=>h3 t a b (h P h1 h2 h3 h4) hk hl (ha P h1 h2 h3 h4)
theorem Der.made {B:Tm→Prop} {t:Tm} (h0:t.l≠[]) (h:∀x∈t.l,Der B x):Der B t:=fun P h1 h2 h3 h4=>h4 t h0 fun x hx=>h x hx P h1 h2 h3 h4
theorem Der.ind {B:Tm→Prop} {motive:∀t,Der B t→Prop} (base:∀ {t:Tm} (h:B t),motive t (Der.base h)) (part:∀ {t x:Tm} (h:Der B t) (hk:t.k=4) (hx:x∈t.l),motive t h→motive x (Der.part h hk hx))
  (opened:∀ {t a b:Tm} (h:Der B t) (hk:t.k=3) (hl:t.l=[a,b]) (ha:Der B a),motive t h→motive a ha→motive b (Der.opened h hk hl ha)) (made:∀ {t:Tm} (h0:t.l≠[]) (h:∀x∈t.l,Der B x),(∀x (hx:x∈t.l),motive x (h x hx))→motive t (Der.made h0 h)) {t:Tm} (h:Der B t):motive t h:=by
 obtain ⟨_,hm⟩:=h (fun t=>∃h:Der B t,motive t h) (fun t hb=>⟨.base hb,base hb⟩) (fun t x hh hk hx=>⟨.part hh.1 hk hx,part hh.1 hk hx hh.2⟩) (fun t a b hh hk hl ha=>⟨.opened hh.1 hk hl ha.1,opened hh.1 hk hl ha.1 hh.2 ha.2⟩) (fun t h0 hh=>⟨.made h0 fun x hx=>(hh x hx).1,made h0 _ fun x hx=>(hh x hx).2⟩)
 exact hm
theorem Der.mono {B B':Tm→Prop} (h:∀t,B t→B' t) {t:Tm} (hd:Der B t):Der B' t:=by
 induction hd using Der.ind with
 | base hb=>exact .base (h _ hb)
 | part _ hk hx ih=>exact .part ih hk hx
 | opened _ hk hl _ ih1 ih2=>exact .opened ih1 hk hl ih2
 | made h0 _ ih=>exact .made h0 ih
theorem Der.cut {B B':Tm→Prop} (h:∀t,B t→Der B' t) {t:Tm} (hd:Der B t):Der B' t:=by
 induction hd using Der.ind with
 | base hb=>exact h _ hb
 | part _ hk hx ih=>exact .part ih hk hx
 | opened _ hk hl _ ih1 ih2=>exact .opened ih1 hk hl ih2
 | made h0 _ ih=>exact .made h0 ih
def Syn (K:Tm→Prop) (t:Tm):Prop:=∀P:Tm→Prop,(∀t,K t→P t)→(∀t,t.l≠[]→(∀x∈t.l,P x)→P t)→P t
theorem Syn.of {K:Tm→Prop} {t:Tm} (h:K t):Syn K t:=fun _ h1 _=>h1 t h
theorem Syn.made {K:Tm→Prop} {t:Tm} (h0:t.l≠[]) (h:∀x∈t.l,Syn K x):Syn K t:=fun P h1 h2=>h2 t h0 fun x hx=>h x hx P h1 h2
theorem Syn.ind {K:Tm→Prop} {motive:∀t,Syn K t→Prop} (of:∀ {t:Tm} (h:K t),motive t (Syn.of h)) (made:∀ {t:Tm} (h0:t.l≠[]) (h:∀x∈t.l,Syn K x),(∀x (hx:x∈t.l),motive x (h x hx))→motive t (Syn.made h0 h)) {t:Tm} (h:Syn K t):motive t h:=by
 obtain ⟨_,hm⟩:=h (fun t=>∃h:Syn K t,motive t h) (fun t hb=>⟨.of hb,of hb⟩) (fun t h0 hh=>⟨.made h0 fun x hx=>(hh x hx).1,made h0 _ fun x hx=>(hh x hx).2⟩)
 exact hm
theorem Syn.cs {K:Tm→Prop} {t:Tm} (h:Syn K t):K t∨(t.l≠[]∧∀x∈t.l,Syn K x):=by
 induction h using Syn.ind with
 | of h=>exact Or.inl h
 | made h0 h _=>exact Or.inr ⟨h0,h⟩
def KidsIn (T:Tm→Prop):Prop:=∀t,T t→∀x∈t.l,T x
structure Shut (T K:Tm→Prop):Prop where
 part:∀t x,K t→t.k=4→x∈t.l→K x
 opened:∀t a b,K t→t.k=3→t.l=[a,b]→K a→K b
 made:∀t,T t→t.l≠[]→(∀x∈t.l,K x)→K t
theorem Syn.within {T K:Tm→Prop} (hT:KidsIn T) (hs:Shut T K) {t:Tm} (h:Syn K t):T t→K t:=by
 induction h using Syn.ind with
 | of hk=>intro _;exact hk
 | made h0 _ ih=>intro ht;exact hs.made _ ht h0 (fun x hx=>ih x hx (hT _ ht x hx))
theorem Der.syn {B T K:Tm→Prop} (hT:KidsIn T) (hKT:∀t,K t→T t) (hB:∀t,B t→K t) (hs:Shut T K) {t:Tm} (h:Der B t):Syn K t:=by
 induction h using Der.ind with
 | base hb=>exact .of (hB _ hb)
 | part _ hk hx ih =>
  rcases ih.cs with h1|⟨_,h1⟩
  ·exact .of (hs.part _ _ h1 hk hx)
  ·exact h1 _ hx
 | opened _ hk hl _ ih1 ih2 =>
  rcases ih1.cs with h1|⟨_,h1⟩
  ·exact .of (hs.opened _ _ _ h1 hk hl (ih2.within hT hs (hT _ (hKT _ h1) _ (by rw [hl];simp))))
  ·exact h1 _ (by rw [hl];simp)
 | made h0 _ ih=>exact .made h0 ih
/-- It is enough to look within T. -/
theorem eE {B T K:Tm→Prop} (hT:KidsIn T) (hKT:∀t,K t→T t) (hB:∀t,B t→K t) (hs:Shut T K) (hd:∀t,K t→Der B t) {t:Tm} (ht:T t):Der B t↔K t :=
 ⟨fun h=>(h.syn hT hKT hB hs).within hT hs ht,hd t⟩
def hasT (T:List Tm) (t:Tm):Bool:=T.any fun x=>decide (txt x=txt t)
def webF (t:Tm) (r:List (List Tm→List Tm)) (T:List Tm):List Tm:=if hasT (r.foldl (fun a g=>g a) T) t then r.foldl (fun a g=>g a) T else r.foldl (fun a g=>g a) T++[t]
def webW:Tm→List Tm→List Tm:=foldT webF
def webWs (l:List Tm) (T:List Tm):List Tm:=l.foldl (fun a x=>webW x a) T
theorem cW (t:Tm) (T:List Tm):webW t T=if hasT (webWs t.l T) t then webWs t.l T else webWs t.l T++[t]:=by
 unfold webW
 rw [cg]
 show (if hasT ((t.l.map webW).foldl (fun a g=>g a) T) t then (t.l.map webW).foldl (fun a g=>g a) T else (t.l.map webW).foldl (fun a g=>g a) T++[t])=_
 rw [List.foldl_map]
 rfl
theorem bT (x:Tm) (l T:List Tm):webWs (x::l) T=webWs l (webW x T):=rfl
theorem webWs_snoc {l:List Tm} {k:Nat} {x:Tm} (hx:l[k]?=some x) (T:List Tm):webWs (l.take (k+1)) T=webW x (webWs (l.take k) T):=by
 rw [List.take_add_one,hx]
 simp [webWs]
theorem dl {T:List Tm} {t:Tm} (hT:∀x∈T,okT x=true) (ht:okT t=true):hasT T t=true↔t∈T:=by
 unfold hasT
 rw [List.any_eq_true]
 constructor
 ·rintro ⟨x,hx,he⟩
  rw [←eL (hT x hx) ht (of_decide_eq_true he)]
  exact hx
 ·intro h
  exact ⟨t,h,decide_eq_true rfl⟩
structure Web (T:List Tm):Prop where
 ok:∀t∈T,okT t=true
 nd:T.Nodup
 kids:∀t∈T,∀x∈t.l,x∈T
theorem Web.nil:Web []:=⟨fun t h=>(by cases h),List.nodup_nil,fun t h=>(by cases h)⟩
structure Added (t:Tm) (T T':List Tm):Prop where
 web:Web T'
 pre:∃s,T'=T++s
 has:t∈T'
theorem cw (t:Tm):okT t=true→∀T,Web T→Added t T (webW t T):=by
 induction t using Tm.ind with
 | h t ih =>
  intro ho
  have key:∀(l:List Tm),(∀x∈l,x∈t.l)→∀T,Web T→Web (webWs l T)∧(∃s,webWs l T=T++s)∧∀x∈l,x∈webWs l T:=by
   intro l
   induction l with
   | nil=>intro _ T h;exact ⟨h,⟨[],(List.append_nil T).symm⟩,fun x hx=>(by cases hx)⟩
   | cons y l ih2 =>
    intro hs T h
    rw [bT]
    have hy:=hs y (List.mem_cons_self ..)
    have h1:=ih y hy (aM ho hy) T h
    obtain ⟨a1,⟨s2,e2⟩,a3⟩:=ih2 (fun z hz=>hs z (List.mem_cons_of_mem _ hz)) (webW y T) h1.web
    obtain ⟨s1,e1⟩:=h1.pre
    refine ⟨a1,⟨s1++s2,by rw [e2,e1,List.append_assoc]⟩,fun x hx=>?_⟩
    rcases List.mem_cons.1 hx with rfl|hx
    ·rw [e2];exact List.mem_append.2 (Or.inl h1.has)
    ·exact a3 x hx
  intro T hT
  obtain ⟨a1,⟨s,e⟩,a3⟩:=key t.l (fun _ h=>h) T hT
  rw [cW]
  cases hh:hasT (webWs t.l T) t with
  | true =>
   rw [if_pos rfl]
   exact ⟨a1,⟨s,e⟩,(dl a1.ok ho).1 hh⟩
  | false =>
   rw [if_neg (by simp)]
   have hno:t ∉ webWs t.l T:=fun hm=>by rw [(dl a1.ok ho).2 hm] at hh;cases hh
   refine ⟨⟨fun x hx=>?_,List.nodup_append.2 ⟨a1.nd,by simp,fun a ha b hb he=>?_⟩,fun x hx y hy=>?_⟩,⟨s++[t],by rw [e,List.append_assoc]⟩,by simp⟩
   ·rcases List.mem_append.1 hx with hx|hx
    ·exact a1.ok x hx
    ·rw [List.mem_singleton.1 hx];exact ho
   ·rw [List.mem_singleton.1 hb] at he
    exact hno (he▸ha)
   ·rcases List.mem_append.1 hx with hx|hx
    ·exact List.mem_append.2 (Or.inl (a1.kids x hx y hy))
    ·rw [List.mem_singleton.1 hx] at hy
     exact List.mem_append.2 (Or.inl (a3 y hy))
theorem cK (l:List Tm):(∀t∈l,okT t=true)→∀T,Web T→Web (webWs l T)∧(∃s,webWs l T=T++s)∧∀x∈l,x∈webWs l T:=by
 induction l with
 | nil=>intro _ T h;exact ⟨h,⟨[],(List.append_nil T).symm⟩,fun x hx=>(by cases hx)⟩
 | cons y l ih =>
  intro ho T h
  rw [bT]
  have h1:=cw y (ho y (List.mem_cons_self ..)) T h
  obtain ⟨a1,⟨s2,e2⟩,a3⟩:=ih (fun z hz=>ho z (List.mem_cons_of_mem _ hz)) (webW y T) h1.web
  obtain ⟨s1,e1⟩:=h1.pre
  refine ⟨a1,⟨s1++s2,by rw [e2,e1,List.append_assoc]⟩,fun x hx=>?_⟩
  rcases List.mem_cons.1 hx with rfl|hx
  ·rw [e2];exact List.mem_append.2 (Or.inl h1.has)
  ·exact a3 x hx
theorem dR (t:Tm):∀T,(webW t T).length≤T.length+cnt t:=by
 induction t using Tm.ind with
 | h t ih =>
  have key:∀(l:List Tm),(∀x∈l,x∈t.l)→∀T,(webWs l T).length≤T.length+(l.map cnt).sum:=by
   intro l
   induction l with
   | nil=>intro _ T;simp [webWs]
   | cons y l ih2 =>
    intro hs T
    rw [bT]
    have h1:=ih y (hs y (List.mem_cons_self ..)) T
    have h2:=ih2 (fun z hz=>hs z (List.mem_cons_of_mem _ hz)) (webW y T)
    simp only [List.map_cons,List.sum_cons]
    omega
  intro T
  have h1:=key t.l (fun _ h=>h) T
  have h2:=bQ t
  rw [cW]
  split
  ·omega
  ·rw [List.length_append,List.length_singleton];omega
def Step (T K:Tm→Prop) (x:Tm):Prop:=(∃t,K t∧t.k=4∧x∈t.l)∨(∃t a,K t∧t.k=3∧t.l=[a,x]∧K a)∨(T x∧x.l≠[]∧∀y∈x.l,K y)
theorem Step.part {T K:Tm→Prop} {t x:Tm} (h1:K t) (h2:t.k=4) (h3:x∈t.l):Step T K x:=Or.inl ⟨t,h1,h2,h3⟩
theorem Step.opened {T K:Tm→Prop} {t a b:Tm} (h1:K t) (h2:t.k=3) (h3:t.l=[a,b]) (h4:K a):Step T K b:=Or.inr (Or.inl ⟨t,a,h1,h2,h3,h4⟩)
theorem Step.made {T K:Tm→Prop} {t:Tm} (h1:T t) (h2:t.l≠[]) (h3:∀x∈t.l,K x):Step T K t:=Or.inr (Or.inr ⟨h1,h2,h3⟩)
theorem shut_of {T K:Tm→Prop} (h:∀x,Step T K x→K x):Shut T K :=
 ⟨fun _ _ h1 h2 h3=>h _ (.part h1 h2 h3),fun _ _ _ h1 h2 h3 h4=>h _ (.opened h1 h2 h3 h4),fun _ h1 h2 h3=>h _ (.made h1 h2 h3)⟩
/-- What a new one leads to: out of itself, out of a seal that it is the key of, to what it is the last kid of. -/
theorem Step.new {T K:Tm→Prop} {n x:Tm} (h:Step T (fun t=>K t∨t=n) x) :
  Step T K x∨(n.k=4∧x∈n.l)∨(n.k=3∧∃a,n.l=[a,x]∧(K a∨a=n))∨(∃t,K t∧t.k=3∧t.l=[n,x])∨(T x∧n∈x.l∧∀y∈x.l,K y∨y=n):=by
 rcases h with ⟨t,h1,h2,h3⟩|⟨t,a,h1,h2,h3,h4⟩|⟨h1,h2,h3⟩
 ·rcases h1 with h1|rfl
  ·exact Or.inl (.part h1 h2 h3)
  ·exact Or.inr (Or.inl ⟨h2,h3⟩)
 ·rcases h1 with h1|rfl
  ·rcases h4 with h4|rfl
   ·exact Or.inl (.opened h1 h2 h3 h4)
   ·exact Or.inr (Or.inr (Or.inr (Or.inl ⟨t,h1,h2,h3⟩)))
  ·exact Or.inr (Or.inr (Or.inl ⟨h2,a,h3,h4⟩))
 ·by_cases hn:n∈x.l
  ·exact Or.inr (Or.inr (Or.inr (Or.inr ⟨h1,hn,h3⟩)))
  ·refine Or.inl (.made h1 h2 fun y hy=>?_)
   rcases h3 y hy with h|rfl
   ·exact h
   ·exact absurd hy hn
open Go Go.RowKit
def apartL (K:Tm→Prop) [∀p:Prop,Decidable p] (t:Tm):List Tm:=if K t then (if t.k=4 then t.l else if t.k=3∧∃a b,t.l=[a,b]∧K a then t.l.drop 1 else []) else []
def togetherL (K:Tm→Prop) [∀p:Prop,Decidable p] (t:Tm):List Tm:=if ∀x∈t.l,K x then [t] else []
open Classical
theorem eP {B K:Tm→Prop} (h:∀t,K t→Der B t) {t x:Tm} (hx:x∈apartL K t):Der B x:=by
 unfold apartL at hx
 split at hx
 ·next hk =>
  split at hx
  ·next h4=>exact .part (h _ hk) h4 hx
  ·split at hx
   ·next h3 =>
    obtain ⟨h3,a,b,hl,ha⟩:=h3
    rw [hl] at hx
    simp only [List.drop_succ_cons,List.drop_zero,List.mem_singleton] at hx
    subst hx
    exact .opened (h _ hk) h3 hl (h _ ha)
   ·cases hx
 ·cases hx
theorem fo {B K:Tm→Prop} (h:∀t,K t→Der B t) {t x:Tm} (h0:t.l≠[]) (hx:x∈togetherL K t):Der B x:=by
 unfold togetherL at hx
 split at hx
 ·next hk =>
  rw [List.mem_singleton] at hx
  subst hx
  exact .made h0 (fun y hy=>h _ (hk y hy))
 ·cases hx
structure Lrn (B:Tm→Prop) (T R S:List Tm):Prop where
 inT:∀x,x∈R∨x∈S→x∈T
 nd:R.Nodup
 step:∀x,Step (· ∈ T) (· ∈ R) x→x∈R∨x∈S
 base:∀b,B b→b∈R∨b∈S
 der:∀x,x∈R∨x∈S→Der B x
section
variable {B:Tm→Prop} {T R S:List Tm}
theorem Lrn.skip {n:Tm} (h:Lrn B T R (S++[n])) (hn:n∈R):Lrn B T R S:=by
 have key:∀x,(x∈R∨x∈S++[n])→x∈R∨x∈S:=fun x hx=>by
  rcases hx with hx|hx
  ·exact Or.inl hx
  ·rcases List.mem_append.1 hx with hx|hx
   ·exact Or.inr hx
   ·rw [List.mem_singleton.1 hx];exact Or.inl hn
 exact ⟨fun x hx=>h.inT x (hx.imp id fun h=>List.mem_append.2 (Or.inl h)),h.nd,fun x hx=>key x (h.step x hx),fun b hb=>key b (h.base b hb),fun x hx=>h.der x (hx.imp id fun h=>List.mem_append.2 (Or.inl h))⟩
/-- One that isn't known is taken in: all that it leads to is put on the pile. -/
theorem Lrn.take {n:Tm} {ar:List Tm} (h:Lrn B T R (S++[n])) (hT:Web T) (hn:n ∉ R) (har:∀w,w∈ar↔w∈T∧n∈w.l) :
  Lrn B T (R++[n]) (S++(apartL (· ∈ R++[n]) n++ar.flatMap fun w=>apartL (· ∈ R++[n]) w++togetherL (· ∈ R++[n]) w)):=by
 have hK:∀t,t∈R++[n]↔t∈R∨t=n:=fun t=>by rw [List.mem_append,List.mem_singleton]
 have dK:∀t,t∈R++[n]→Der B t:=fun t ht=>by
  rcases (hK t).1 ht with h1|rfl
  ·exact h.der t (Or.inl h1)
  ·exact h.der _ (Or.inr (by simp))
 have tK:∀t,t∈R++[n]→t∈T:=fun t ht=>by
  rcases (hK t).1 ht with h1|rfl
  ·exact h.inT t (Or.inl h1)
  ·exact h.inT _ (Or.inr (by simp))
 have inAp:∀t x,x∈apartL (· ∈ R++[n]) t→x∈T:=fun t x hx=>by
  unfold apartL at hx
  split at hx
  ·next hk =>
   split at hx
   ·exact hT.kids t (tK t hk) x hx
   ·split at hx
    ·exact hT.kids t (tK t hk) x (List.mem_of_mem_drop hx)
    ·cases hx
  ·cases hx
 refine ⟨fun x hx=>?_,List.nodup_append.2 ⟨h.nd,by simp,fun a ha b hb he=>hn (by rw [List.mem_singleton.1 hb] at he;exact he▸ha)⟩,fun x hx=>?_,fun b hb=>?_,fun x hx=>?_⟩
 ·rcases hx with hx|hx
  ·exact tK x hx
  ·rcases List.mem_append.1 hx with hx|hx
   ·exact h.inT x (Or.inr (List.mem_append.2 (Or.inl hx)))
   ·rcases List.mem_append.1 hx with hx|hx
    ·exact inAp n x hx
    ·obtain ⟨w,hw,hx⟩:=List.mem_flatMap.1 hx
     rcases List.mem_append.1 hx with hx|hx
     ·exact inAp w x hx
     ·unfold togetherL at hx
      split at hx
      ·rw [List.mem_singleton.1 hx];exact ((har w).1 hw).1
      ·cases hx
 ·have hx2:Step (· ∈ T) (fun t=>t∈R∨t=n) x:=by
   have he:(fun t=>t∈R++[n])=fun t=>t∈R∨t=n:=funext fun t=>propext (hK t)
   have:=hx
   rw [show (fun x=>x∈R++[n])=fun t=>t∈R∨t=n from he] at this
   exact this
  have nK:n∈R++[n]:=by simp
  rcases hx2.new with h1|⟨h1,h2⟩|⟨h1,a,h2,h3⟩|⟨t,h1,h2,h3⟩|⟨h1,h2,h3⟩
  ·rcases h.step x h1 with h1|h1
   ·exact Or.inl (List.mem_append.2 (Or.inl h1))
   ·rcases List.mem_append.1 h1 with h1|h1
    ·exact Or.inr (List.mem_append.2 (Or.inl h1))
    ·exact Or.inl (List.mem_append.2 (Or.inr h1))
  ·refine Or.inr (List.mem_append.2 (Or.inr (List.mem_append.2 (Or.inl ?_))))
   unfold apartL
   rw [if_pos nK,if_pos h1]
   exact h2
  ·refine Or.inr (List.mem_append.2 (Or.inr (List.mem_append.2 (Or.inl ?_))))
   unfold apartL
   rw [if_pos nK,if_neg (by omega),if_pos ⟨h1,a,x,h2,(hK a).2 h3⟩,h2]
   simp
  ·have ht:t∈T:=h.inT t (Or.inl h1)
   refine Or.inr (List.mem_append.2 (Or.inr (List.mem_append.2 (Or.inr (List.mem_flatMap.2 ⟨t,(har t).2 ⟨ht,by rw [h3];simp⟩,List.mem_append.2 (Or.inl ?_)⟩)))))
   unfold apartL
   rw [if_pos ((hK t).2 (Or.inl h1)),if_neg (by omega),if_pos ⟨h2,n,x,h3,nK⟩,h3]
   simp
  ·refine Or.inr (List.mem_append.2 (Or.inr (List.mem_append.2 (Or.inr (List.mem_flatMap.2 ⟨x,(har x).2 ⟨h1,h2⟩,List.mem_append.2 (Or.inr ?_)⟩)))))
   unfold togetherL
   rw [if_pos (fun y hy=>(hK y).2 (h3 y hy))]
   simp
 ·rcases h.base b hb with h1|h1
  ·exact Or.inl (List.mem_append.2 (Or.inl h1))
  ·rcases List.mem_append.1 h1 with h1|h1
   ·exact Or.inr (List.mem_append.2 (Or.inl h1))
   ·exact Or.inl (List.mem_append.2 (Or.inr h1))
 ·rcases hx with hx|hx
  ·exact dK x hx
  ·rcases List.mem_append.1 hx with hx|hx
   ·exact h.der x (Or.inr (List.mem_append.2 (Or.inl hx)))
   ·rcases List.mem_append.1 hx with hx|hx
    ·exact eP dK hx
    ·obtain ⟨w,hw,hx⟩:=List.mem_flatMap.1 hx
     rcases List.mem_append.1 hx with hx|hx
     ·exact eP dK hx
     ·exact fo dK (fun he=>by have:=((har w).1 hw).2;rw [he] at this;cases this) hx
/-- Nothing is left to be looked at: R is what can be derived, of what is in T. -/
theorem Lrn.done (h:Lrn B T R []) (hT:Web T) {t:Tm} (ht:t∈T):t∈R↔Der B t:=by
 refine (eE (T:=(· ∈ T)) (K:=(· ∈ R)) (fun t ht=>hT.kids t ht) (fun t ht=>h.inT t (Or.inl ht)) (fun b hb=>(h.base b hb).resolve_right (by simp)) (shut_of fun x hx=>(h.step x hx).resolve_right (by simp)) (fun t ht=>h.der t (Or.inl ht)) ht).symm
/-- More is asked for. -/
theorem Lrn.more (h:Lrn B T R []) {n:Tm} (hn:n∈T):Lrn (fun t=>B t∨t=n) T R [n] :=
 ⟨fun x hx=>by
  rcases hx with hx|hx
  ·exact h.inT x (Or.inl hx)
  ·rw [List.mem_singleton.1 hx];exact hn,h.nd,fun x hx=>Or.inl ((h.step x hx).resolve_right (by simp)),fun b hb=>by
  rcases hb with hb|rfl
  ·exact Or.inl ((h.base b hb).resolve_right (by simp))
  ·exact Or.inr (by simp),fun x hx=>by
  rcases hx with hx|hx
  ·exact (h.der x (Or.inl hx)).mono fun _ h=>Or.inl h
  ·rw [List.mem_singleton.1 hx];exact .base (Or.inr rfl)⟩
theorem Lrn.none:Lrn (fun _=>False) T [] []:=by
 refine ⟨fun x hx=>?_,List.nodup_nil,fun x hx=>?_,fun b hb=>hb.elim,fun x hx=>?_⟩
 ·rcases hx with hx|hx<;>cases hx
 ·rcases hx with ⟨t,h1,h2,h3⟩|⟨t,a,h1,h2,h3,h4⟩|⟨h1,h2,h3⟩
  ·cases h1
  ·cases h1
  ·exfalso
   cases hl:x.l with
   | nil=>exact h2 hl
   | cons y r=>exact absurd (h3 y (by rw [hl];simp)) (by simp)
 ·rcases hx with hx|hx<;>cases hx
end
def leastR [∀p:Prop,Decidable p] (D:(Tm→Prop)→Prop):(Tm→Prop)→List Tm→List Tm
 | _,[]=>[]
 | K,x::r=>if D (fun t=>K t∨t∈r) then leastR D K r else x::leastR D (fun t=>K t∨t=x) r
def leastF [∀p:Prop,Decidable p] (D:(Tm→Prop)→Prop) (K:Tm→Prop) (l:List Tm):List Tm:=(leastR D K l.reverse).reverse
theorem leastR_none {D:(Tm→Prop)→Prop} (hD:∀K K':Tm→Prop,(∀t,K t→K' t)→D K→D K') {r:List Tm}:∀ {K:Tm→Prop},D K→leastR D K r=[]:=by
 induction r with
 | nil=>intro K _;rfl
 | cons x r ih =>
  intro K h
  rw [leastR,if_pos (hD _ _ (fun t ht=>Or.inl ht) h)]
  exact ih h
theorem leastR_app {D:(Tm→Prop)→Prop} (f:List Tm):∀(r:List Tm) (K:Tm→Prop),leastR D K (r++f)=leastR D (fun t=>K t∨t∈f) r++leastR D (fun t=>K t∨t∈leastR D (fun t=>K t∨t∈f) r) f:=by
 intro r
 induction r with
 | nil =>
  intro K
  have e:(fun t=>K t∨t∈([]:List Tm))=K:=funext fun t=>propext ⟨fun h=>h.resolve_right (by simp),Or.inl⟩
  show leastR D K f=[]++leastR D (fun t=>K t∨t∈([]:List Tm)) f
  rw [e,List.nil_append]
 | cons x r ih =>
  intro K
  have e1:(fun t=>K t∨t∈r++f)=fun t=>(K t∨t∈f)∨t∈r:=funext fun t=>propext (by rw [List.mem_append];exact ⟨fun h=>h.elim (fun a=>Or.inl (Or.inl a)) (fun a=>a.elim Or.inr (fun b=>Or.inl (Or.inr b))),fun h=>h.elim (fun a=>a.elim Or.inl (fun b=>Or.inr (Or.inr b))) (fun a=>Or.inr (Or.inl a))⟩)
  rw [List.cons_append,leastR,leastR,e1]
  by_cases hd:D (fun t=>(K t∨t∈f)∨t∈r)
  ·rw [if_pos hd,if_pos hd]
   exact ih K
  ·rw [if_neg hd,if_neg hd,ih]
   have e2:(fun t=>(K t∨t=x)∨t∈f)=fun t=>(K t∨t∈f)∨t=x:=funext fun t=>propext ⟨fun h=>h.elim (fun a=>a.elim (fun b=>Or.inl (Or.inl b)) Or.inr) (fun a=>Or.inl (Or.inr a)),fun h=>h.elim (fun a=>a.elim (fun b=>Or.inl (Or.inl b)) Or.inr) (fun a=>Or.inl (Or.inr a))⟩
   rw [e2,List.cons_append]
   congr 2
   congr 1
   funext t
   refine propext ?_
   rw [List.mem_cons]
   exact ⟨fun h=>h.elim (fun a=>a.elim Or.inl (fun b=>Or.inr (Or.inl b))) (fun a=>Or.inr (Or.inr a)),fun h=>h.elim (fun a=>Or.inl (Or.inl a)) (fun a=>a.elim (fun b=>Or.inl (Or.inr b)) Or.inr)⟩
theorem leastF_app {D:(Tm→Prop)→Prop} (K:Tm→Prop) (f s:List Tm):leastF D K (f++s)=leastF D (fun t=>K t∨t∈leastF D (fun t=>K t∨t∈f) s) f++leastF D (fun t=>K t∨t∈f) s:=by
 unfold leastF
 have e:(fun t=>K t∨t∈f.reverse)=fun t=>K t∨t∈f:=funext fun t=>propext (by rw [List.mem_reverse])
 have e2:∀l:List Tm,(fun t=>K t∨t∈l.reverse)=fun t=>K t∨t∈l:=fun l=>funext fun t=>propext (by rw [List.mem_reverse])
 rw [List.reverse_append,leastR_app,e,List.reverse_append,e2]
theorem leastF_none {D:(Tm→Prop)→Prop} (hD:∀K K':Tm→Prop,(∀t,K t→K' t)→D K→D K') {K:Tm→Prop} (h:D K) (l:List Tm):leastF D K l=[]:=by
 unfold leastF
 rw [leastR_none hD h];rfl
theorem leastF_one {D:(Tm→Prop)→Prop} {K:Tm→Prop} (h:¬D K) (x:Tm):leastF D K [x]=[x]:=by
 have e:(fun t=>K t∨t∈([]:List Tm))=K:=funext fun t=>propext ⟨fun h=>h.resolve_right (by simp),Or.inl⟩
 unfold leastF
 show (leastR D K [x]).reverse=[x]
 rw [leastR,e,if_neg h]
 rfl
open Go Go.RowKit Go.Maps
def nums (l:List Nat):List Value:=l.map fun (q:Nat)=>.int .i64 (q:Int)
theorem aL (l:List Nat):(nums l).length=l.length:=by simp [nums]
theorem dk {l:List Nat} {i q:Nat} (h:l[i]?=some q):(nums l)[i]?=some (.int .i64 (q:Int)):=by simp [nums,h]
theorem aU:Tryz.prog.underlying 41=some (.slice 3):=Tryz.underlying41
theorem d9:Tryz.prog.underlying 59=some (.slice 65):=Tryz.underlying59
theorem cY:Tryz.prog.underlying 60=some (.slice 41):=Tryz.underlying60
theorem un_two:Tryz.prog.underlying 63=some (.array 2 3):=Tryz.underlying63
theorem cC:(Tryz.prog.info? 65).map (·.size)=some 5:=by kernel_rfl
theorem e6:(Tryz.prog.info? 41).map (·.size)=some 1:=by kernel_rfl
theorem bB:(Tryz.prog.info? 3).map (·.size)=some 1:=by kernel_rfl
theorem bC:∀w,(isAgg 41).run Tryz.prog w=.ok false w:=by intro w;simp [go_sem]
theorem bw:∀w,(isAgg 59).run Tryz.prog w=.ok false w:=by intro w;simp [go_sem]
theorem da:∀w,(isAgg 60).run Tryz.prog w=.ok false w:=by intro w;simp [go_sem]
theorem bD:∀w,(isAgg 39).run Tryz.prog w=.ok false w:=by intro w;simp [go_sem]
theorem fg:∀w,(isAgg 50).run Tryz.prog w=.ok false w:=by intro w;simp [go_sem]
structure WebR (w:World) (g:Nat) (T:List Tm) (AR:Nat→Option Addr×Nat×List Nat) (m bs cs ba ca:Nat):Prop where
 row:Row w g [.map (some m),.slice (some ⟨bs,0,none⟩) T.length cs,.slice (some ⟨ba,0,none⟩) T.length ca] 62
 sh:∀i t,T[i]?=some t→w.cell? ⟨bs,i * 5,none⟩=some (.int .i64 t.k)∧w.cell? ⟨bs,i * 5+1,none⟩=some (.int .i64 t.n)∧w.cell? ⟨bs,i * 5+2,none⟩=some (.int .i64 (t.l.length:Int))∧t.l.length≤2∧∀(j:Nat) (x:Tm),t.l[j]?=some x→∃q:Nat,T[q]?=some x∧w.cell? ⟨bs,i * 5+3+j,none⟩=some (.int .i64 (q:Int))
 ar:∀i,i<T.length→w.cell? ⟨ba,i,none⟩=some (.slice (AR i).1 (AR i).2.2.length (AR i).2.1)∧SlV 1 w (.slice (AR i).1 (AR i).2.2.length (AR i).2.1) (AR i).2.2.length (nums (AR i).2.2)
theorem WebR.below {w w':World} {g:Nat} {T:List Tm} {AR:Nat→Option Addr×Nat×List Nat} {m bs cs ba ca:Nat} (h:WebR w g T AR m bs cs ba ca) (hb:Below w.heap.size w w'):WebR w' g T AR m bs cs ba ca:=by
 have kc:∀(b o:Nat) (v:Value),w.cell? ⟨b,o,none⟩=some v→w'.cell? ⟨b,o,none⟩=some v:=fun b o v hv=>(hb.cell (p:=⟨b,o,none⟩) (block_lt_of_cell hv)).trans hv
 refine ⟨h.row.below' hb,fun i t ht=>?_,fun i hi=>?_⟩
 ·obtain ⟨a1,a2,a3,a4,a5⟩:=h.sh i t ht
  refine ⟨kc _ _ _ a1,kc _ _ _ a2,kc _ _ _ a3,a4,fun j x hx=>?_⟩
  obtain ⟨q,h1,h2⟩:=a5 j x hx
  exact ⟨q,h1,kc _ _ _ h2⟩
 ·obtain ⟨h1,h2⟩:=h.ar i hi
  exact ⟨kc _ _ _ h1,h2.below hb⟩
def knownP (T R:List Tm):Value→Value→Prop:=fun k v=>v=.agg [].toArray∧∃(i:Nat) (t:Tm),T[i]?=some t∧t∈R∧k=.int .i64 (i:Int)
theorem eK:Keyed Tryz.prog 3:=int_keyed Tryz.underlying3
section
variable {a:Act} {w:World} {dst:Option Tmp} {typ:TypeId} {pos:String} {aft:Array Edge} {gd:Option (Nat×Bool)}
theorem bS {x ix:Operand} {b n cap:Nat} (i:Nat) {ii:Int} (hx:a.eval x=.slice (some ⟨b,0,none⟩) n cap) (hix:a.eval ix=.int .i64 ii) (hii:ii=(i:Int)) (hi:i<n) :
  (execOp a.eval {dst:=dst,op:=.indexAddr 59 x ix,type:=typ,pos:=pos,after:=aft,guard:=gd}).run Tryz.prog w=.ok (.value (.pointer (some ⟨b,i * 5,none⟩))) w:=by
 subst hii
 have h0:(0:Int)≤(i:Int)∧(i:Int)<(n:Int):=by omega
 unfold execOp
 simp [hx,hix,Instr.indexAt,asIntOf,run_underlying d9,h0,aQ]
 omega
theorem eu {x ix:Operand} {b n cap:Nat} (i:Nat) {ii:Int} (hx:a.eval x=.slice (some ⟨b,0,none⟩) n cap) (hix:a.eval ix=.int .i64 ii) (hii:ii=(i:Int)) (hi:i<n) :
  (execOp a.eval {dst:=dst,op:=.indexAddr 60 x ix,type:=typ,pos:=pos,after:=aft,guard:=gd}).run Tryz.prog w=.ok (.value (.pointer (some ⟨b,i,none⟩))) w:=by
 subst hii
 have h0:(0:Int)≤(i:Int)∧(i:Int)<(n:Int):=by omega
 unfold execOp
 simp [hx,hix,Instr.indexAt,asIntOf,run_underlying cY,h0,aQ]
 omega
theorem a8 {x ix:Operand} {b o n cap:Nat} (i:Nat) {ii:Int} (hx:a.eval x=.slice (some ⟨b,o,none⟩) n cap) (hix:a.eval ix=.int .i64 ii) (hii:ii=(i:Int)) (hi:i<n) :
  (execOp a.eval {dst:=dst,op:=.indexAddr 41 x ix,type:=typ,pos:=pos,after:=aft,guard:=gd}).run Tryz.prog w=.ok (.value (.pointer (some ⟨b,o+i,none⟩))) w:=by
 subst hii
 have h0:(0:Int)≤(i:Int)∧(i:Int)<(n:Int):=by omega
 unfold execOp
 simp [hx,hix,Instr.indexAt,asIntOf,run_underlying aU,h0,aQ]
 omega
/-- The first n of an array of two. -/
theorem ec {x hi:Operand} {b o n:Nat} {ih:Int} (hn:n≤2) (hx:a.eval x=.pointer (some ⟨b,o,none⟩)) (hhi:a.eval hi=.int .i64 ih) (hih:ih=(n:Int)) :
  (execOp a.eval {dst:=dst,op:=.slice 63 x none (some hi) none,type:=typ,pos:=pos,after:=aft,guard:=gd}).run Tryz.prog w=.ok (.value (.slice (some ⟨b,o,none⟩) n 2)) w:=by
 subst hih
 have h0:(0:Int)≤(n:Int)∧(n:Int)≤2:=by omega
 have h3:(Tryz.prog.info? 3).map (·.size)=some 1:=bB
 cases hq:Tryz.prog.info? 3 with
 | none=>rw [hq] at h3;cases h3
 | some i =>
  unfold execOp
  simp [hx,hhi,Instr.sliceAt,Sem.run_bind,run_underlying un_two,Instr.sureAddr,Instr.sliceBounds,Instr.sliceBound,asIntOf,h0,sizeOf,typeInfo,hq,aQ]
  intro h9
  omega
end
open Go Go.RowKit
theorem aY (t:Tm) (p:Option Addr) (m c:Nat):∀v∈tcs t (.slice p m c),v.oneCell'=true:=by
 intro v hv
 simp only [tcs,List.mem_cons,List.not_mem_nil,or_false] at hv
 rcases hv with rfl|rfl|rfl<;>rfl
theorem dQ {l:List Tm} {k:Nat} {x:Tm} (hx:l[k]?=some x):((l.take (k+1)).map cnt).sum=((l.take k).map cnt).sum+cnt x:=by
 rw [List.take_add_one,hx];simp
theorem sum_ge {l:List Tm} {k:Nat} (h:k≤l.length):k≤((l.take k).map cnt).sum:=by
 induction l generalizing k with
 | nil=>simp at h;omega
 | cons x l ih =>
  cases k with
  | zero=>omega
  | succ k =>
   have h1:=ih (k:=k) (by simpa using h)
   have h2:=eH x
   simp only [List.take_succ_cons,List.map_cons,List.sum_cons]
   omega
theorem dX (a b:Int) (h:a=b):(a==b)=true:=by rw [h];exact beq_self_eq_true b
theorem aD (a b:Int) (h:a≠b):(a==b)=false:=beq_eq_false_iff_ne.2 h
theorem aX {l:List Tm} {k m:Nat} (hm:m=l.length) (h:k<m):∃x,l[k]?=some x:=by
 subst hm;exact ⟨l[k],List.getElem?_eq_getElem h⟩
theorem countTo_any {F:Nat→Prop} (t:Tm):∀(n:Nat) (s:Value) (w:World),1≤n→n≤100→SlT F w s t.l →
  Calls Tryz.prog 52 #[.int .i64 (n:Int),.agg (tcs t s).toArray] w fun e w'=>e=.returned (.int .i64 ((min n (cnt t):Nat):Int))∧Below w.heap.size w w':=by
 induction t using Tm.ind with
 | h t ih =>
 intro n s w hn1 hn2 hs
 obtain ⟨p,cap,rfl,hcap⟩:=hs.len
 obtain ⟨m,hml⟩:∃m,m=t.l.length:=⟨_,rfl⟩
 have HIH:Hid _:=ih
 have HM:Hid (∀_:Unit,m=t.l.length):=fun _=>hml
 have HS:Hid (SlT F w (.slice p m cap) t.l):=by rw [hml];exact hs
 have HTK:Hid (∀_:Unit,((t.l.take m).map cnt).sum+1=cnt t):=fun _=>by rw [hml,List.take_length,bQ];omega
 rw [←hml]
 clear ih hs hml hcap
 have hm:=Mem.start w
 go_enter Tryz.func52,Tryz.ntmps52
 go_wp2_with (first
  | ((with_reducible refine af (some 3) (.box 24 (.tmp 1)) ?_);go_must (refine aw (tcs t (.slice p m cap)) rfl hm ?_);clear hm;intro w1 g1 hm)
  | ((with_reducible refine af (some 9) (.load 22 (.tmp 8)) ?_);go_must (refine aa (.slice p m cap) rfl (ad (.slice p m cap) (Mem.cell hm 0 rfl 2) rfl ah) ?_)))
 go_loopw [11,5] (fun vi vc wr=>∃k c:Nat,k≤m∧vi=.int .i64 (k:Int)∧vc=.int .i64 (c:Int)∧Hid (c=min n (1+((t.l.take k).map cnt).sum))∧Hid (Mem w [] wr [])) (fun vi _ _=>m - (intOf vi).toNat)
 case atStart=>exact ⟨0,1,by omega,rfl,rfl,by show _=_;simp;omega,hm.sub (List.nil_sublist _)⟩
 case round =>
  clear hm
  obtain ⟨k,c,hk,rfl,rfl,HC,HMM⟩:=hrel
  by_cases hlt:k<m
  ·have hki:(k:Int)<(m:Int):=by omega
   obtain ⟨b,o,rfl⟩:=HS.out.at (show 0<m by omega)
   obtain ⟨x,hx⟩:=aX (HM.out ()) hlt
   have hm:=HMM.out
   obtain ⟨px,mx,cx,c0,c1,c2,rfl,hsx⟩:=(HS.out.below hm.below).cells hx
   have HX:Hid (SlT F wr (.slice px x.l.length cx) x.l):=hsx
   have HNX:Hid (1+((t.l.take (k+1)).map cnt).sum=1+((t.l.take k).map cnt).sum+cnt x):=by show _=_;rw [dQ hx];omega
   have HMX:Hid (x∈t.l):=List.mem_of_getElem? hx
   have hcn:c≤n:=by have:=HC.out;omega
   have HCN:=HC
   obtain ⟨mx,hmx⟩:∃mx,mx=x.l.length:=⟨_,rfl⟩
   have HX2:Hid (SlT F wr (.slice px mx cx) x.l):=by rw [hmx];exact HX.out
   rw [←hmx] at c2
   clear hsx hx HMM HX hmx
   by_cases hc:c=n
   ·have hci:((c:Int)==(n:Int))=true:=dX _ _ (by omega)
    have HR:Hid (∀_:Unit,min n (cnt t)=c):=fun _=>by
     have h1:=HCN.out;have h2:=HTK.out ()
     have h3:((t.l.take k).map cnt).sum≤((t.l.take m).map cnt).sum:=by
      have e:=List.take_append_drop k (t.l.take m)
      rw [List.take_take,Nat.min_eq_left (by omega)] at e
      rw [←e,List.map_append,List.sum_append];omega
     omega
    clear hc HC HCN HNX
    go_wp2_with (first
     | ((with_reducible refine af (some 13) (.indexAddr 22 (.tmp 9) (.tmp 11)) ?_);go_must (refine aa (.pointer (some ⟨b,o+k * 3,none⟩)) rfl (ak k rfl rfl rfl hlt) ?_))
     | ((with_reducible refine af (some 14) (.load 24 (.tmp 13)) ?_);go_must (refine aa (.agg (tcs x (.slice px mx cx)).toArray) rfl (am rfl c0 c1 c2) ?_))
     | ((with_reducible refine af (some 7) (.alloc 24) ?_);go_must (refine ap _ ax hm ?_);clear hm;intro w2 g2 hm)
     | ((with_reducible refine af none (.store 24 (.tmp 7) (.tmp 14)) ?_);go_must (refine au 0 (tcs x (.slice px mx cx)) hm rfl rfl rfl 3 aj rfl rfl (aY _ _ _ _) ?_);clear hm;intro w3 hm))
    go_ret
    exact ⟨by rw [HR.out ()];rfl,hm.below⟩
   ·have hci:((c:Int)==(n:Int))=false:=aD _ _ (by omega)
    obtain ⟨d,hd⟩:∃d,d=min (n - c) (cnt x):=⟨_,rfl⟩
    have hd1:d≤100:=by omega
    have hk100:k<100:=by
     have h1:=sum_ge (l:=t.l) (k:=k) (by have:=HM.out ();omega)
     have h2:=HCN.out
     omega
    have HND:Hid (c+d=min n (1+((t.l.take (k+1)).map cnt).sum)):=by show _=_;have h1:=HCN.out;have h2:=HNX.out;omega
    have hw:IntKind.i64.wrap ((n:Int) - (c:Int))=((n - c:Nat):Int):=(bm _ (by omega) (by omega)).trans (by omega)
    have hw2:IntKind.i64.wrap ((c:Int)+(d:Int))=((c+d:Nat):Int):=(bm _ (by omega) (by omega)).trans (by omega)
    have HCALL:Hid (∀W,Below wr.heap.size wr W→Calls Tryz.prog 52 #[.int .i64 ((n - c:Nat):Int),.agg (tcs x (.slice px mx cx)).toArray] W fun e w'=>e=.returned (.int .i64 (d:Int))∧Below W.heap.size W w'):=fun W hW=>by
     have h9:=HIH.out x HMX.out (n - c) (.slice px mx cx) W (by omega) (by omega) (HX2.out.below hW)
     rw [←hd] at h9
     exact h9
    have HST:=Hid.out (show Hid (wr=wr) from rfl)
    have HB0:Hid (Mem w [] wr []):=hm
    replace hm:=Mem.start wr
    clear hc hd HC HCN HNX
    go_wp2_with (first
     | ((with_reducible refine af (some 13) (.indexAddr 22 (.tmp 9) (.tmp 11)) ?_);go_must (refine aa (.pointer (some ⟨b,o+k * 3,none⟩)) rfl (ak k rfl rfl rfl hlt) ?_))
     | ((with_reducible refine af (some 14) (.load 24 (.tmp 13)) ?_);go_must (refine aa (.agg (tcs x (.slice px mx cx)).toArray) rfl (am rfl c0 c1 c2) ?_))
     | ((with_reducible refine af (some 7) (.alloc 24) ?_);go_must (refine ap _ ax hm ?_);clear hm;intro w2 g2 hm)
     | ((with_reducible refine af none (.store 24 (.tmp 7) (.tmp 14)) ?_);go_must (refine au 0 (tcs x (.slice px mx cx)) hm rfl rfl rfl 3 aj rfl rfl (aY _ _ _ _) ?_);clear hm;intro w3 hm)
     | ((with_reducible refine af (some 22) (.load 24 (.tmp 7)) ?_);go_must (refine aE 0 hm rfl rfl _ Tryz.underlying24 rfl 3 aj rfl ?_))
     | (go_at_call 52;go_must (refine (HCALL.out _ hm.below).mono ?_);rintro e w4 ⟨he,hb⟩;subst he;replace hm:=hm.call hb;clear hb))
    go_roundw
    case rel=>exact ⟨k+1,c+d,by omega,by go_num,by first|rfl|(rw [hw2]),HND.out,HB0.out.call hm.below⟩
    case measure=>simp [intOf];omega
  ·have hkn:m=k:=by omega
   subst hkn
   have hni:¬(m:Int)<(m:Int):=by omega
   have HR:Hid (∀_:Unit,min n (cnt t)=c):=fun _=>by have h1:=HC.out;have h2:=HTK.out ();omega
   have hm:=HMM.out
   clear HC
   go_wp2_with fail
   go_ret
   exact ⟨by rw [HR.out ()];rfl,hm.below⟩
theorem count_any {F:Nat→Prop} (t:Tm) (s:Value) (w:World) (hs:SlT F w s t.l) :
  Calls Tryz.prog 41 #[.agg (tcs t s).toArray] w fun e w'=>e=.returned (.int .i64 ((min 61 (cnt t):Nat):Int))∧Below w.heap.size w w':=by
 have hm:=Mem.start w
 have HS:Hid (SlT F w s t.l):=hs
 have HC:Hid (∀W,Below w.heap.size w W→Calls Tryz.prog 52 #[.int .i64 61,.agg (tcs t s).toArray] W fun e w'=>e=.returned (.int .i64 ((min 61 (cnt t):Nat):Int))∧Below W.heap.size W w'):=fun W hW=>countTo_any t 61 s W (by omega) (by omega) (HS.out.below hW)
 obtain ⟨c,hc⟩:∃c,c=min 61 (cnt t):=⟨_,rfl⟩
 rw [←hc] at HC ⊢
 clear hs hc
 go_enter Tryz.func41,Tryz.ntmps41
 go_wp2_with (first
  | ((with_reducible refine af (some 1) (.box 24 (.tmp 0)) ?_);go_must (refine aw (tcs t s) rfl hm ?_);clear hm;intro w1 g1 hm)
  | ((with_reducible refine af (some 3) (.load 24 (.tmp 1)) ?_);go_must (refine aE 0 hm rfl rfl _ Tryz.underlying24 rfl 3 aj rfl ?_))
  | (go_at_call 52;go_must (refine (HC.out _ hm.below).mono ?_);rintro e w2 ⟨he,hb⟩;subst he;replace hm:=hm.call hb;clear hb))
 go_ret
 exact ⟨rfl,hm.below⟩
def fmv (k:Int):List Value:=if 1≤k∧k≤5 then [.string (mkS (wd k)),.bool (nb k),.int .i64 (kn k:Int)] else [.string noStr,.bool false,.int .i64 0]
theorem bX (k:Int):∀v∈fmv k,v.oneCell'=true:=by
 intro v hv
 unfold fmv at hv
 split at hv
 all_goals
  simp only [List.mem_cons,List.not_mem_nil,or_false] at hv
  rcases hv with rfl|rfl|rfl<;>rfl
theorem aW {k:Int} (h:1≤k∧k≤5):fmv k=[.string (mkS (wd k)),.bool (nb k),.int .i64 (kn k:Int)]:=if_pos h
theorem bd (k:Int) (w:World) :
  Calls Tryz.prog 53 #[.int .i64 k] w fun e w'=>e=.returned (.tuple #[.agg (fmv k).toArray,.bool (decide (1≤k∧k≤5))])∧Below w.heap.size w w':=by
 have hm:=Mem.start w
 have hcase:k=1∨k=2∨k=3∨k=4∨k=5∨¬(1≤k∧k≤5):=by omega
 rcases hcase with rfl|rfl|rfl|rfl|rfl|hk
 ·have HF:Hid (∀_:Unit,fmv 1=[.string (mkS [110]),.bool true,.int .i64 0]):=fun _=>rfl
  go_enter Tryz.func53,Tryz.ntmps53
  go_wp2_with (first
   | ((with_reducible refine af (some 2) (.alloc 85) ?_);go_must (refine ap _ aI hm ?_);clear hm;intro w1 g1 hm)
   | ((with_reducible refine af none (.store 85 (.tmp 2) (.tmp 7)) ?_);go_must (refine au 0 ([.string (mkS [110]),.bool true,.int .i64 0]) hm rfl rfl rfl 3 aJ rfl rfl ((by intro v hv;simp only [List.mem_cons,List.not_mem_nil,or_false] at hv;rcases hv with rfl|rfl|rfl<;>rfl)) ?_);clear hm;intro w2 hm))
  refine bJ 0 (.bool true) hm rfl Tryz.results53 rfl rfl _ Tryz.underlying85 rfl 3 aJ rfl rfl ?_
  rw [HF.out ()]
  exact ⟨rfl,hm.below⟩
 ·have HF:Hid (∀_:Unit,fmv 2=[.string (mkS [107]),.bool true,.int .i64 0]):=fun _=>rfl
  go_enter Tryz.func53,Tryz.ntmps53
  go_wp2_with (first
   | ((with_reducible refine af (some 2) (.alloc 85) ?_);go_must (refine ap _ aI hm ?_);clear hm;intro w1 g1 hm)
   | ((with_reducible refine af none (.store 85 (.tmp 2) (.tmp 10)) ?_);go_must (refine au 0 ([.string (mkS [107]),.bool true,.int .i64 0]) hm rfl rfl rfl 3 aJ rfl rfl ((by intro v hv;simp only [List.mem_cons,List.not_mem_nil,or_false] at hv;rcases hv with rfl|rfl|rfl<;>rfl)) ?_);clear hm;intro w2 hm))
  refine bJ 0 (.bool true) hm rfl Tryz.results53 rfl rfl _ Tryz.underlying85 rfl 3 aJ rfl rfl ?_
  rw [HF.out ()]
  exact ⟨rfl,hm.below⟩
 ·have HF:Hid (∀_:Unit,fmv 3=[.string (mkS [115,101,97,108]),.bool false,.int .i64 2]):=fun _=>rfl
  go_enter Tryz.func53,Tryz.ntmps53
  go_wp2_with (first
   | ((with_reducible refine af (some 2) (.alloc 85) ?_);go_must (refine ap _ aI hm ?_);clear hm;intro w1 g1 hm)
   | ((with_reducible refine af none (.store 85 (.tmp 2) (.tmp 13)) ?_);go_must (refine au 0 ([.string (mkS [115,101,97,108]),.bool false,.int .i64 2]) hm rfl rfl rfl 3 aJ rfl rfl ((by intro v hv;simp only [List.mem_cons,List.not_mem_nil,or_false] at hv;rcases hv with rfl|rfl|rfl<;>rfl)) ?_);clear hm;intro w2 hm))
  refine bJ 0 (.bool true) hm rfl Tryz.results53 rfl rfl _ Tryz.underlying85 rfl 3 aJ rfl rfl ?_
  rw [HF.out ()]
  exact ⟨rfl,hm.below⟩
 ·have HF:Hid (∀_:Unit,fmv 4=[.string noStr,.bool false,.int .i64 2]):=fun _=>rfl
  go_enter Tryz.func53,Tryz.ntmps53
  go_wp2_with (first
   | ((with_reducible refine af (some 2) (.alloc 85) ?_);go_must (refine ap _ aI hm ?_);clear hm;intro w1 g1 hm)
   | ((with_reducible refine af none (.store 85 (.tmp 2) (.tmp 16)) ?_);go_must (refine au 0 ([.string noStr,.bool false,.int .i64 2]) hm rfl rfl rfl 3 aJ rfl rfl ((by intro v hv;simp only [List.mem_cons,List.not_mem_nil,or_false] at hv;rcases hv with rfl|rfl|rfl<;>rfl)) ?_);clear hm;intro w2 hm))
  refine bJ 0 (.bool true) hm rfl Tryz.results53 rfl rfl _ Tryz.underlying85 rfl 3 aJ rfl rfl ?_
  rw [HF.out ()]
  exact ⟨rfl,hm.below⟩
 ·have HF:Hid (∀_:Unit,fmv 5=[.string (mkS [100]),.bool true,.int .i64 1]):=fun _=>rfl
  go_enter Tryz.func53,Tryz.ntmps53
  go_wp2_with (first
   | ((with_reducible refine af (some 2) (.alloc 85) ?_);go_must (refine ap _ aI hm ?_);clear hm;intro w1 g1 hm)
   | ((with_reducible refine af none (.store 85 (.tmp 2) (.tmp 19)) ?_);go_must (refine au 0 ([.string (mkS [100]),.bool true,.int .i64 1]) hm rfl rfl rfl 3 aJ rfl rfl ((by intro v hv;simp only [List.mem_cons,List.not_mem_nil,or_false] at hv;rcases hv with rfl|rfl|rfl<;>rfl)) ?_);clear hm;intro w2 hm))
  refine bJ 0 (.bool true) hm rfl Tryz.results53 rfl rfl _ Tryz.underlying85 rfl 3 aJ rfl rfl ?_
  rw [HF.out ()]
  exact ⟨rfl,hm.below⟩
 ·have HF:Hid (∀_:Unit,fmv k=[.string noStr,.bool false,.int .i64 0]∧decide (1≤k∧k≤5)=false):=fun _=>⟨if_neg hk,decide_eq_false hk⟩
  have e1:(k==(1:Int))=false:=aD _ _ (by omega)
  have e2:(k==(2:Int))=false:=aD _ _ (by omega)
  have e3:(k==(3:Int))=false:=aD _ _ (by omega)
  have e4:(k==(4:Int))=false:=aD _ _ (by omega)
  have e5:(k==(5:Int))=false:=aD _ _ (by omega)
  clear hk
  go_enter Tryz.func53,Tryz.ntmps53
  go_wp2_with (first
   | ((with_reducible refine af (some 2) (.alloc 85) ?_);go_must (refine ap _ aI hm ?_);clear hm;intro w1 g1 hm)
   | ((with_reducible refine af none (.store 85 (.tmp 2) (.tmp 20)) ?_);go_must (refine au 0 ([.string noStr,.bool false,.int .i64 0]) hm rfl rfl rfl 3 aJ rfl rfl ((by intro v hv;simp only [List.mem_cons,List.not_mem_nil,or_false] at hv;rcases hv with rfl|rfl|rfl<;>rfl)) ?_);clear hm;intro w2 hm))
  refine bJ 0 (.bool false) hm rfl Tryz.results53 rfl rfl _ Tryz.underlying85 rfl 3 aJ rfl rfl ?_
  rw [(HF.out ()).1,(HF.out ()).2]
  exact ⟨rfl,hm.below⟩
def hasF (b:Bool) (n:Int):Bool:=if b then decide (0≤n∧n≤99) else decide (n=0)
theorem has_any (k n:Int) (h:1≤k∧k≤5) (w:World) :
  Calls Tryz.prog 54 #[.agg (fmv k).toArray,.int .i64 n] w fun e w'=>e=.returned (.bool (hasF (nb k) n))∧Below w.heap.size w w':=by
 have hm:=Mem.start w
 have HF:Hid (∀_:Unit,fmv k=[.string (mkS (wd k)),.bool (nb k),.int .i64 (kn k:Int)]):=fun _=>aW h
 rw [HF.out ()]
 clear h
 cases hb:nb k with
 | true =>
  have HR:Hid (∀_:Unit,hasF true n=(decide (0≤n)&&decide (n≤99))):=fun _=>by simp [hasF]
  rw [HR.out ()]
  clear hb
  go_enter Tryz.func54,Tryz.ntmps54
  go_wp2_with (first
   | ((with_reducible refine af (some 2) (.box 85 (.tmp 0)) ?_);go_must (refine aw [.string (mkS (wd k)),.bool true,.int .i64 (kn k:Int)] rfl hm ?_);clear hm;intro w1 g1 hm)
   | ((with_reducible refine af (some 6) (.load 4 (.tmp 5)) ?_);go_must (refine aa (.bool true) rfl (ad (.bool true) (Mem.cell hm 0 rfl 1) rfl bM) ?_)))
  all_goals go_ret
  all_goals exact ⟨by first|rfl|(simp_all;done)|(simp_all;omega),hm.below⟩
 | false =>
  have HR:Hid (∀_:Unit,hasF false n=decide (n=0)):=fun _=>rfl
  rw [HR.out ()]
  clear hb
  go_enter Tryz.func54,Tryz.ntmps54
  go_wp2_with (first
   | ((with_reducible refine af (some 2) (.box 85 (.tmp 0)) ?_);go_must (refine aw [.string (mkS (wd k)),.bool false,.int .i64 (kn k:Int)] rfl hm ?_);clear hm;intro w1 g1 hm)
   | ((with_reducible refine af (some 6) (.load 4 (.tmp 5)) ?_);go_must (refine aa (.bool false) rfl (ad (.bool false) (Mem.cell hm 0 rfl 1) rfl bM) ?_)))
  all_goals go_ret
  all_goals exact ⟨by first|rfl|(simp_all;done)|(simp_all;omega),hm.below⟩
end Go.Proofs.YtcibhfcjbokdlaaGreatDoor
