import Derived.Shelf.Abstract
import Derived.Test.YtlpnafdkhoimhaaGreatDoorQr27
import Derived.Test.YtlpnafdkhoimhaaGreatDoorQr28
set_option maxRecDepth 100000
set_option maxHeartbeats 4000000
namespace Go.Proofs.YtlpnafdkhoimhaaGreatDoor
open Go Go.RowKit Go.Maps Go.Sort
def tri (ks:List ByteArray):Tri:=(ks.getD 0 noStr,ks.getD 1 noStr,ks.getD 2 noStr)
theorem encT_tri (ks:List ByteArray):encT (tri ks)=plv ks:=rfl
def neS (s:ByteArray):Bool := !decide (s=noStr)
theorem iZ:¬neS noStr=true:=by simp [neS]
def un (x:Tri):List ByteArray:=(lst x).filter neS
theorem un_tri {ks:List ByteArray} (h:PlOk ks):un (tri ks)=ks:=by
 have hl:=h.len
 have hz:∀ {s},s∈ks→neS s=true:=fun {s} hs=>by
  have h1:=(h.size hs).1
  simp only [neS,Bool.not_eq_true',decide_eq_false_iff_not]
  rintro rfl
  exact absurd h1 (by decide)
 match ks,hl with
 | [],_ =>
  show List.filter neS [noStr,noStr,noStr]=[]
  rw [List.filter_cons_of_neg iZ,List.filter_cons_of_neg iZ,List.filter_cons_of_neg iZ,List.filter_nil]
 | [a],_ =>
  have h1:=hz (s:=a) (by simp)
  show List.filter neS [a,noStr,noStr]=[a]
  rw [List.filter_cons_of_pos h1,List.filter_cons_of_neg iZ,List.filter_cons_of_neg iZ,List.filter_nil]
 | [a,b],_ =>
  have h1:=hz (s:=a) (by simp);have h2:=hz (s:=b) (by simp)
  show List.filter neS [a,b,noStr]=[a,b]
  rw [List.filter_cons_of_pos h1,List.filter_cons_of_pos h2,List.filter_cons_of_neg iZ,List.filter_nil]
 | [a,b,c],_ =>
  have h1:=hz (s:=a) (by simp);have h2:=hz (s:=b) (by simp);have h3:=hz (s:=c) (by simp)
  show List.filter neS [a,b,c]=[a,b,c]
  rw [List.filter_cons_of_pos h1,List.filter_cons_of_pos h2,List.filter_cons_of_pos h3,List.filter_nil]
 | _::_::_::_::_,h=>simp at h
def Srt (L:List (List ByteArray)):Prop:=(L.map tri).Pairwise fun x y=>(!(ltOf cfT) y x)=true
def PlSl (B:Nat) (w:World) (v:Value) (L:List (List ByteArray)):Prop :=
 ∃p cap,v=.slice p L.length cap∧(0<L.length→∃b,p=some ⟨b,0,none⟩∧B≤b∧b<w.heap.size∧∀i ks,L[i]?=some ks→∀j x,(plv ks)[j]?=some x→w.cell? ⟨b,i * 3+j,none⟩=some x)
theorem PlSl.keep {B:Nat} {w w':World} {v:Value} {L:List (List ByteArray)} (h:PlSl B w v L) (hs:w.heap.size≤w'.heap.size) (hb:∀b,B≤b→b<w.heap.size→w'.heap[b]?=w.heap[b]?∨w.cell? ⟨b,0,none⟩=none):PlSl B w' v L:=by
 obtain ⟨p,cap,hv,hp⟩:=h
 refine ⟨p,cap,hv,fun h0=>?_⟩
 obtain ⟨b,hb1,hb2,hb3,hc⟩:=hp h0
 refine ⟨b,hb1,hb2,by omega,fun i ks hi j x hx=>?_⟩
 rcases hb b hb2 hb3 with h1|h1
 ·rw [World.cell?_of_block (a:=⟨b,i * 3+j,none⟩) h1];exact hc i ks hi j x hx
 ·have:=hc 0 (L[0]'h0) (by simp) 0 ((plv (L[0]'h0))[0]'(by rw [plv3];omega)) (by simp)
  simp only [Nat.zero_mul,Nat.add_zero] at this
  rw [h1] at this;cases this
theorem PlSl.below {B:Nat} {w w':World} {v:Value} {L:List (List ByteArray)} (h:PlSl B w v L) (hb:Below w.heap.size w w'):PlSl B w' v L:=h.keep hb.size (fun b _ h2=>Or.inl (hb.block b h2))
theorem ag_rp:∀w,(isAgg 76).run Tryz.prog w=.ok true w:=by intro w;simp [go_sem]
theorem szo_rp:∀w,(Go.sizeOf 76).run Tryz.prog w=.ok 3 w:=by intro w;simp [go_sem]
theorem enc_one (x:Tri):∀v∈encT x,v.oneCell'=true:=by intro v hv;simp [encT,strs,lst] at hv;rcases hv with rfl|rfl|rfl<;>rfl
theorem sort_r {w:World} {g cap:Nat} (L:List (List ByteArray)) (hL:∀ks∈L,PlOk ks) (cur:Array Value) (e:TypeId) (hg:w.heap[g]?=some (.cells cur e (0,0))) (hc:∀i ks,L[i]?=some ks→∀j x,(plv ks)[j]?=some x→w.cell? ⟨g,i * 3+j,none⟩=some x) (hsz:L.length≤100000) :
  Calls Tryz.prog 62 #[.slice (some ⟨g,0,none⟩) L.length cap,.func (.func 63) #[] #[]] w fun e w'=>e=.returned (.tuple #[])∧∃L',L'.Perm L∧Srt L'∧(∀i ks,L'[i]?=some ks→∀j x,(plv ks)[j]?=some x→w'.cell? ⟨g,i * 3+j,none⟩=some x)∧w.grownBy w' (some g):=by
 obtain ⟨d,hd⟩:∃d:Array Tri,d=(L.map tri).toArray:=⟨_,rfl⟩
 have hds:d.size=L.length:=by rw [hd];simp
 have hdi:∀i,i<L.length→∃ks,L[i]?=some ks∧d[i]! = tri ks:=fun i hi=>⟨L[i],by simp [hi],by rw [hd];simp [hi]⟩
 have hglt:g<w.heap.size:=(Array.getElem?_eq_some_iff.1 hg).1
 have hH:HoldsK encT 3 w g 0 d:=by
  intro t ht
  rw [size_flatK] at ht
  obtain ⟨ks,hk,he⟩:=hdi (t / 3) (by omega)
  rw [get_flatK _ _ _ _ ht,he,encT_tri]
  refine ⟨?_,by simp [World.frozen?,hg]⟩
  have h1:=hc (t / 3) ks hk (t % 3) ((plv ks)[t % 3]!) (by rw [List.getElem!_eq_getElem?_getD,List.getElem?_eq_getElem (by rw [plv3];omega)];rfl)
  rw [show t / 3 * 3+t % 3=0+t by omega] at h1
  exact h1
 have eg:∀args w,(callFunc 63 args).run Tryz.prog w=.ok (.enter 63 args) w:=enters_of Tryz.func63 (by kernel_rfl) rfl
 have hcmp:CmpLays Tryz.prog 63 #[] encT 3 cfT g 0 d.size w:=fun _ _ _ _ x y=>(byCode_any x y _).mono (fun _ _ h=>h)
 have hcon:=AnyQ.slices_SortFunc_total sortR 3 ag_rp szo_rp encT (fun _=>rfl) enc_one cfT swoT 63 #[] g 0 cap d w eg hcmp hH hglt (by omega) totT
 rw [hds] at hcon
 refine Calls.mono (show Calls Tryz.prog 62 _ w _ from hcon) ?_
 rintro e' w' ⟨rfl,n,os,hw⟩
 obtain ⟨M,hM⟩:∃M,M=d.toList.mergeSort fun x y => !(ltOf cfT) y x:=⟨_,rfl⟩
 rw [←hM] at hw
 have hMp:M.Perm (L.map tri):=by
  rw [hM,hd]
  exact List.mergeSort_perm _ _
 have hMl:M.length=L.length:=by rw [hMp.length_eq,List.length_map]
 have hMs:M.Pairwise fun x y=>(!(ltOf cfT) y x)=true:=by
  rw [hM]
  refine List.pairwise_mergeSort (fun a b c h1 h2=>?_) (fun a b=>?_) _
  ·simp only [Bool.not_eq_true'] at *
   exact swoT.ntrans c b a h2 h1
  ·cases h1:ltOf cfT b a with
   | false=>rfl
   | true =>
    cases h2:ltOf cfT a b with
    | false=>rfl
    | true=>exact absurd (swoT.trans a b a h2 h1) (by rw [swoT.irrefl];simp)
 have hback:∀x∈M,tri (un x)=x∧PlOk (un x):=fun x hx=>by
  obtain ⟨ks,hk,rfl⟩:=List.mem_map.1 (hMp.mem_iff.1 hx)
  rw [un_tri (hL ks hk)]
  exact ⟨rfl,hL ks hk⟩
 have hMm:(M.map un).map tri=M:=by
  rw [List.map_map]
  conv=>rhs;rw [←List.map_id M]
  exact List.map_congr_left (fun x hx=>(hback x hx).1)
 have hUL:(L.map tri).map un=L:=by
  rw [List.map_map]
  conv=>rhs;rw [←List.map_id L]
  exact List.map_congr_left (fun ks hk=>un_tri (hL ks hk))
 have hH':HoldsK encT 3 w' g 0 M.toArray:=by
  rw [hw]
  exact holdsK_sortWorldK_c encT 3 w g 0 d M.toArray n os hH hglt (by rw [hds];simpa using hMl)
 refine ⟨rfl,M.map un,?_,by unfold Srt;rw [hMm];exact hMs,fun i ks hi j x hx=>?_,?_⟩
 ·have:=hMp.map un
  rw [hUL] at this
  exact this
 ·have hiM:i<M.length:=by
   rcases Nat.lt_or_ge i M.length with h'|h'
   ·exact h'
   ·rw [List.getElem?_eq_none (by simpa using h')] at hi;cases hi
  have hj3:j<3:=by
   rcases Nat.lt_or_ge j 3 with h'|h'
   ·exact h'
   ·rw [List.getElem?_eq_none (by rw [plv3];exact h')] at hx;cases hx
  have h1:=(HoldsK.cell hH' (i:=i) (c:=j) (by simpa using hiM) hj3).1
  rw [Nat.zero_add] at h1
  rw [h1]
  have e1:M.toArray[i]! = M[i]:=by simp [hiM]
  have e2:un M[i]=ks:=by simpa [hiM] using hi
  have e3:encT M[i]=plv ks:=by rw [←(hback M[i] (List.getElem_mem hiM)).1,e2];rfl
  rw [e1,e3,List.getElem!_eq_getElem?_getD,hx];rfl
 ·rw [hw]
  refine ⟨rfl,rfl,rfl,?_,fun k hk hne=>?_⟩
  ·show w.heap.size≤((w.heap.modify g _)++os).size
   simp
  ·show ((w.heap.modify g _)++os)[k]?=w.heap[k]?
   rw [Array.getElem?_append_left (by simpa using hk),Array.getElem?_modify,if_neg (fun h=>hne (by rw [h]))]
end Go.Proofs.YtlpnafdkhoimhaaGreatDoor
