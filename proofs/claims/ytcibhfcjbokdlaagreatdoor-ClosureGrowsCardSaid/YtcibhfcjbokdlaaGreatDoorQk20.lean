import Derived.Deep.LoopGhost
import Derived.Test.YtcibhfcjbokdlaaGreatDoorQk18
set_option maxRecDepth 100000
set_option maxHeartbeats 4000000
namespace Go.Proofs.YtcibhfcjbokdlaaGreatDoor
open Go Go.RowKit Classical
def bitK (z:Int) (i:Nat):Bool:=bits BinOp.and IntKind.u8 (z / 2 ^ i) 1==1
def slSel (p:Nat→Bool):Nat→List Tm
 | 0=>[]
 | j+1=>if p j then slSel p j++[slK j] else slSel p j
def slAll (p:Nat→Bool):Nat→Bool
 | 0=>true
 | j+1=>slAll p j&&p j
theorem slSel_mem {p:Nat→Bool} {j:Nat} {t:Tm}:t∈slSel p j↔∃i,i<j∧p i=true∧t=slK i:=by
 induction j with
 | zero=>simp [slSel]
 | succ j ih =>
  rw [slSel]
  cases hp:p j with
  | true =>
   rw [if_pos rfl,List.mem_append,ih,List.mem_singleton]
   constructor
   ·rintro (⟨i,h1,h2,h3⟩|h)
    ·exact ⟨i,by omega,h2,h3⟩
    ·exact ⟨j,by omega,hp,h⟩
   ·rintro ⟨i,h1,h2,h3⟩
    by_cases hij:i=j
    ·subst hij;exact Or.inr h3
    ·exact Or.inl ⟨i,by omega,h2,h3⟩
  | false =>
   rw [if_neg (by simp),ih]
   constructor
   ·rintro ⟨i,h1,h2,h3⟩;exact ⟨i,by omega,h2,h3⟩
   ·rintro ⟨i,h1,h2,h3⟩
    refine ⟨i,?_,h2,h3⟩
    by_cases hij:i=j
    ·subst hij;rw [hp] at h2;cases h2
    ·omega
theorem slSel_len (p:Nat→Bool) (j:Nat):(slSel p j).length≤j:=by
 induction j with
 | zero=>simp [slSel]
 | succ j ih =>
  rw [slSel];split
  ·rw [List.length_append,List.length_singleton];omega
  ·omega
theorem slSel_sum (p:Nat→Bool) (j:Nat):((slSel p j).map cnt).sum≤j:=by
 induction j with
 | zero=>simp [slSel]
 | succ j ih =>
  rw [slSel];split
  ·rw [List.map_append,List.sum_append]
   have:cnt (slK j)=1:=by rw [slK,bM];rfl
   simp [this];omega
  ·omega
theorem slAll_iff {p:Nat→Bool} {j:Nat}:slAll p j=true↔∀i,i<j→p i=true:=by
 induction j with
 | zero=>simp [slAll]
 | succ j ih =>
  rw [slAll,Bool.and_eq_true,ih]
  constructor
  ·rintro ⟨h1,h2⟩ i hi
   by_cases hij:i=j
   ·subst hij;exact h2
   ·exact h1 i (by omega)
  ·intro h;exact ⟨fun i hi=>h i (by omega),h j (by omega)⟩
theorem sl_kn {p:Nat→Bool} {k:Nat} (hk:k≤10):Kn (slT k::slSel p k) (slT 0)↔slAll p k=true:=by
 have hin:∀t,inB (slT k::slSel p k) t↔t=slT k∨∃i,i<k∧p i=true∧t=slK i:=fun t=>by
  unfold inB
  rw [List.mem_cons,slSel_mem]
  constructor
  ·rintro ⟨h,_⟩;exact h
  ·intro h
   refine ⟨h,?_⟩
   rcases h with rfl|⟨i,hi,_,rfl⟩
   ·exact ed hk
   ·exact slK_isT (by omega)
 constructor
 ·intro h
  rw [slAll_iff]
  intro j hj
  cases hp:p j with
  | true=>rfl
  | false =>
   exfalso
   refine sl_no hj (by omega) (fun t ht=>?_) h.2
   rcases (hin t).1 ht with h1|⟨i,h1,h2,h3⟩
   ·exact Or.inl h1
   ·exact Or.inr ⟨i,h1,(fun he=>by rw [he,hp] at h2;cases h2),h3⟩
 ·intro h
  rw [slAll_iff] at h
  have h1:=sl_yes (B:=inB (slT k::slSel p k)) (k:=k) ((hin _).2 (Or.inl rfl)) (fun i hi=>(hin _).2 (Or.inr ⟨i,hi,h i hi,rfl⟩)) k (Nat.le_refl _)
  rw [Nat.sub_self] at h1
  exact ⟨ed (by omega),h1⟩
theorem sl_kn2 {p:Nat→Bool} {k:Nat} (hk:k≤10):Kn (slT k::slSel p k) (slT k):=⟨ed hk,.base ⟨List.mem_cons_self ..,ed hk⟩⟩
def slKs (j:Nat):List Tm:=(List.range j).map slK
theorem slKs_len (j:Nat):(slKs j).length=j:=by simp [slKs]
theorem slKs_get {j i:Nat} (h:i<j):(slKs j)[i]?=some (slK i):=by
 rw [slKs,List.getElem?_map,List.getElem?_range h];rfl
theorem slKs_succ (j:Nat):slKs (j+1)=slKs j++[slK j]:=by
 rw [slKs,List.range_succ,List.map_append];rfl
theorem slKs_leaf (j:Nat):∀x∈slKs j,x.l=[]:=by
 intro x hx
 obtain ⟨i,_,rfl⟩:=List.mem_map.1 hx
 rw [slK,ax]
theorem Below.updN {B g:Nat} {w w1 w2:World} (hb:Below B w w1) (hu:Upd g w1 w2) (hg:B≤g) (hs:B≤w1.heap.size):Below B w w2 :=
 ⟨hu.os.trans hb.os,hu.tape.trans hb.tape,hu.output.trans hb.output,Nat.le_trans hb.size hu.size,fun k hk=>(hu.block k (by omega) (by omega)).trans (hb.block k hk)⟩
theorem SlT.leaf {F F':Nat→Prop} {w w':World} {s:Value} (h:SlT F w s []):SlT F' w' s []:=by
 obtain ⟨p,cap,cs,hv,hc,ht,_⟩:=h
 have:cs=[]:=List.eq_nil_of_length_eq_zero (by rw [ht.len];rfl)
 subst this
 exact ⟨p,cap,[],hv,hc,rfl,fun h0=>absurd h0 (by simp)⟩
theorem TC.leaf {F F':Nat→Prop} {w w':World} {l:List Tm} (hl:∀x∈l,x.l=[]) {cs:List Value} (h:TC F w l cs):TC F' w' l cs :=
 h.keep fun t ht v hk=>by
  rw [bm] at hk ⊢
  rw [hl t ht] at hk ⊢
  exact hk.leaf
theorem OT.updLeaf {base g:Nat} {w w':World} {v:Value} {l:List Tm} (h:OT base w v l) (hl:∀x∈l,x.l=[]) (hu:Upd g w w') (hg:g<base):OT base w' v l:=by
 obtain ⟨cs,ho,ht⟩:=h
 exact ⟨cs,dS ho hu hg,TC.leaf hl ht⟩
def FG (g:Nat) (w:World) (v:Value):Nat→Prop:=fun b=>FO w v b∧b≠g
theorem dQ {F F':Nat→Prop} {g:Nat} {w w':World} (h:Keeps F F' w w'):Keeps (fun b=>F b∧b≠g) (fun b=>F' b∧b≠g) w w':=fun b hb=>⟨⟨(h b hb.1).1,hb.2⟩,(h b hb.1).2⟩
theorem fg_upd {g:Nat} {w w':World} {v:Value} (hu:Upd g w w'):Keeps (FG g w v) (FG g w' v) w w':=fun b hb =>
 ⟨⟨⟨Nat.lt_of_lt_of_le hb.1.1 hu.size,hb.1.2⟩,hb.2⟩,fun o u h=>by rw [hu.cell (p:=⟨b,o,none⟩) hb.1.1 hb.2];exact h⟩
theorem aV {v:Value}:∀r∈([]:List (Nat×List Value×TypeId)),some r.1≠v.ownBlock:=fun _ h=>by cases h
theorem dM {v:Value} {r:Nat×List Value×TypeId} {rows:List (Nat×List Value×TypeId)} (h:some r.1≠v.ownBlock) (h2:∀r∈rows,some r.1≠v.ownBlock):∀q∈r::rows,some q.1≠v.ownBlock:=fun q hq=>by
 rcases List.mem_cons.1 hq with rfl|hq
 ·exact h
 ·exact h2 q hq
theorem keeps_lt {B:Nat} {w w':World} (hb:Below B w w'):Keeps (fun b=>b<B) (fun b=>b<B) w w':=fun b hF=>⟨hF,fun o u h=>by rw [World.cell?_of_block (w:=w) (a:=⟨b,o,none⟩) (hb.block b hF)];exact h⟩
theorem Below.grownN {B:Nat} {w w1 w2:World} {x:Option Nat} (hb:Below B w w1) (hg:w1.grownBy w2 x) (hx:∀b,x=some b→B≤b) (hs:B≤w1.heap.size):Below B w w2 :=
 ⟨hg.os.trans hb.os,hg.tape.trans hb.tape,hg.output.trans hb.output,Nat.le_trans hb.size hg.size,fun k hk=>(hg.block k (by omega) (fun he=>by have:=hx k he.symm;omega)).trans (hb.block k hk)⟩
theorem sealed_walk (n kn1:Int) (bn:0≤n∧n≤255) (w:World) (hY:Rdy w) :
  Calls Tryz.prog 5 #[.int .u8 n,.int .u8 kn1] w fun e w'=>e=.returned (.bool true)∧Below w.heap.size w w':=by
 have hm:=Mem.start w
 have HY:Hid (Rdy w):=hY
 have tkk:Nat:=0
 have tq1:Nat:=0
 obtain ⟨k,hk⟩:∃k:Nat,n % 6+1=(k:Int):=⟨(n % 6+1).toNat,by omega⟩
 have hk10:1≤k∧k≤6:=by omega
 have hw:IntKind.i64.wrap (n % 6+1)=(k:Int):=(bd _ (by omega) (by omega)).trans hk
 clear hY
 go_enter Tryz.func5,Tryz.ntmps5
 go_wp2_with (first
  | (clear tkk;go_at_call 9;go_must (refine (aL _ (HY.out.below hm.below)).mono ?_);rintro e wk ⟨he,hb⟩;subst he;replace hm:=hm.call hb;clear hb)
  | ((with_reducible refine ad (some 6) (.alloc 24) ?_);go_must (refine ag _ ap hm ?_);clear hm;intro w6 g6 hm)
  | ((with_reducible refine ad none (.store 24 (.tmp 6) (.tmp 19)) ?_);go_must (refine am 0 ([.int .i64 1,.int .i64 50,.slice none 0 0]) hm rfl rfl rfl 3 af rfl rfl ((by intro v hv;simp only [List.mem_cons,List.not_mem_nil,or_false] at hv;rcases hv with rfl|rfl|rfl<;>rfl)) ?_);clear hm;intro w7 hm))
 obtain ⟨B,hB⟩:∃B,B=w7.heap.size:=⟨_,rfl⟩
 have HG6:Hid (g6<B):=by rw [hB];exact (hm.get 0 rfl).lt
 have HBW:Hid (w.heap.size<B):=by have h9:=hm.ge 0 rfl;have h8:=HG6.out;show _<_;omega
 go_loopw [8,7] (fun vi vk wr=>∃(j:Nat) (s:Value),vi=.int .i64 (j:Int)∧j≤k∧Hid (OT B wr vk (slKs j))∧Hid (SlT (FG g6 wr vk) wr s (slT j).l)∧Hid (Mem w [] wr [(g6,tcs (slT j) s,24)])∧Hid (B≤wr.heap.size)) (fun vi _ _=>k - (intOf vi).toNat)
 case atStart=>exact ⟨0,_,rfl,Nat.zero_le _,OT.nil,by show SlT _ _ _ _;rw [slT,ax];exact SlT.nil,hm,by rw [hB];exact Nat.le_refl _⟩
 case round =>
  clear hm hB
  obtain ⟨j,s,rfl,hjk,HO,HT,HMM,HBZ⟩:=hrel
  have hm:=HMM.out
  obtain ⟨p,c,hv,hcap⟩:=HO.out.len
  rw [slKs_len] at hv
  subst hv
  obtain ⟨ps,cs,hs,hcs⟩:=HT.out.len
  obtain ⟨ms,hms⟩:∃ms,ms=(slT j).l.length:=⟨_,rfl⟩
  rw [←hms] at hs
  subst hs
  clear hms hcs
  by_cases hlt:j<k
  ·have hki:(j:Int)<(k:Int):=by omega
   have HGB:Hid (B≤wr.heap.size∧w.heap.size<B):=⟨HBZ.out,HBW.out⟩
   have HN6:Hid (some g6≠(Value.slice p j c).ownBlock):=fun he=>by have h9:=(HO.out.lt he.symm).1;have h8:=HG6.out;omega
   clear HMM hcap
   go_wp2_with (first
    | ((with_reducible refine ad (some 9) (.alloc 24) ?_);go_must (refine dx _ ap hm ?_);clear hm;intro w9 g9 hb hg hm;have HB9:Hid (Below wr.heap.size wr w9∧wr.heap.size≤g9):=⟨hb,hg⟩;clear hb hg)
    | ((with_reducible refine ad none (.store 24 (.tmp 9) (.tmp 26)) ?_);go_must (refine bX 0 (tcs (slK j) (.slice none 0 0)) hm rfl rfl rfl 3 af rfl rfl (aY _ _ _ _) ?_);clear hm;intro w10 hu hm;have hb10:Below wr.heap.size wr w10:=Below.updN HB9.out.1 hu HB9.out.2 HB9.out.1.size;have H10:Hid (OT B w10 (Value.slice p j c) (slKs j)∧SlT (FG g6 w10 (Value.slice p j c)) w10 (.slice ps ms cs) (slT j).l):=⟨HO.out.below hb10,HT.out.keep (dQ (cd hb10))⟩;have HN9:Hid (some g9≠(Value.slice p j c).ownBlock):=HO.out.ne HB9.out.2;have HZ10:Hid (wr.heap.size≤w10.heap.size):=hb10.size;clear hb10;clear hu)
    | ((with_reducible refine ad (some 28) (.load 24 (.tmp 9)) ?_);go_must (refine aA 0 hm rfl rfl _ Tryz.underlying24 rfl 3 af rfl ?_))
    | ((with_reducible refine ad (some 29) (.buildSlice 22 1 #[(0,.tmp 28)]) ?_);go_must (refine bf (slK j) (.slice none 0 0) rfl rfl hm ?_);clear hm;intro w29 g29 hb hg hm;have H29:Hid (OT B w29 (Value.slice p j c) (slKs j)∧SlT (FG g6 w29 (Value.slice p j c)) w29 (.slice ps ms cs) (slT j).l):=⟨H10.out.1.below hb,H10.out.2.keep (dQ (cd hb))⟩;have HN29:Hid (some g29≠(Value.slice p j c).ownBlock):=H10.out.1.ne hg;have HZ29:Hid (wr.heap.size≤w29.heap.size):=Nat.le_trans HZ10.out hb.size;have HSL:Hid (SlT (FO w29 (Value.slice p j c)) w29 (.slice (some ⟨g29,0,none⟩) 1 1) [slK j]):=bP (hm.get 0 rfl) (by rw [slK,ax];exact SlT.nil) ⟨(hm.get 0 rfl).lt,HN29.out⟩;clear hb hg)
    | ((with_reducible refine ad (some 30) (.call {callee:=.builtin .append,args:=#[.tmp 27,.tmp 29],argTypes:=#[22,22]}) ?_);go_must (refine aw rfl rfl rfl hm H29.out.1 rfl HSL.out (by rw [slKs_len];omega) (Nat.le_of_lt HGB.out.2) (Nat.le_trans HGB.out.1 HZ29.out) (dM HN29.out (dM HN9.out (dM HN6.out aV))) ?_);intro v30 w30 ho30 hg30 hb30 hm30;have H30:Hid (OT B w30 v30 (slKs (j+1))∧SlT (FG g6 w30 v30) w30 (.slice ps ms cs) (slT j).l):=⟨(by rw [slKs_succ];exact ho30),H29.out.2.keep (dQ (fo_push hg30 hb30))⟩;have HZ30:Hid (wr.heap.size≤w30.heap.size):=Nat.le_trans HZ29.out hg30.size;clear ho30 hg30 hb30 hm;have hm:=hm30;clear hm30)
    | ((with_reducible refine ad (some 31) (.load 24 (.tmp 9)) ?_);go_must (refine aA 1 hm rfl rfl _ Tryz.underlying24 rfl 3 af rfl ?_))
    | ((with_reducible refine ad (some 32) (.load 24 (.tmp 6)) ?_);go_must (refine aA 2 hm rfl rfl _ Tryz.underlying24 rfl 3 af rfl ?_))
    | ((with_reducible refine ad (some 35) (.buildSlice 22 2 #[(0,.tmp 32),(1,.tmp 34)]) ?_);go_must (refine df (slT j) (slN j) (.slice ps ms cs) (.slice none 0 0) rfl rfl rfl hm ?_);clear hm;intro w35 g35 hb hg hm;have H35:Hid (OT B w35 v30 (slKs (j+1))∧SlT (FG g6 w35 v30) w35 (.slice (some ⟨g35,0,none⟩) 2 2) [slT j,slN j]):=⟨H30.out.1.below hb,eh (hm.get 0 rfl) (H30.out.2.keep (dQ (cd hb))) (by rw [slN,ax];exact SlT.nil) ⟨⟨(hm.get 0 rfl).lt,H30.out.1.ne hg⟩,(by have h9:=HZ30.out;have h8:=HGB.out;have h7:=HG6.out;omega)⟩⟩;have HZ35:Hid (wr.heap.size≤w35.heap.size):=Nat.le_trans HZ30.out hb.size;clear hb hg)
    | ((with_reducible refine ad (some 37) (.buildSlice 22 2 #[(0,.tmp 31),(1,.tmp 36)]) ?_);go_must (refine df (slK j) (slP j) (.slice none 0 0) (.slice (some ⟨g35,0,none⟩) 2 2) rfl rfl rfl hm ?_);clear hm;intro w37 g37 hb hg hm;have H37:Hid (OT B w37 v30 (slKs (j+1))∧SlT (FG g6 w37 v30) w37 (.slice (some ⟨g37,0,none⟩) 2 2) (slT (j+1)).l):=⟨H35.out.1.below hb,(by rw [slT_l];exact eh (hm.get 0 rfl) (by rw [slK,ax];exact SlT.nil) (by rw [slP_l];exact H35.out.2.keep (dQ (cd hb))) ⟨⟨(hm.get 0 rfl).lt,H35.out.1.ne hg⟩,(by have h9:=HZ35.out;have h8:=HGB.out;have h7:=HG6.out;omega)⟩)⟩;have HZ37:Hid (wr.heap.size≤w37.heap.size):=Nat.le_trans HZ35.out hb.size;clear hb hg)
    | ((with_reducible refine ad none (.store 24 (.tmp 6) (.tmp 38)) ?_);go_must (refine bX 4 (tcs (slT (j+1)) (.slice (some ⟨g37,0,none⟩) 2 2)) hm rfl rfl rfl 3 af rfl rfl (aY _ _ _ _) ?_);clear hm;intro w38 hu hm;have H38:Hid (OT B w38 v30 (slKs (j+1))∧SlT (FG g6 w38 v30) w38 (.slice (some ⟨g37,0,none⟩) 2 2) (slT (j+1)).l):=⟨H37.out.1.updLeaf (slKs_leaf _) hu HG6.out,H37.out.2.keep (fg_upd hu)⟩;have HZ38:Hid (B≤w38.heap.size):=Nat.le_trans HGB.out.1 (Nat.le_trans HZ37.out hu.size);clear hu))
   go_roundw
   case rel=>exact ⟨j+1,_,by go_num,by omega,H38.out.1,H38.out.2,hm.tail.tail.tail.tail,HZ38.out⟩
   case measure=>simp [intOf];omega
  ·obtain rfl:j=k:=by omega
   have hki:¬(j:Int)<(j:Int):=by omega
   clear HMM hcap
   go_wp2_with (first
    | ((with_reducible refine ad (some 39) (.load 24 (.tmp 6)) ?_);go_must (refine aA 0 hm rfl rfl _ Tryz.underlying24 rfl 3 af rfl ?_))
    | ((with_reducible refine ad (some 40) (.buildSlice 22 1 #[(0,.tmp 39)]) ?_);go_must (refine bf (slT j) (.slice ps ms cs) rfl rfl hm ?_);clear hm;intro w40 g40 hb hg hm;have HO40:Hid (OT wr.heap.size w40 (.slice (some ⟨g40,0,none⟩) 1 1) [slT j]):=OT.row (hm.get 0 rfl) hg (HT.out.below hb) (fun b h9=>by have h8:=h9.1.1;have h7:=hb.size;exact ⟨by omega,by omega⟩);have HKS:Hid (SlT (fun b=>b<wr.heap.size) w40 (.slice p j c) (slKs j)):=HO.out.slt.below hb;have HT40:Hid (SlT (fun b=>b<wr.heap.size) w40 (.slice ps ms cs) (slT j).l):=(HT.out.weak (fun b h9=>h9.1.1)).below hb;have HZ40:Hid (wr.heap.size≤w40.heap.size):=hb.size;clear hb hg))
   obtain ⟨B2,hB2⟩:∃B,B=wr.heap.size:=⟨_,rfl⟩
   rw [←hB2] at HO40 HKS HT40 HZ40
   have HB2:Hid (w.heap.size≤B2∧g6<B2):=⟨by rw [hB2];have h9:=HBW.out;have h8:=HBZ.out;omega,by rw [hB2];have h9:=HG6.out;have h8:=HBZ.out;omega⟩
   clear hB2 HO HT HBZ
   go_loopw [12,10,11] (fun vi vb va wr2=>∃i:Nat,vi=.int .i64 (i:Int)∧i≤j∧va=.bool (slAll (bitK kn1) i)∧Hid (OT B2 wr2 vb (slT j::slSel (bitK kn1) i))∧Hid (Mem w [] wr2 [(g6,tcs (slT j) (.slice ps ms cs),24)])∧Hid (Below B2 w40 wr2)) (fun vi _ _ _=>j - (intOf vi).toNat)
   case atStart=>exact ⟨0,rfl,Nat.zero_le _,rfl,HO40.out,hm.tail,Below.refl _ _⟩
   case round =>
    clear hm HO40
    obtain ⟨i,rfl,hij,rfl,HO,HMM,HBB⟩:=hrel
    have hm:=HMM.out
    obtain ⟨pv,cv,hv,hcap⟩:=HO.out.len
    obtain ⟨lv,hlv⟩:∃lv,lv=(slT j::slSel (bitK kn1) i).length:=⟨_,rfl⟩
    rw [←hlv] at hv
    subst hv
    have hlv9:lv≤10:=by rw [hlv,List.length_cons];have:=slSel_len (bitK kn1) i;omega
    by_cases hlt:i<j
    ·have hki:(i:Int)<(j:Int):=by omega
     have hkl:=HKS.out.keep (keeps_lt HBB.out)
     obtain ⟨b,o,rfl⟩:=hkl.at (by omega)
     obtain ⟨px,mx,cx,c0,c1,c2,e9,hsx⟩:=hkl.cells (slKs_get hlt)
     have HX:Hid (SlT (fun b=>b<B2) wr (.slice px mx cx) (slK i).l):=hsx
     have HZ:Hid (B2≤wr.heap.size):=by have h9:=HBB.out.size;have h8:=HZ40.out;show _≤_;omega
     have HNG:Hid (some g6≠(Value.slice pv lv cv).ownBlock):=fun he=>by have h9:=(HO.out.lt he.symm).1;have h8:=HB2.out;omega
     cases hbit:bitK kn1 i with
     | true =>
      have hbe:(bits BinOp.and IntKind.u8 (kn1 / 2 ^ i) 1==1)=true:=hbit
      have HR1:Hid (slAll (bitK kn1) i=slAll (bitK kn1) (i+1)∧slT j::slSel (bitK kn1) (i+1)=(slT j::slSel (bitK kn1) i)++[slK i]):=⟨by rw [slAll,hbit,Bool.and_true],by rw [slSel,hbit,if_pos rfl];rfl⟩
      clear hbit HMM hcap hkl hsx e9
      go_wp2_with (first
       | ((with_reducible refine ad (some 55) (.indexAddr 22 (.tmp 53) (.tmp 54)) ?_);go_must (refine aa (.pointer (some ⟨b,o+i * 3,none⟩)) rfl (aK i rfl rfl rfl hlt) ?_))
       | ((with_reducible refine ad (some 56) (.load 24 (.tmp 55)) ?_);go_must (refine aa (.agg (tcs (slK i) (.slice px mx cx)).toArray) rfl (aM rfl c0 c1 c2) ?_))
       | ((with_reducible refine ad (some 57) (.buildSlice 22 1 #[(0,.tmp 56)]) ?_);go_must (refine bf (slK i) (.slice px mx cx) rfl rfl hm ?_);clear hm;intro w57 g57 hb hg hm;have HN57:Hid (some g57≠(Value.slice pv lv cv).ownBlock):=HO.out.ne hg;have H57:Hid (OT B2 w57 (.slice pv lv cv) (slT j::slSel (bitK kn1) i)∧SlT (FO w57 (.slice pv lv cv)) w57 (.slice (some ⟨g57,0,none⟩) 1 1) [slK i]):=⟨HO.out.below hb,bP (hm.get 0 rfl) (by have h9:=HX.out;rw [show (slK i).l=[] from ax _ _ _] at h9 ⊢;exact h9.leaf) ⟨(hm.get 0 rfl).lt,HN57.out⟩⟩;have HB57:Hid (Below B2 w40 w57∧B2≤w57.heap.size):=⟨HBB.out.trans (hb.mono HZ.out),Nat.le_trans HZ.out hb.size⟩;clear hb hg)
       | ((with_reducible refine ad (some 58) (.call {callee:=.builtin .append,args:=#[.tmp 52,.tmp 57],argTypes:=#[22,22]}) ?_);go_must (refine aw rfl rfl rfl hm H57.out.1 rfl H57.out.2 (by rw [←hlv];omega) HB2.out.1 HB57.out.2 (dM HN57.out (dM HNG.out aV)) ?_);intro v58 w58 ho58 hg58 hb58 hm58;have H58:Hid (OT B2 w58 v58 (slT j::slSel (bitK kn1) (i+1))∧Below B2 w40 w58):=⟨(by rw [HR1.out.2];exact ho58),Below.grownN HB57.out.1 hg58 (fun b he=>(H57.out.1.lt he).1) HB57.out.2⟩;clear ho58 hg58 hb58 hm;have hm:=hm58;clear hm58))
      go_roundw
      case rel=>exact ⟨i+1,by go_num,by omega,by rw [HR1.out.1],H58.out.1,hm.tail,H58.out.2⟩
      case measure=>simp [intOf];omega
     | false =>
      have hbe:(bits BinOp.and IntKind.u8 (kn1 / 2 ^ i) 1==1)=false:=hbit
      have HR1:Hid (slAll (bitK kn1) (i+1)=false∧slT j::slSel (bitK kn1) (i+1)=slT j::slSel (bitK kn1) i):=⟨by rw [slAll,hbit,Bool.and_false],by rw [slSel,hbit,if_neg (by simp)]⟩
      clear hbit HMM hcap hkl hsx e9
      go_wp2_with fail
      go_roundw
      case rel=>exact ⟨i+1,by go_num,by omega,by rw [HR1.out.1],by rw [HR1.out.2];exact HO.out,hm,HBB.out⟩
      case measure=>simp [intOf];omega
    ·obtain rfl:i=j:=by omega
     have hki:¬(i:Int)<(i:Int):=by omega
     obtain ⟨r,hr⟩:∃r,r=slAll (bitK kn1) i:=⟨_,rfl⟩
     have HZ:Hid (w40.heap.size≤wr.heap.size∧i≤10):=⟨HBB.out.size,by omega⟩
     have HSB:Hid (SlT (fun b=>b<wr.heap.size) wr (.slice pv lv cv) (slT i::slSel (bitK kn1) i)):=HO.out.slt
     have HTW:Hid (SlT (fun b=>b<B2) wr (.slice ps ms cs) (slT i).l):=HT40.out.keep (keeps_lt HBB.out)
     have HR6:Hid (Row wr g6 (tcs (slT i) (.slice ps ms cs)) 24):=hm.get 0 rfl
     have HBE:Hid (Below w.heap.size w wr):=hm.below
     have HSUM:Hid (((slT i::slSel (bitK kn1) i).map cnt).sum≤60):=by
      show _≤_
      have:=slSel_sum (bitK kn1) i
      simp only [List.map_cons,List.sum_cons,ef]
      omega
     have HLEN:Hid ((slT i::slSel (bitK kn1) i).length≤1000):=by show _≤_;rw [←hlv];omega
     have HK1:Hid (∀W,Below wr.heap.size wr W→Calls Tryz.prog 11 #[.slice pv lv cv,.agg (tcs (slT 0) (.slice none 0 0)).toArray] W fun e w'=>e=.returned (.bool r)∧Below W.heap.size W w'):=fun W hW=>by
      have h:=aW (G:=fun _=>True) (slT i::slSel (bitK kn1) i) (slT 0) (.slice pv lv cv) (.slice none 0 0) W (HSB.out.below hW) (by rw [slT,ax];exact SlT.nil) (fun _=>bg (by have:=HSUM.out;rw [ef];omega)) HLEN.out
      have e:decide (Kn (slT i::slSel (bitK kn1) i) (slT 0))=r:=by rw [hr,Bool.eq_iff_iff,decide_eq_true_iff];exact sl_kn HZ.out.2
      rw [e] at h
      exact h
     have HK2:Hid (∀W,Below wr.heap.size wr W→Calls Tryz.prog 11 #[.slice pv lv cv,.agg (tcs (slT i) (.slice ps ms cs)).toArray] W fun e w'=>e=.returned (.bool true)∧Below W.heap.size W w'):=fun W hW=>by
      have h:=aW (slT i::slSel (bitK kn1) i) (slT i) (.slice pv lv cv) (.slice ps ms cs) W (HSB.out.below hW) (HTW.out.below hW) (fun _=>bg (by have:=HSUM.out;rw [ef];have:=HZ.out.2;omega)) HLEN.out
      rw [decide_eq_true (sl_kn2 HZ.out.2)] at h
      exact h
     rw [←hr]
     clear HMM hcap hm hlv hr HO HBB
     have hm:=Mem.start wr
     have tq2:Nat:=0
     cases r with
     | true =>
      go_wp2_with (first
       | ((with_reducible refine ad (some 60) (.build 24 #[(0,.const (.int .i64 1)),(1,.const (.int .i64 50))]) ?_);go_must (refine aa (.agg (tcs (slT 0) (.slice none 0 0)).toArray) rfl (cS 1 50 rfl rfl) ?_))
       | (clear tq2;go_at_call 11;go_must (refine (HK1.out _ hm.below).mono ?_);rintro e w61 ⟨he,hb⟩;subst he;replace hm:=hm.call hb;clear hb)
       | ((with_reducible refine aI (some 66) (.load 24 (.tmp 6)) (some (5,true)) ?_);go_must (refine aa (.agg (tcs (slT i) (.slice ps ms cs)).toArray) rfl (ah 0 (tcs (slT i) (.slice ps ms cs)) (HR6.out.below' hm.below) rfl _ Tryz.underlying24 rfl 3 af (Nat.le_refl _) rfl) ?_))
       | (go_at_call 11;go_must (refine (HK2.out _ hm.below).mono ?_);rintro e w67 ⟨he,hb⟩;subst he;replace hm:=hm.call hb;clear hb))
      go_ret
      exact ⟨rfl,HBE.out.trans (hm.below.mono HBE.out.size)⟩
     | false =>
      go_wp2_with (first
       | ((with_reducible refine ad (some 60) (.build 24 #[(0,.const (.int .i64 1)),(1,.const (.int .i64 50))]) ?_);go_must (refine aa (.agg (tcs (slT 0) (.slice none 0 0)).toArray) rfl (cS 1 50 rfl rfl) ?_))
       | (clear tq2;go_at_call 11;go_must (refine (HK1.out _ hm.below).mono ?_);rintro e w61 ⟨he,hb⟩;subst he;replace hm:=hm.call hb;clear hb)
       | ((with_reducible refine aI (some 66) (.load 24 (.tmp 6)) (some (5,true)) ?_);go_must (refine aa (.agg (tcs (slT i) (.slice ps ms cs)).toArray) rfl (ah 0 (tcs (slT i) (.slice ps ms cs)) (HR6.out.below' hm.below) rfl _ Tryz.underlying24 rfl 3 af (Nat.le_refl _) rfl) ?_))
       | (go_at_call 11;go_must (refine (HK2.out _ hm.below).mono ?_);rintro e w67 ⟨he,hb⟩;subst he;replace hm:=hm.call hb;clear hb))
      go_ret
      exact ⟨rfl,HBE.out.trans (hm.below.mono HBE.out.size)⟩
end Go.Proofs.YtcibhfcjbokdlaaGreatDoor
