import Derived.Deep.LoopGhost
import Derived.Test.YtcibhfcjbokdlaaGreatDoorQk17
set_option maxRecDepth 100000
set_option maxHeartbeats 4000000
namespace Go.Proofs.YtcibhfcjbokdlaaGreatDoor
open Go Go.RowKit Classical
theorem eo (i:Nat):cnt (chT i)=i+1:=by
 induction i with
 | zero=>rw [chT,bM];rfl
 | succ i ih=>rw [chT,bM];simp [ih];omega
theorem chT_ok:∀i,i≤99→okT (chT i)=true
 | 0,_=>by rw [chT,c7];simp [okF,nb,kn]
 | i+1,h=>by
  rw [chT,c7]
  simp only [List.all_cons,List.all_nil,Bool.and_true,chT_ok i (by omega)]
  simp [okF,nb,kn];omega
theorem chT_isT {i:Nat} (h:i≤50):isT (chT i)=true:=bi.2 ⟨by rw [eo];omega,chT_ok i (by omega)⟩
def chN:Tm:=mkT 1 3 []
def chS (i:Nat):Tm:=mkT 3 0 [chT i,chN]
def chB (f q:Nat):List Tm:=[chT f,chS q]
theorem chN_isT:isT chN=true:=by decide +kernel
theorem chS_cnt (i:Nat):cnt (chS i)=i+3:=by
 rw [chS,bM]
 simp only [List.map_cons,List.map_nil,List.sum_cons,List.sum_nil,eo]
 rw [chN,bM];simp;omega
theorem chS_isT {i:Nat} (h:i≤50):isT (chS i)=true:=by
 refine bi.2 ⟨by rw [chS_cnt];omega,?_⟩
 rw [chS,c7]
 simp only [List.all_cons,List.all_nil,Bool.and_true,chT_ok i (by omega),(bi.1 chN_isT).2]
 simp [okF,nb,kn]
theorem ch_in {f q:Nat} {t:Tm} (h:inB (chB f q) t):t=chT f∨(t.k=3∧t=chS q):=by
 have:=h.1
 simp only [chB,List.mem_cons,List.not_mem_nil,or_false] at this
 rcases this with rfl|rfl
 ·exact Or.inl rfl
 ·exact Or.inr ⟨rfl,rfl⟩
theorem ch_hB {f q:Nat}:∀t,inB (chB f q) t→t=chT f∨(t.k=3∧∀a b,t.l=[a,b]→a=chT q):=fun t h=>by
 rcases ch_in h with rfl|⟨_,rfl⟩
 ·exact Or.inl rfl
 ·refine Or.inr ⟨rfl,fun a b hl=>?_⟩
  rw [chS,ax] at hl
  simp only [List.cons.injEq,and_true] at hl
  exact hl.1.symm
theorem ch_first {f q:Nat} (hf:f≤50):inB (chB f q) (chT f):=⟨by simp [chB],chT_isT hf⟩
theorem ch_sec {f q:Nat} (hq:q≤50):inB (chB f q) (chS q):=⟨by simp [chB],chS_isT hq⟩
theorem ch_up {f q:Nat} (hf:f≤50) (h:f≤q):Der (inB (chB f q)) (chT q):=by
 have h1:=chT_up (Der.base (ch_first (q:=q) hf)) (q - f)
 rw [show f+(q - f)=q by omega] at h1
 exact h1
theorem ch_kn1 {f q:Nat} (hf:f≤50) (hq:q≤50):Kn (chB f q) (chT q)↔f≤q:=by
 constructor
 ·intro h
  refine Nat.le_of_not_lt fun hlt=>?_
  exact chT_no hlt ch_hB h.2
 ·intro h
  exact ⟨chT_isT hq,ch_up hf h⟩
theorem ch_kn2 {f q:Nat} (hf:f≤50) (hq:q≤50):Kn (chB f q) chN↔f≤q:=by
 constructor
 ·intro h
  refine Nat.le_of_not_lt fun hlt=>?_
  have hno:=chT_no hlt (ch_hB (f:=f) (q:=q))
  have h1:=der_syn (fun t ht=>by
   rcases ch_in ht with rfl|⟨hk,_⟩
   ·rw [dE];split<;>decide
   ·rw [hk];decide) (fun t a b ht hk hl hs=>by
   rcases ch_hB t ht with rfl|⟨_,h3⟩
   ·rw [dE] at hk;split at hk<;>cases hk
   ·rw [h3 a b hl] at hs
    exact hno (syn_der hs)) h.2
  rcases h1.cs with h2|⟨h2,_⟩
  ·rcases ch_in h2 with h3|⟨h3,_⟩
   ·have h4:=congrArg Tm.k h3
    rw [dE] at h4
    have h5:(1:Int)=if f=0 then 2 else 5:=h4
    split at h5<;>cases h5
   ·exact absurd (show (1:Int)=3 from h3) (by decide)
  ·exact h2 (by rw [chN,ax])
 ·intro h
  exact ⟨chN_isT,.opened (.base (ch_sec hq)) rfl (by rw [chS,ax]) (ch_up hf h)⟩
theorem chB_sum (f q:Nat):((chB f q).map cnt).sum=f+q+4:=by
 simp only [chB,List.map_cons,List.map_nil,List.sum_cons,List.sum_nil,eo,chS_cnt];omega
def chL (m:Nat):List Tm:=(List.range (m+1)).map chT
theorem chL_len (m:Nat):(chL m).length=m+1:=by simp [chL]
theorem chL_get {m i:Nat} (h:i≤m):(chL m)[i]?=some (chT i):=by
 rw [chL,List.getElem?_map,List.getElem?_range (by omega)];rfl
theorem chL_succ (m:Nat):chL (m+1)=chL m++[chT (m+1)]:=by
 rw [chL,List.range_succ,List.map_append];rfl
theorem Mem.ge {w0 w:World} {rows:List (Nat×List Value×TypeId)} (hm:Mem w0 [] w rows) (i:Nat) {g:Nat} {l:List Value} {t:TypeId} (hi:rows[i]?=some (g,l,t)):w0.heap.size≤g:=by
 rcases hm.fresh _ (List.mem_of_getElem? hi) with h|h
 ·cases h
 ·exact h
theorem chain_walk (n at_ ask:Int) (bn:0≤n∧n≤255) (ba:0≤at_∧at_≤255) (bq:0≤ask∧ask≤255) (w:World) (hY:Rdy w) :
  Calls Tryz.prog 6 #[.int .u8 n,.int .u8 at_,.int .u8 ask] w fun e w'=>e=.returned (.bool true)∧Below w.heap.size w w':=by
 have hm:=Mem.start w
 have HY:Hid (Rdy w):=hY
 have tkk:Nat:=0
 have tq1:Nat:=0
 obtain ⟨k,hk⟩:∃k:Nat,n % 10+1=(k:Int):=⟨(n % 10+1).toNat,by omega⟩
 have hk10:1≤k∧k≤10:=by omega
 have hw:IntKind.i64.wrap (n % 10+1)=(k:Int):=(bd _ (by omega) (by omega)).trans hk
 clear hY
 go_enter Tryz.func6,Tryz.ntmps6
 go_wp2_with (first
  | (clear tkk;go_at_call 9;go_must (refine (aL _ (HY.out.below hm.below)).mono ?_);rintro e wk ⟨he,hb⟩;subst he;replace hm:=hm.call hb;clear hb)
  | ((with_reducible refine ad (some 20) (.buildSlice 22 1 #[(0,.tmp 19)]) ?_);go_must (refine bf (chT 0) (.slice none 0 0) rfl rfl hm ?_);clear hm;intro w20 g20 hb hg hm;have HO20:Hid (OT w.heap.size w20 (.slice (some ⟨g20,0,none⟩) 1 1) (chL 0)):=OT.row (F:=fun _=>False) (hm.get 0 rfl) (hm.ge 0 rfl) SlT.nil (fun b hb=>hb.elim);clear hb hg))
 go_loopw [9,8] (fun vi vl wr=>∃m:Nat,vi=.int .i64 (((m+1:Nat)):Int)∧m≤k∧Hid (OT w.heap.size wr vl (chL m))∧Hid (Mem w [] wr [])) (fun vi _ _=>k+1 - (intOf vi).toNat)
 case atStart=>exact ⟨0,rfl,Nat.zero_le _,HO20.out,hm.tail⟩
 case round =>
  clear hm HO20
  obtain ⟨m,rfl,hmk,HO,HMM⟩:=hrel
  have hm:=HMM.out
  obtain ⟨p,c,hv,hcap⟩:=HO.out.len
  rw [chL_len] at hv
  subst hv
  obtain ⟨b,o,rfl⟩:=HO.out.slt.at (by omega)
  by_cases hlt:m<k
  ·have hlt2:m<m+1:=by omega
   obtain ⟨px,mx,cx,c0,c1,c2,hmx,hsx⟩:=HO.out.cells (chL_get (Nat.le_refl m))
   have HX:Hid (SlT (FO wr (.slice (some ⟨b,o,none⟩) (m+1) c)) wr (.slice px mx cx) (chT m).l):=hsx
   have hki:((m+1:Nat):Int)≤(k:Int):=by omega
   have hw30:IntKind.i64.wrap (((m+1:Nat):Int) - 1)=(m:Int):=(bd _ (by omega) (by omega)).trans (by omega)
   clear HMM hsx hmx hcap
   go_wp2_with (first
    | ((with_reducible refine ad (some 31) (.indexAddr 22 (.tmp 28) (.tmp 30)) ?_);go_must (refine aa (.pointer (some ⟨b,o+m * 3,none⟩)) rfl (aK m rfl rfl rfl hlt2) ?_))
    | ((with_reducible refine ad (some 32) (.load 24 (.tmp 31)) ?_);go_must (refine aa (.agg (tcs (chT m) (.slice px mx cx)).toArray) rfl (aM rfl c0 c1 c2) ?_))
    | ((with_reducible refine ad (some 33) (.buildSlice 22 1 #[(0,.tmp 32)]) ?_);go_must (refine bf (chT m) (.slice px mx cx) rfl rfl hm ?_);clear hm;intro w33 g33 hb hg hm;have HO33:Hid (OT w.heap.size w33 (.slice (some ⟨b,o,none⟩) (m+1) c) (chL m)∧SlT (FO w33 (.slice (some ⟨b,o,none⟩) (m+1) c)) w33 (.slice px mx cx) (chT m).l):=⟨HO.out.below hb,HX.out.keep (cd hb)⟩;have HN33:Hid (some g33≠Value.ownBlock (.slice (some ⟨b,o,none⟩) (m+1) c)):=HO.out.ne hg;clear hb hg)
    | ((with_reducible refine ad (some 35) (.buildSlice 22 1 #[(0,.tmp 34)]) ?_);go_must (refine bf (chT (m+1)) (.slice (some ⟨g33,0,none⟩) 1 1) rfl rfl hm ?_);clear hm;intro w35 g35 hb hg hm;have HN35:Hid (some g33≠Value.ownBlock (.slice (some ⟨b,o,none⟩) (m+1) c)∧some g35≠Value.ownBlock (.slice (some ⟨b,o,none⟩) (m+1) c)):=⟨HN33.out,HO33.out.1.ne hg⟩;have HO35:Hid (OT w.heap.size w35 (.slice (some ⟨b,o,none⟩) (m+1) c) (chL m)∧SlT (FO w35 (.slice (some ⟨b,o,none⟩) (m+1) c)) w35 (.slice (some ⟨g35,0,none⟩) 1 1) [chT (m+1)]):=⟨HO33.out.1.below hb,bP (hm.get 0 rfl) (by rw [show (chT (m+1)).l=[chT m] from ax _ _ _];exact bP (hm.get 1 rfl) (HO33.out.2.keep (cd hb)) ⟨(hm.get 1 rfl).lt,HN33.out⟩) ⟨(hm.get 0 rfl).lt,HO33.out.1.ne hg⟩⟩;clear hb hg)
    | ((with_reducible refine ad (some 36) (.call {callee:=.builtin .append,args:=#[.tmp 26,.tmp 35],argTypes:=#[22,22]}) ?_);go_must (refine aw rfl rfl rfl hm HO35.out.1 rfl HO35.out.2 (by rw [chL_len];omega) (Nat.le_refl _) hm.size (fun r hr=>by simp only [List.mem_cons,List.not_mem_nil,or_false] at hr;rcases hr with rfl|rfl;exact HN35.out.2;exact HN35.out.1) ?_);intro v36 w36 ho36 hg36 hb36 hm36;have HO36:Hid (OT w.heap.size w36 v36 (chL (m+1))):=(by rw [chL_succ];exact ho36);clear ho36 hg36 hb36 hm;have hm:=hm36;clear hm36))
   go_roundw
   case rel=>exact ⟨m+1,by go_num,by omega,HO36.out,hm.tail.tail⟩
   case measure=>simp [intOf];omega
  ·obtain rfl:m=k:=by omega
   have hki:¬((m+1:Nat):Int)≤(m:Int):=by omega
   obtain ⟨f,hf⟩:∃f:Nat,at_ % ((m:Int)+1)=(f:Int):=⟨(at_ % ((m:Int)+1)).toNat,by have:=Int.emod_nonneg at_ (show (m:Int)+1≠0 by omega);omega⟩
   obtain ⟨q,hq⟩:∃q:Nat,ask % ((m:Int)+1)=(q:Int):=⟨(ask % ((m:Int)+1)).toNat,by have:=Int.emod_nonneg ask (show (m:Int)+1≠0 by omega);omega⟩
   have hf10:f≤m:=by have:=Int.emod_lt_of_pos at_ (show (0:Int)<(m:Int)+1 by omega);omega
   have hq10:q≤m:=by have:=Int.emod_lt_of_pos ask (show (0:Int)<(m:Int)+1 by omega);omega
   have hwm:IntKind.i64.wrap ((m:Int)+1)=((m+1:Nat):Int):=(bd _ (by omega) (by omega)).trans (by omega)
   clear HMM hcap
   go_wp2_with fail
   go_quiet (fail)
   obtain ⟨wq,hwq⟩:∃v,v=wr.drewN nq:=⟨_,rfl⟩
   have HBQ:Hid (Below wr.heap.size wr wq):=by rw [hwq];exact ((Mem.start wr).drewN nq).below
   have hmq:Mem w [] wq []:=by rw [hwq];exact hm.drewN nq
   have HOQ:Hid (OT w.heap.size wq (.slice (some ⟨b,o,none⟩) (m+1) c) (chL m)):=HO.out.below HBQ.out
   have HFQ:Hid (f≤m∧q≤m∧m≤10):=⟨hf10,hq10,by omega⟩
   rw [←hwq]
   rw [hf,hq]
   clear hm hwq hf hq HBQ HO
   have hm:=hmq
   clear hmq
   obtain ⟨pf,mf,cf,a0,a1,a2,e1,hsf⟩:=HOQ.out.cells (chL_get hf10)
   obtain ⟨pq,mq,cq,d0,d1,d2,e2,hsq⟩:=HOQ.out.cells (chL_get hq10)
   have HFC:Hid (∀W,Below wq.heap.size wq W→W.cell? ⟨b,o+f * 3,none⟩=some (.int .i64 (chT f).k)∧W.cell? ⟨b,o+f * 3+1,none⟩=some (.int .i64 (chT f).n)∧W.cell? ⟨b,o+f * 3+2,none⟩=some (.slice pf mf cf)):=fun W hW=>⟨(hW.cell (p:=⟨b,_,none⟩) (block_lt_of_cell a0)).trans a0,(hW.cell (p:=⟨b,_,none⟩) (block_lt_of_cell a1)).trans a1,(hW.cell (p:=⟨b,_,none⟩) (block_lt_of_cell a2)).trans a2⟩
   have HQC:Hid (∀W,Below wq.heap.size wq W→W.cell? ⟨b,o+q * 3,none⟩=some (.int .i64 (chT q).k)∧W.cell? ⟨b,o+q * 3+1,none⟩=some (.int .i64 (chT q).n)∧W.cell? ⟨b,o+q * 3+2,none⟩=some (.slice pq mq cq)):=fun W hW=>⟨(hW.cell (p:=⟨b,_,none⟩) (block_lt_of_cell d0)).trans d0,(hW.cell (p:=⟨b,_,none⟩) (block_lt_of_cell d1)).trans d1,(hW.cell (p:=⟨b,_,none⟩) (block_lt_of_cell d2)).trans d2⟩
   have HFS:Hid (SlT (fun _=>True) wq (.slice pf mf cf) (chT f).l∧SlT (fun _=>True) wq (.slice pq mq cq) (chT q).l):=⟨hsf.weak fun _ _=>trivial,hsq.weak fun _ _=>trivial⟩
   have hfm:f<m+1:=by omega
   have hqm:q<m+1:=by omega
   clear a0 a1 a2 d0 d1 d2 hsf hsq e1 e2
   go_wp2_with fail
   refine ay ?_
   refine ao (T:=fun W=>Mem w [] W []∧Below wq.heap.size wq W) (by kernel_rfl) hm ?_
   intro wc hbw hmw
   replace hm:Mem w [] wc []∧Below wq.heap.size wq wc:=⟨hmw,hbw⟩
   clear hbw hmw
   refine aT 0 (v:=.slice (some ⟨b,o,none⟩) (m+1) c) rfl (by kernel_rfl) rfl (fun W _=>by go_simp) hm ?_
   go_simp
   refine aT 1 (v:=.int .i64 (f:Int)) rfl (by kernel_rfl) rfl (fun W _=>by go_simp) hm ?_
   go_simp
   refine aT 2 (v:=.pointer (some ⟨b,o+f * 3,none⟩)) rfl (by kernel_rfl) rfl (fun W _=>aK f rfl rfl rfl hfm) hm ?_
   go_simp
   refine aT 3 (v:=.agg (tcs (chT f) (.slice pf mf cf)).toArray) rfl (by kernel_rfl) rfl (fun W hW=>aM rfl (HFC.out W hW.2).1 (HFC.out W hW.2).2.1 (HFC.out W hW.2).2.2) hm ?_
   go_simp
   refine aT 4 (v:=.slice (some ⟨b,o,none⟩) (m+1) c) rfl (by kernel_rfl) rfl (fun W _=>by go_simp) hm ?_
   go_simp
   refine aT 5 (v:=.int .i64 (q:Int)) rfl (by kernel_rfl) rfl (fun W _=>by go_simp) hm ?_
   go_simp
   refine aT 6 (v:=.pointer (some ⟨b,o+q * 3,none⟩)) rfl (by kernel_rfl) rfl (fun W _=>aK q rfl rfl rfl hqm) hm ?_
   go_simp
   refine aT 7 (v:=.agg (tcs (chT q) (.slice pq mq cq)).toArray) rfl (by kernel_rfl) rfl (fun W hW=>aM rfl (HQC.out W hW.2).1 (HQC.out W hW.2).2.1 (HQC.out W hW.2).2.2) hm ?_
   go_simp
   refine aT 8 (v:=.agg (tcs chN (.slice none 0 0)).toArray) rfl (by kernel_rfl) rfl (fun W _=>cS 1 3 rfl rfl) hm ?_
   go_simp
   refine aO 9 (by kernel_rfl) rfl rfl ?_
   intro K hK
   refine df (chT q) (chN) (.slice pq mq cq) (.slice none 0 0) rfl rfl rfl hm.1 ?_
   intro w56 g56 hb hg hm5
   have hmn:Mem w [] w56 []∧Below wq.heap.size wq w56:=⟨hm5.tail,hm.2.trans (hb.mono hm.2.size)⟩
   have HB56:Hid (SlT (fun _=>True) w56 (.slice (some ⟨g56,0,none⟩) 2 2) [chT q,chN]):=eh (hm5.get 0 rfl) (HFS.out.2.below hmn.2) (by rw [chN,ax];exact SlT.nil) trivial
   clear hm hm5 hb hg
   have hm:=hmn
   clear hmn
   refine wpList_nil ?_
   refine hK _ _ hm ?_
   clear hK K
   go_simp
   refine aT 10 (v:=.agg (tcs (chS q) (.slice (some ⟨g56,0,none⟩) 2 2)).toArray) rfl (by kernel_rfl) rfl (fun W _=>exec_bks 3 [chT q,chN] _ 2 2 rfl rfl) hm ?_
   go_simp
   refine aO 11 (by kernel_rfl) rfl rfl ?_
   intro K hK
   refine df (chT f) (chS q) (.slice pf mf cf) (.slice (some ⟨g56,0,none⟩) 2 2) rfl rfl rfl hm.1 ?_
   intro w58 g58 hb hg hm5
   have hmn:Mem w [] w58 []∧Below wq.heap.size wq w58:=⟨hm5.tail,hm.2.trans (hb.mono hm.2.size)⟩
   have HB58:Hid (SlT (fun _=>True) w58 (.slice (some ⟨g58,0,none⟩) 2 2) (chB f q)):=eh (hm5.get 0 rfl) (HFS.out.1.below hmn.2) (by rw [show (chS q).l=[chT q,chN] from ax _ _ _];exact HB56.out.below hb) trivial
   clear hm hm5 hb hg
   have hm:=hmn
   clear hmn
   refine wpList_nil ?_
   refine hK _ _ hm ?_
   clear hK K
   go_simp
   refine aT 12 (v:=.slice (some ⟨g58,0,none⟩) 2 2) rfl (by kernel_rfl) rfl (fun W _=>by go_simp) hm ?_
   go_simp
   refine wpAnyH_done (by kernel_rfl) ?_ _
   simp only [endsIn]
   obtain ⟨hm9,hb9⟩:=hm
   have HBE:Hid (Below w.heap.size w w58):=hm9.below
   have HOE:Hid (Below wq.heap.size wq w58):=hb9
   clear hm9 hb9
   have hm:=Mem.start w58
   have HCF:Hid (∀W,Below w58.heap.size w58 W→W.cell? ⟨b,o+q * 3,none⟩=some (.int .i64 (chT q).k)∧W.cell? ⟨b,o+q * 3+1,none⟩=some (.int .i64 (chT q).n)∧W.cell? ⟨b,o+q * 3+2,none⟩=some (.slice pq mq cq)):=fun W hW=>HQC.out W (HOE.out.trans (hW.mono HOE.out.size))
   have HK1:Hid (∀W,Below w58.heap.size w58 W→Calls Tryz.prog 11 #[.slice (some ⟨g58,0,none⟩) 2 2,.agg (tcs (chT q) (.slice pq mq cq)).toArray] W fun e w'=>e=.returned (.bool (decide (f≤q)))∧Below W.heap.size W w'):=fun W hW=>by
    have h:=aW (F:=fun _=>True) (G:=fun _=>True) (chB f q) (chT q) (.slice (some ⟨g58,0,none⟩) 2 2) (.slice pq mq cq) W (HB58.out.below hW) ((HFS.out.2.below HOE.out).below hW) (fun _=>bg (by rw [chB_sum,eo];have:=HFQ.out;omega)) (by simp [chB])
    rw [decide_eq_decide.2 (ch_kn1 (f:=f) (q:=q) (by have:=HFQ.out;omega) (by have:=HFQ.out;omega))] at h
    exact h
   have HK2:Hid (∀W,Below w58.heap.size w58 W→Calls Tryz.prog 11 #[.slice (some ⟨g58,0,none⟩) 2 2,.agg (tcs chN (.slice none 0 0)).toArray] W fun e w'=>e=.returned (.bool (decide (f≤q)))∧Below W.heap.size W w'):=fun W hW=>by
    have h:=aW (F:=fun _=>True) (G:=fun _=>True) (chB f q) chN (.slice (some ⟨g58,0,none⟩) 2 2) (.slice none 0 0) W (HB58.out.below hW) (by rw [chN,ax];exact SlT.nil) (fun h=>bg (by rw [chB_sum];have:=HFQ.out;have:=(bi.1 h).1;omega)) (by simp [chB])
    rw [decide_eq_decide.2 (ch_kn2 (f:=f) (q:=q) (by have:=HFQ.out;omega) (by have:=HFQ.out;omega))] at h
    exact h
   have hge:decide ((q:Int)≥(f:Int))=decide (f≤q):=by rw [decide_eq_decide];constructor<;>intro h<;>omega
   obtain ⟨r,hr⟩:∃r,r=decide (f≤q):=⟨_,rfl⟩
   rw [←hr] at HK1 HK2
   have hgr:(if f≤q then true else false)=r:=by rw [hr];split<;>simp_all
   cases r with
   | true =>
    have hfq:f≤q:=of_decide_eq_true hr.symm
    have hfqi:(f:Int)≤(q:Int):=by omega
    clear hr hge hgr
    go_wp2_with (first
     | ((with_reducible refine ad (some 62) (.indexAddr 22 (.tmp 60) (.tmp 61)) ?_);go_must (refine aa (.pointer (some ⟨b,o+q * 3,none⟩)) rfl (aK q rfl rfl rfl hqm) ?_))
     | ((with_reducible refine ad (some 63) (.load 24 (.tmp 62)) ?_);go_must (refine aa (.agg (tcs (chT q) (.slice pq mq cq)).toArray) rfl (aM rfl (HCF.out _ hm.below).1 (HCF.out _ hm.below).2.1 (HCF.out _ hm.below).2.2) ?_))
     | (clear tq1;go_at_call 11;go_must (refine (HK1.out _ hm.below).mono ?_);rintro e w64 ⟨he,hb⟩;subst he;replace hm:=hm.call hb;clear hb)
     | ((with_reducible refine aI (some 71) (.build 24 #[(0,.const (.int .i64 1)),(1,.const (.int .i64 3))]) (some (10,true)) ?_);go_must (refine aa (.agg (tcs chN (.slice none 0 0)).toArray) rfl (cS 1 3 rfl rfl) ?_))
     | (go_at_call 11;go_must (refine (HK2.out _ hm.below).mono ?_);rintro e w72 ⟨he,hb⟩;subst he;replace hm:=hm.call hb;clear hb))
    go_ret
    exact ⟨rfl,HBE.out.trans (hm.below.mono HBE.out.size)⟩
   | false =>
    have hfq:¬f≤q:=of_decide_eq_false hr.symm
    have hfqi:¬(f:Int)≤(q:Int):=by omega
    clear hr hge hgr
    go_wp2_with (first
     | ((with_reducible refine ad (some 62) (.indexAddr 22 (.tmp 60) (.tmp 61)) ?_);go_must (refine aa (.pointer (some ⟨b,o+q * 3,none⟩)) rfl (aK q rfl rfl rfl hqm) ?_))
     | ((with_reducible refine ad (some 63) (.load 24 (.tmp 62)) ?_);go_must (refine aa (.agg (tcs (chT q) (.slice pq mq cq)).toArray) rfl (aM rfl (HCF.out _ hm.below).1 (HCF.out _ hm.below).2.1 (HCF.out _ hm.below).2.2) ?_))
     | (clear tq1;go_at_call 11;go_must (refine (HK1.out _ hm.below).mono ?_);rintro e w64 ⟨he,hb⟩;subst he;replace hm:=hm.call hb;clear hb)
     | ((with_reducible refine aI (some 71) (.build 24 #[(0,.const (.int .i64 1)),(1,.const (.int .i64 3))]) (some (10,true)) ?_);go_must (refine aa (.agg (tcs chN (.slice none 0 0)).toArray) rfl (cS 1 3 rfl rfl) ?_))
     | (go_at_call 11;go_must (refine (HK2.out _ hm.below).mono ?_);rintro e w72 ⟨he,hb⟩;subst he;replace hm:=hm.call hb;clear hb))
    go_ret
    exact ⟨rfl,HBE.out.trans (hm.below.mono HBE.out.size)⟩
end Go.Proofs.YtcibhfcjbokdlaaGreatDoor
