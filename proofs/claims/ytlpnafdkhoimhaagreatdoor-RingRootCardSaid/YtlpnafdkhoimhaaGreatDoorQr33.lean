import Derived.Test.YtlpnafdkhoimhaaGreatDoorQr32
set_option maxRecDepth 100000
set_option maxHeartbeats 4000000
namespace Go.Proofs.YtlpnafdkhoimhaaGreatDoor
open Go Go.RowKit Go.Sort Go.Maps
theorem Rv.mono {w0 w:World} {g mb:Nat} {kv:Value} {sb hb:Nat} {d:Dk} {t:Slt} {k rb m c:Nat} {root:List Int} {p:Pls} {rows:List (Nat×List Value×TypeId)} {k':Nat} (h:Rv w0 w g mb kv sb hb d t k rb m c root p rows) (hk:k≤k'):Rv w0 w g mb kv sb hb d t k' rb m c root p rows:=⟨h.sv.mono hk,h.rg,h.nr,h.nm,h.ar,h.am,h.ap⟩
def eraIf (t:Slt) (n:Int):Slt:=if okI n=true then eraS t n.toNat else t
def eraL (p:Pls) (ks:List ByteArray) (t:Slt) (L:List (List ByteArray)):Slt:=L.foldl (fun t x=>if x=ks then t else eraIf t ((lkp p x).getD 0)) t
theorem okI_nat2 {n:Int} (h:okI n=true):n=(n.toNat:Int)∧n.toNat<24:=by
 obtain ⟨q,rfl,hq⟩:=okI_nat h
 omega
theorem era_any {w0 w:World} {g mb:Nat} {kv:Value} {sb hb:Nat} {d:Dk} {t:Slt} {k:Nat} {rows:List (Nat×List Value×TypeId)} (h:Sv w0 w g mb kv sb hb d t k rows) (hk:k≤1000000) (n:Int) (t':Slt) (ht':t'=eraIf t n) :
  Calls Tryz.prog 44 #[.pointer (some ⟨sb,0,none⟩),.int .i64 n] w fun e w'=>∃code:Int,e=.returned (.int .i64 code)∧(okI n=true→code=0)∧(∃d',Sv w0 w' g mb kv sb hb d' t' (k+1000) rows)∧UpdS (footS g mb kv sb hb) w w':=by
 cases hok:okI n with
 | true =>
  obtain ⟨h1,h2⟩:=okI_nat2 hok
  have ht2:t'=eraS t n.toNat:=by rw [ht',eraIf,if_pos hok]
  have:=erase_w h hk n.toNat h2 t' ht2
  rw [←h1] at this
  exact this.mono (fun e w' ⟨he,hs,hu⟩=>⟨0,he,fun _=>rfl,hs,hu⟩)
 | false =>
  have ht2:t'=t:=by rw [ht',eraIf,if_neg (by simp [hok])]
  subst ht2
  refine (erase_nv h n hok).mono (fun e w' hh=>?_)
  obtain ⟨he,hw⟩:=hh
  subst hw
  exact ⟨70,he,fun hc=>(by cases hc),⟨d,h.mono (by omega)⟩,UpdS.refl _ _⟩
theorem eraL_next {p:Pls} {ks x:List ByteArray} {t:Slt} {L:List (List ByteArray)} {j:Nat} (h:L[j]?=some x):eraL p ks t (L.take (j+1))=if x=ks then eraL p ks t (L.take j) else eraIf (eraL p ks t (L.take j)) ((lkp p x).getD 0):=by
 unfold eraL
 rw [List.take_add_one,h,List.foldl_append]
 rfl
theorem PlSl.lower {B B':Nat} {w:World} {v:Value} {L:List (List ByteArray)} (h:PlSl B w v L) (hb:B'≤B):PlSl B' w v L:=by
 obtain ⟨p,cap,hv,hp⟩:=h
 refine ⟨p,cap,hv,fun h0=>?_⟩
 obtain ⟨b,h1,h2,h3,h4⟩:=hp h0
 exact ⟨b,h1,Nat.le_trans hb h2,h3,h4⟩
theorem PlSl.updF {B:Nat} {w w':World} {v:Value} {L:List (List ByteArray)} {F:List Nat} (h:PlSl B w v L) (hu:UpdS F w w') (hF:∀q,B≤q→q ∉ F):PlSl B w' v L:=h.keep hu.size (fun b h1 h2=>Or.inl (hu.block b h2 (hF b h1)))
theorem erase_v2 {w0 w:World} {g mb:Nat} {kv:Value} {sb hb:Nat} {d:Dk} {t:Slt} {k rb m c:Nat} {root:List Int} {p:Pls} {rows:List (Nat×List Value×TypeId)} (h:Rv w0 w g mb kv sb hb d t k rb m c root p rows) (hM:MaxL w0) (hk:k≤890000) (hcc:c≤90000) (hlp:∀(L:List (List ByteArray)) ks,IsU p ks L→L.length≤100) (s:ByteArray) (hs:s.size≤1000) (ks:List ByteArray) (hks:ks=segsB s) (hv:takE p (isP (bs s)) ks=0) (si:Int) (hsi:si=(lkp p ks).getD 0) (hok:okI si=true) :
  Calls Tryz.prog 15 #[.pointer (some ⟨rb,0,none⟩),.string s] w fun e w'=>e=.returned (.int .i64 0)∧∃L d' k',IsU p ks L∧Rv w0 w' g mb kv sb hb d' (eraL p ks (eraIf t si) L) k' rb m c root (delAll p L) rows∧k'≤k+1000+1000 * L.length:=by
 have hm:=Mem.start w
 have hpk:PlOk ks:=by rw [hks];exact cX s
 have HXK:Hid (∀_:Unit,PlOk ks):=fun _=>hpk
 have HRL:Hid (root.length=32):=h.rg.rl
 have HCUR:Hid (Rv w0 w g mb kv sb hb d t k rb m c root p rows):=h
 have HLP:Hid (∀(L:List (List ByteArray)) ks,IsU p ks L→L.length≤100):=hlp
 have HSI:Hid (∀_:Unit,si=(lkp p ks).getD 0):=fun _=>hsi
 have HNF:Hid (∀q,w.heap.size≤q→q ∉ footS g mb kv sb hb):=fun q hq9 hf=>by have:=cT h.sv.at_ q hf;omega
 have HV:Hid (∀W,Below w.heap.size w W→Calls Tryz.prog 43 #[.pointer (some ⟨rb,0,none⟩),.string s] W fun e w'=>e=.returned (.tuple #[.agg (plv ks).toArray,.int .i64 0])∧Below W.heap.size W w'):=fun W hW=>by
  have:=taken_r (h.rg.below hW) s hs ((h.maxl hM).below hW)
  rw [←hks,hv] at this
  exact this
 clear h hM hks hv hpk hs hlp hsi
 go_enter Tryz.func15,Tryz.ntmps15
 go_wp2_with (first
  | (go_at_call 43;refine (HV.out _ hm.below).mono ?_;rintro e w' ⟨he,hb⟩;subst he;replace hm:=hm.call hb;clear hb)
  | ((with_reducible refine ae (some 5) (.alloc 76) ?_);refine ag _ aR hm ?_;clear hm;intro w1 g5 hm)
  | ((with_reducible refine ae none (.store 76 (.tmp 5) (.tmp 15)) ?_);refine ah 0 (plv ks) hm rfl rfl rfl 3 ax rfl rfl (aB _) ?_;clear hm;intro w2 hm))
 have HGX:w.heap.size≤g5:=by
  have:=hm.fresh (g5,plv ks,76) (by simp)
  simpa using this
 refine aA ?_
 refine aC (T:=fun W=>RgAt W rb m sb c root p∧Row W g5 (plv ks) 76) (by kernel_rfl) hm ?_
 intro wc hbw hmw
 clear hm hbw
 have hm:=hmw
 clear hmw
 have HT:Hid (RgAt wc rb m sb c root p∧Row wc g5 (plv ks) 76):=⟨HCUR.out.rg.below hm.below,hm.get 0 rfl⟩
 refine aT 0 (v:=.pointer (some ⟨rb,0,none⟩)) rfl (by kernel_rfl) rfl (fun W _=>by go_simp) HT.out ?_
 go_simp
 refine aT 1 (v:=.pointer (some ⟨rb,0,none⟩)) rfl (by kernel_rfl) rfl (fun W _=>by go_simp) HT.out ?_
 go_simp
 refine aT 2 (v:=.pointer (some ⟨rb,32,none⟩)) rfl (by kernel_rfl) rfl (fun W _=>by go_simp) HT.out ?_
 go_simp
 refine aT 3 (v:=.pointer (some ⟨sb,0,none⟩)) rfl (by kernel_rfl) rfl (fun W hW=>aK 32 (.pointer (some ⟨sb,0,none⟩)) hW.1.row rfl iW (ek HRL.out)) HT.out ?_
 go_simp
 refine aT 4 (v:=.pointer (some ⟨rb,0,none⟩)) rfl (by kernel_rfl) rfl (fun W _=>by go_simp) HT.out ?_
 go_simp
 refine aT 5 (v:=.pointer (some ⟨rb,0,none⟩)) rfl (by kernel_rfl) rfl (fun W _=>by go_simp) HT.out ?_
 go_simp
 refine aT 6 (v:=.pointer (some ⟨rb,33,none⟩)) rfl (by kernel_rfl) rfl (fun W _=>by go_simp) HT.out ?_
 go_simp
 refine aT 7 (v:=.map (some m)) rfl (by kernel_rfl) rfl (fun W hW=>aK 33 (.map (some m)) hW.1.row rfl dA (du HRL.out)) HT.out ?_
 go_simp
 refine aT 8 (v:=.agg (plv ks).toArray) rfl (by kernel_rfl) rfl (fun W hW=>au 0 (plv ks) hW.2 rfl _ aI rfl 3 ax (Nat.le_refl 3) rfl) HT.out ?_
 go_simp
 refine aT 9 (v:=.int .i64 si) rfl (by kernel_rfl) rfl (fun W hW=>bi (hW.1.look1 (HXK.out ()) si (HSI.out ())) rfl rfl) HT.out ?_
 go_simp
 refine aO 10 (by kernel_rfl) rfl rfl ?_
 intro K hK
 go_wp2_with (go_at_call 44;refine (era_any (HCUR.out.below hm.below).sv (by omega) _ _ rfl).mono ?_;rintro e w6 ⟨code,he,hc0,hs6,hu6⟩;have hc1:=hc0 hok;subst hc1;clear hc0;subst he;have HS6:Hid (∃d',Sv w0 w6 g mb kv sb hb d' _ _ rows):=hs6;have HU6:Hid (UpdS (footS g mb kv sb hb) wc w6):=hu6;clear hs6 hu6)
 have HV6:Hid (∃d6,Rv w0 w6 g mb kv sb hb d6 (eraIf t si) (k+1000) rb m c root p rows):=by
  obtain ⟨d6,hs6⟩:=HS6.out
  exact ⟨d6,(HCUR.out.below hm.below).turn hs6 HU6.out⟩
 have HT6:Hid (RgAt w6 rb m sb c root p∧Row w6 g5 (plv ks) 76):=by
  obtain ⟨d6,hv6⟩:=HV6.out
  exact ⟨hv6.rg,HU6.out.row HT.out.2 (HNF.out _ HGX)⟩
 refine hK _ _ HT6.out ?_
 clear hK K
 go_simp
 refine aT 11 (v:=.int .i64 0) rfl (by kernel_rfl) rfl (fun W _=>by go_simp) HT6.out ?_
 go_simp
 refine wpAnyH_done (by kernel_rfl) ?_ _
 simp only [endsIn]
 obtain ⟨d6,hv6⟩:=HV6.out
 have HR6:Hid (Rv w0 w6 g mb kv sb hb d6 (eraIf t si) (k+1000) rb m c root p rows∧Row w6 g5 (plv ks) 76):=⟨hv6,HT6.out.2⟩
 have hsz6:w.heap.size≤w6.heap.size:=Nat.le_trans hm.size HU6.out.size
 clear hm hv6 HV6 HT6 HT HU6 HS6 HCUR HV
 have hm:=Mem.start w6
 have HUN:Hid (∀W,Below w6.heap.size w6 W→Calls Tryz.prog 31 #[.pointer (some ⟨rb,0,none⟩),.agg (plv ks).toArray] W fun e w'=>∃v L,e=.returned v∧PlSl W.heap.size w' v L∧IsU p ks L∧Below W.heap.size W w'):=fun W hW=>under_r (HR6.out.1.rg.below hW) hcc (HXK.out ())
 go_wp2_with (first
  | ((with_reducible refine ae (some 35) (.load 76 (.tmp 5)) ?_);go_must (refine aj (.agg (plv ks).toArray) rfl (au 0 (plv ks) (Row.bel HR6.out.2 hm.below) rfl _ aI rfl 3 ax (Nat.le_refl 3) rfl) ?_))
  | (go_at_call 31;refine (HUN.out _ hm.below).mono ?_;rintro e w7 ⟨v,L,he,hps,hiu,hb⟩;subst he;have HPS:Hid (PlSl w6.heap.size w7 v L):=hps.lower hm.size;have HIU:Hid (IsU p ks L):=hiu;replace hm:=hm.call hb;obtain ⟨pp,cap,hvv,hpp⟩:=id hps;clear hpp;obtain ⟨N,hN⟩:∃N,N=L.length:=⟨_,rfl⟩;rw [←hN] at hvv;subst hvv;have HN:Hid (∀_:Unit,N=L.length):=fun _=>hN;clear hb hps hiu hN))
 have hN9:N≤100:=by rw [HN.out ()];exact HLP.out L ks HIU.out
 have H0:Hid (∃dj,Rv w0 w7 g mb kv sb hb dj (eraL p ks (eraIf t si) (L.take 0)) (k+1000+1000 * 0) rb m c root p rows∧Row w7 g5 (plv ks) 76∧PlSl w6.heap.size w7 (.slice pp N cap) L):=⟨d6,HR6.out.1.below hm.below,Row.bel HR6.out.2 hm.below,HPS.out⟩
 have hsz7:w6.heap.size≤w7.heap.size:=hm.size
 clear hm HPS HR6 HUN
 go_loopw [39] (fun vi wr=>∃j:Nat,j≤N∧vi=.int .i64 (j:Int)∧w6.heap.size≤wr.heap.size∧Hid (∃dj,Rv w0 wr g mb kv sb hb dj (eraL p ks (eraIf t si) (L.take j)) (k+1000+1000 * j) rb m c root p rows∧Row wr g5 (plv ks) 76∧PlSl w6.heap.size wr (.slice pp N cap) L)) (fun vi _=>match vi with | .int _ q=>N - q.toNat|_=>0)
 case atStart=>exact ⟨0,by omega,rfl,hsz7,H0⟩
 case round =>
  obtain ⟨j,hj,rfl,hszr,HJ⟩:=hrel
  obtain ⟨dj,hvj,hrj,hpj⟩:=HJ.out
  have HCUR:Hid (Rv w0 wr g mb kv sb hb dj (eraL p ks (eraIf t si) (L.take j)) (k+1000+1000 * j) rb m c root p rows):=hvj
  have HRJ:Hid (Row wr g5 (plv ks) 76):=hrj
  have HPJ:Hid (PlSl w6.heap.size wr (.slice pp N cap) L):=hpj
  clear hvj hrj hpj HJ
  have hm:=Mem.start wr
  by_cases hlt:j<N
  ·have hki:(j:Int)<(N:Int):=by omega
   have hw:IntKind.i64.wrap ((j:Int)+1)=(j:Int)+1:=dt _ (by omega) (by omega)
   have hjL:j<L.length:=by rw [←HN.out ()];exact hlt
   obtain ⟨x,hx⟩:∃x,x=L[j]:=⟨_,rfl⟩
   have HLI:Hid (∀_:Unit,L[j]?=some x):=fun _=>by rw [hx];simp [hjL]
   have HXX:Hid (∀_:Unit,PlOk x):=fun _=>by rw [hx];exact ((HIU.out.mem _).1 (List.getElem_mem hjL)).1
   obtain ⟨p2,cap2,hv2,hc2⟩:=HPJ.out
   rw [←HN.out ()] at hv2
   simp only [Value.slice.injEq,true_and] at hv2
   obtain ⟨hv3,hv4⟩:=hv2
   subst hv3
   subst hv4
   obtain ⟨b,hb1,hb2,hb3,hb4⟩:=hc2 (by rw [←HN.out ()];omega)
   subst hb1
   have HC:Hid (∀q y,(plv x)[q]?=some y→wr.cell? ⟨b,j * 3+q,none⟩=some y):=fun q y hy=>hb4 j x (HLI.out ()) q y hy
   clear hx hc2 hb4 hb2 hb3
   by_cases hxk:x=ks
   ·have HB:Hid (∀_:Unit,true=decide (x=ks)):=fun _=>by simp [hxk]
    have HTJ:Hid (∀_:Unit,eraL p ks (eraIf t si) (L.take (j+1))=eraL p ks (eraIf t si) (L.take j)):=fun _=>by rw [eraL_next (HLI.out ()),if_pos hxk]
    clear hxk
    go_wp2_with (first
     | ((with_reducible refine ae (some 41) (.indexAddr 74 (.tmp 37) (.tmp 39)) ?_);go_must (refine aj (.pointer (some ⟨b,j * 3,none⟩)) rfl (hO j rfl rfl rfl hlt) ?_))
     | ((with_reducible refine ae (some 42) (.load 76 (.tmp 41)) ?_);go_must (refine iq (plv x) (j * 3) rfl HC.out _ aI rfl 3 ax rfl ?_))
     | ((with_reducible refine ae (some 10) (.alloc 76) ?_);refine ag _ aR hm ?_;clear hm;intro w3 g10 hm)
     | ((with_reducible refine ae none (.store 76 (.tmp 10) (.tmp 42)) ?_);refine ah 0 (plv x) hm rfl rfl rfl 3 ax rfl rfl (aB _) ?_;clear hm;intro w4 hm)
     | ((with_reducible refine ae (some 43) (.load 76 (.tmp 10)) ?_);refine av 0 hm rfl rfl _ aI rfl 3 ax (by rfl) ?_)
     | ((with_reducible refine ae (some 44) (.load 76 (.tmp 5)) ?_);go_must (refine aj (.agg (plv ks).toArray) rfl (au 0 (plv ks) (Row.bel HRJ.out hm.below) rfl _ aI rfl 3 ax (Nat.le_refl 3) rfl) ?_))
     | ((with_reducible refine ae (some 45) (.binOp .neq 76 (.tmp 43) (.tmp 44) 76) ?_);go_must (refine aj (.bool false) rfl (exec_neP (HXX.out ()) (HXK.out ()) true (HB.out ()) rfl rfl) ?_)))
    go_roundw
    case rel =>
     have h9:=HCUR.out.below hm.below
     have h10:=h9.mono (k':=k+1000+1000 * (j+1)) (by omega)
     rw [←HTJ.out ()] at h10
     exact ⟨j+1,by omega,by go_num,Nat.le_trans hszr hm.size,dj,h10,Row.bel HRJ.out hm.below,HPJ.out.below hm.below⟩
    case measure=>show N - ((j:Int)+1).toNat<N - (j:Int).toNat;omega
   ·have HB:Hid (∀_:Unit,false=decide (x=ks)):=fun _=>by simp [hxk]
    obtain ⟨sx,hsx⟩:∃sx,sx=(lkp p x).getD 0:=⟨_,rfl⟩
    have HTJ:Hid (∀_:Unit,eraL p ks (eraIf t si) (L.take (j+1))=eraIf (eraL p ks (eraIf t si) (L.take j)) sx):=fun _=>by rw [eraL_next (HLI.out ()),if_neg hxk,hsx]
    have HSX:Hid (∀_:Unit,sx=(lkp p x).getD 0):=fun _=>hsx
    clear hxk hsx
    go_wp2_with (first
     | ((with_reducible refine ae (some 41) (.indexAddr 74 (.tmp 37) (.tmp 39)) ?_);go_must (refine aj (.pointer (some ⟨b,j * 3,none⟩)) rfl (hO j rfl rfl rfl hlt) ?_))
     | ((with_reducible refine ae (some 42) (.load 76 (.tmp 41)) ?_);go_must (refine iq (plv x) (j * 3) rfl HC.out _ aI rfl 3 ax rfl ?_))
     | ((with_reducible refine ae (some 10) (.alloc 76) ?_);refine ag _ aR hm ?_;clear hm;intro w3 g10 hm)
     | ((with_reducible refine ae none (.store 76 (.tmp 10) (.tmp 42)) ?_);refine ah 0 (plv x) hm rfl rfl rfl 3 ax rfl rfl (aB _) ?_;clear hm;intro w4 hm)
     | ((with_reducible refine ae (some 43) (.load 76 (.tmp 10)) ?_);refine av 0 hm rfl rfl _ aI rfl 3 ax (by rfl) ?_)
     | ((with_reducible refine ae (some 44) (.load 76 (.tmp 5)) ?_);go_must (refine aj (.agg (plv ks).toArray) rfl (au 0 (plv ks) (Row.bel HRJ.out hm.below) rfl _ aI rfl 3 ax (Nat.le_refl 3) rfl) ?_))
     | ((with_reducible refine ae (some 45) (.binOp .neq 76 (.tmp 43) (.tmp 44) 76) ?_);go_must (refine aj (.bool true) rfl (exec_neP (HXX.out ()) (HXK.out ()) false (HB.out ()) rfl rfl) ?_)))
    have HG5:w.heap.size≤g5:=HGX
    clear HGX HXK HSI
    have HXK:=HXX
    have HSI:=HSX
    have HGX:w.heap.size≤g10:=by
     have:=hm.fresh (g10,plv x,76) (by simp)
     simp only [List.not_mem_nil,false_or] at this
     omega
    refine aA ?_
    refine aC (T:=fun W=>RgAt W rb m sb c root p∧Row W g10 (plv x) 76) (by kernel_rfl) hm ?_
    intro wc hbw hmw
    clear hm hbw
    have hm:=hmw
    clear hmw
    have HT:Hid (RgAt wc rb m sb c root p∧Row wc g10 (plv x) 76):=⟨HCUR.out.rg.below hm.below,hm.get 0 rfl⟩
    refine aT 0 (v:=.pointer (some ⟨rb,0,none⟩)) rfl (by kernel_rfl) rfl (fun W _=>by go_simp) HT.out ?_
    go_simp
    refine aT 1 (v:=.pointer (some ⟨rb,0,none⟩)) rfl (by kernel_rfl) rfl (fun W _=>by go_simp) HT.out ?_
    go_simp
    refine aT 2 (v:=.pointer (some ⟨rb,32,none⟩)) rfl (by kernel_rfl) rfl (fun W _=>by go_simp) HT.out ?_
    go_simp
    refine aT 3 (v:=.pointer (some ⟨sb,0,none⟩)) rfl (by kernel_rfl) rfl (fun W hW=>aK 32 (.pointer (some ⟨sb,0,none⟩)) hW.1.row rfl iW (ek HRL.out)) HT.out ?_
    go_simp
    refine aT 4 (v:=.pointer (some ⟨rb,0,none⟩)) rfl (by kernel_rfl) rfl (fun W _=>by go_simp) HT.out ?_
    go_simp
    refine aT 5 (v:=.pointer (some ⟨rb,0,none⟩)) rfl (by kernel_rfl) rfl (fun W _=>by go_simp) HT.out ?_
    go_simp
    refine aT 6 (v:=.pointer (some ⟨rb,33,none⟩)) rfl (by kernel_rfl) rfl (fun W _=>by go_simp) HT.out ?_
    go_simp
    refine aT 7 (v:=.map (some m)) rfl (by kernel_rfl) rfl (fun W hW=>aK 33 (.map (some m)) hW.1.row rfl dA (du HRL.out)) HT.out ?_
    go_simp
    refine aT 8 (v:=.agg (plv x).toArray) rfl (by kernel_rfl) rfl (fun W hW=>au 0 (plv x) hW.2 rfl _ aI rfl 3 ax (Nat.le_refl 3) rfl) HT.out ?_
    go_simp
    refine aT 9 (v:=.int .i64 sx) rfl (by kernel_rfl) rfl (fun W hW=>bi (hW.1.look1 (HXK.out ()) sx (HSI.out ())) rfl rfl) HT.out ?_
    go_simp
    refine aO 10 (by kernel_rfl) rfl rfl ?_
    intro K hK
    go_wp2_with (go_at_call 44;refine (era_any (HCUR.out.below hm.below).sv (by omega) _ _ rfl).mono ?_;rintro e wz ⟨code,he,hc0,hs6,hu6⟩;clear hc0;subst he;have HS6:Hid (∃d',Sv w0 wz g mb kv sb hb d' _ _ rows):=hs6;have HU6:Hid (UpdS (footS g mb kv sb hb) wc wz):=hu6;clear hs6 hu6)
    have HV6:Hid (∃d6,Rv w0 wz g mb kv sb hb d6 (eraIf (eraL p ks (eraIf t si) (L.take j)) sx) (k+1000+1000 * j+1000) rb m c root p rows):=by
     obtain ⟨d6,hs6⟩:=HS6.out
     exact ⟨d6,(HCUR.out.below hm.below).turn hs6 HU6.out⟩
    have HT6:Hid (RgAt wz rb m sb c root p∧Row wz g10 (plv x) 76):=by
     obtain ⟨d6,hv6⟩:=HV6.out
     exact ⟨hv6.rg,HU6.out.row HT.out.2 (HNF.out _ HGX)⟩
    refine hK _ _ HT6.out ?_
    clear hK K
    go_simp
    refine wpAnyH_done (by kernel_rfl) ?_ _
    simp only [endsIn]
    go_wp2_with fail
    go_roundw
    case rel =>
     obtain ⟨dz,hvz⟩:=HV6.out
     have e1:k+1000+1000 * j+1000=k+1000+1000 * (j+1):=by omega
     rw [e1] at hvz
     exact ⟨j+1,by omega,by go_num,Nat.le_trans hszr (Nat.le_trans hm.size HU6.out.size),dz,by rw [HTJ.out ()];exact hvz,HU6.out.row (Row.bel HRJ.out hm.below) (HNF.out _ HG5),(HPJ.out.below hm.below).updF HU6.out (fun q hq=>HNF.out q (by omega))⟩
    case measure=>show N - ((j:Int)+1).toNat<N - (j:Int).toNat;omega
  ·have hjn:j=N:=by omega
   subst hjn
   have HE:Hid (∀_:Unit,L.take j=L):=fun _=>List.take_of_length_le (by rw [HN.out ()];exact Nat.le_refl _)
   go_wp2_with (first
    | (go_at_call 45;refine (jJ (HCUR.out.rg.below hm.below) (HPJ.out.below hm.below) (fun x hx=>((HIU.out.mem x).1 hx).1) (by have:=HLP.out L ks HIU.out;omega)).mono ?_;rintro e w8 ⟨he,hr8,hu8⟩;subst he;have H8:Hid (∃L d' k',IsU p ks L∧Rv w0 w8 g mb kv sb hb d' (eraL p ks (eraIf t si) L) k' rb m c root (delAll p L) rows∧k'≤k+1000+1000 * L.length):=⟨L,dj,k+1000+1000 * j,HIU.out,by have h9:=(HCUR.out.below hm.below).updM hu8 hr8;rw [HE.out ()] at h9;exact h9,by have h7:=HN.out ();omega⟩;clear hr8 hu8))
   go_ret
   exact ⟨rfl,H8.out⟩
open Go Go.RowKit Go.Sort Go.Maps
def kA:ByteArray:=⟨#[97]⟩
def kB:ByteArray:=⟨#[98]⟩
theorem iN:segsB ⟨#[]⟩=[]:=rfl
def pA:Pls:=[([kA],1)]
def pAB:Pls:=[([kA,kB],2),([kA],1)]
theorem lk_A:lkp pA [kA]=some 1:=by simp [lkp,pA]
theorem lk_AAB:lkp pA [kA,kB]=none:=by simp [lkp,pA]
theorem fS:lkp pAB [kA]=some 1:=by simp [lkp,pAB]
theorem gY:lkp pAB [kA,kB]=some 2:=by simp [lkp,pAB]
theorem vac_a:vacE [] true [kA]=0:=by simp [vacE,hasB,lkp]
theorem vac_ab:vacE pA true [kA,kB]=0:=by simp [vacE,hasB,lk_A,lk_AAB]
theorem vac_twice:vacE pAB true [kA]=101:=by simp [vacE,hasB,fS]
theorem vac_xy:vacE pAB true [⟨#[120]⟩,⟨#[121]⟩]=100:=by
 have h1:lkp pAB [⟨#[120]⟩,⟨#[121]⟩]=none:=by simp [lkp,pAB,kA]
 have h2:lkp pAB [⟨#[120]⟩]=none:=by simp [lkp,pAB,kA]
 simp [vacE,hasB,h1,h2]
theorem kg (p:Pls) (ks:List ByteArray) (h:ks=[]):vacE p true ks=110:=by subst h;simp [vacE]
theorem f9 (held:Nat→Option Ent) (p:Pls) (root:List Int):keyR held p root []=(root,0):=rfl
theorem iS {held:Nat→Option Ent} {p:Pls} {root K:List Int} {a:ByteArray} {n:Int} (hl:lkp p [a]=some n) (hg:getV held n root=(K,0)):keyR held p root [a]=(K,0):=by
 have e0:slN p [a] 0=n:=by simp [slN,hl]
 show kRun held (slN p [a]) root 1 1=_
 simp [kRun,kerr,kst,e0,hg]
theorem keyR_two {held:Nat→Option Ent} {p:Pls} {root K J:List Int} {a b:ByteArray} {n q:Int} (hl:lkp p [a]=some n) (hg:getV held n root=(K,0)) (hl2:lkp p [a,b]=some q) (hg2:getV held q K=(J,0)):keyR held p root [a,b]=(J,0):=by
 have e0:slN p [a,b] 0=n:=by simp [slN,hl]
 have e1:slN p [a,b] 1=q:=by simp [slN,hl2]
 show kRun held (slN p [a,b]) root 2 2=_
 simp [kRun,kerr,kst,e0,e1,hg,hg2]
theorem keyR_gone {held:Nat→Option Ent} {p:Pls} {root:List Int} {a b:ByteArray} {n:Int} (hl:lkp p [a]=some n) (hg:getV held n root=(zero32,120)):keyR held p root [a,b]=(zero32,120):=by
 have e0:slN p [a,b] 0=n:=by simp [slN,hl]
 show kRun held (slN p [a,b]) root 2 2=_
 simp [kRun,kerr,kst,e0,hg]
def t1 (a:List Int):Slt:=putS newS 1 (entN newS 1 (keyB13 0) a)
def t2 (a b:List Int):Slt:=putS (t1 a) 2 (entN (t1 a) 2 a b)
theorem get_1 {a:List Int} (hl:a.length=32) (hb:Bytes a):getV (t1 a).held 1 (keyB13 0)=(a,0):=ig (t:=newS) (i:=1) (by omega) _ _ hl hb
theorem get_2b {a b:List Int} (hl:b.length=32) (hb:Bytes b):getV (t2 a b).held 2 a=(b,0):=ig (t:=t1 a) (i:=2) (by omega) _ _ hl hb
theorem get_2a {a b:List Int} (hl:a.length=32) (hb:Bytes a):getV (t2 a b).held 1 (keyB13 0)=(a,0):=by
 have h:(t2 a b).held 1=(t1 a).held 1:=aN (t1 a).held (some (entN (t1 a) 2 a b)) (show (1:Nat)≠2 by decide)
 have:=get_1 hl hb
 unfold getV at this ⊢
 rw [show (1:Int).toNat=1 from rfl] at this ⊢
 rw [h];exact this
theorem isU_len {p:Pls}:∀ {L:List (List ByteArray)},L.Nodup→(∀ks∈L,(lkp p ks).isSome=true)→L.length≤p.length:=by
 induction p with
 | nil =>
  intro L _ h
  cases L with
  | nil=>simp
  | cons x L=>have:=h x (by simp);simp [lkp] at this
 | cons y p ih =>
  intro L hn h
  have h1:=ih (L:=L.filter fun x => !decide (y.1=x)) (hn.filter _) (fun ks hk=>by
   simp only [List.mem_filter,Bool.not_eq_true',decide_eq_false_iff_not] at hk
   have:=h ks hk.1
   rw [show y=(y.1,y.2) from rfl,ew,if_neg hk.2] at this
   exact this)
  have h2:L.length≤(L.filter fun x => !decide (y.1=x)).length+1:=by
   clear h h1 ih
   induction L with
   | nil=>simp
   | cons x L ih2 =>
    have hn2:=(List.nodup_cons.1 hn)
    by_cases hx:y.1=x
    ·have:(L.filter fun z => !decide (y.1=z))=L:=List.filter_eq_self.2 (fun z hz=>by
      simp only [Bool.not_eq_true',decide_eq_false_iff_not]
      rintro rfl
      exact hn2.1 (hx▸hz))
     rw [List.filter_cons_of_neg (by simp [hx]),this];simp
    ·rw [List.filter_cons_of_pos (by simp [hx])]
     have:=ih2 hn2.2
     simp only [List.length_cons];omega
  simp only [List.length_cons];omega
theorem IsU.len {p:Pls} {ks:List ByteArray} {L:List (List ByteArray)} (h:IsU p ks L):L.length≤p.length:=isU_len h.nd (fun x hx=>((h.mem x).1 hx).2.1)
open Go Go.RowKit Go.Sort Go.Maps
theorem eraIf_none {t:Slt} {j:Nat} (h:t.held j=none) (n:Int):(eraIf t n).held j=none:=by
 unfold eraIf
 split
 ·by_cases hj:j=n.toNat
  ·subst hj;exact bo _ _ _
  ·exact (aN _ _ hj).trans h
 ·exact h
theorem i6 {p:Pls} {ks:List ByteArray} {j:Nat}:∀(L:List (List ByteArray)) {t:Slt},t.held j=none→(eraL p ks t L).held j=none
 | [],_,h=>h
 | x::L,t,h=>by
  show (eraL p ks (if x=ks then t else eraIf t ((lkp p x).getD 0)) L).held j=none
  refine i6 L ?_
  split
  ·exact h
  ·exact eraIf_none h _
theorem kw {t:Slt} {n:Int} {j:Nat} (hn:n=(j:Int)) (hj:j<24):(eraIf t n).held j=none:=by
 subst hn
 unfold eraIf
 rw [if_pos (show okI (j:Int)=true from decide_eq_true (by omega))]
 rw [Int.toNat_natCast]
 exact bo _ _ _
theorem jP {t:Slt} {n:Int} {j:Nat} (hn:n≠(j:Int)):(eraIf t n).held j=t.held j:=by
 unfold eraIf
 split
 ·rename_i h
  obtain ⟨h1,_⟩:=okI_nat2 h
  exact aN _ _ (by omega)
 ·rfl
structure PlsOk (p:Pls):Prop where
 nd:(p.map (·.1)).Nodup
 ok:∀x∈p,PlOk x.1
theorem ft {p:Pls} {ks:List ByteArray}:(lkp p ks).isSome=true↔ks∈p.map (·.1):=by
 induction p with
 | nil=>simp [lkp]
 | cons y p ih =>
  rw [show y=(y.1,y.2) from rfl,ew]
  by_cases h:y.1=ks
  ·rw [if_pos h];simp [h]
  ·rw [if_neg h,ih]
   simp only [List.map_cons,List.mem_cons]
   constructor
   ·exact Or.inr
   ·rintro (h1|h1)
    ·exact absurd h1.symm h
    ·exact h1
theorem isU_perm {p:Pls} {L:List (List ByteArray)} (hp:PlsOk p) (h:IsU p [] L):L.Perm (p.map (·.1)):=by
 refine (List.perm_ext_iff_of_nodup h.nd hp.nd).2 (fun ks=>?_)
 rw [h.mem,←ft]
 constructor
 ·rintro ⟨_,h1,_⟩;exact h1
 ·intro h1
  obtain ⟨x,hx,rfl⟩:=List.mem_map.1 (ft.1 h1)
  exact ⟨hp.ok x hx,h1,by simp⟩
theorem isU_all {p:Pls} {L:List (List ByteArray)} (hp:PlsOk p) (h:IsU p [] L):L.length=p.length:=by
 rw [(isU_perm hp h).length_eq,List.length_map]
theorem fi {p:Pls} (n:Nat) (hn:p.length≤n):∀(L:List (List ByteArray)) ks,IsU p ks L→L.length≤n:=fun _ _ h=>Nat.le_trans h.len hn
theorem eK (s:ByteArray) (ks:List ByteArray) (h:segsB s=ks):PlOk ks:=h▸cX s
theorem PlsOk.cons {p:Pls} (hp:PlsOk p) {ks:List ByteArray} (hk:PlOk ks) (hl:lkp p ks=none) (n:Int):PlsOk ((ks,n)::p):=by
 refine ⟨?_,fun x hx=>?_⟩
 ·rw [List.map_cons,List.nodup_cons]
  refine ⟨fun h=>?_,hp.nd⟩
  have:=ft.2 h
  rw [hl] at this
  cases this
 ·rcases List.mem_cons.1 hx with rfl|hx
  ·exact hk
  ·exact hp.ok x hx
theorem PlsOk.del {p:Pls} (hp:PlsOk p) (L:List (List ByteArray)):PlsOk (delAll p L):=by
 refine ⟨?_,fun x hx=>hp.ok x (List.mem_filter.1 hx).1⟩
 have h:((p.filter fun x => !inL L x.1).map (·.1)).Sublist (p.map (·.1)):=List.filter_sublist.map _
 exact hp.nd.sublist h
theorem PlsOk.nil:PlsOk []:=⟨List.nodup_nil,fun _ h=>(by cases h)⟩
theorem del_all {p:Pls} {L:List (List ByteArray)} (h:∀x∈p,x.1∈L):delAll p L=[]:=by
 unfold delAll
 rw [List.filter_eq_nil_iff]
 intro x hx
 simp only [Bool.not_eq_true',Bool.not_eq_false]
 exact iJ.2 (h x hx)
section
variable {w0 w:World} {g mb:Nat} {kv:Value} {sb hb:Nat} {d:Dk} {t:Slt} {k rb m c:Nat} {root:List Int} {p:Pls} {rows:List (Nat×List Value×TypeId)}
theorem key_v (h:Rv w0 w g mb kv sb hb d t k rb m c root p rows) (ht:Tab w0) (hq:QTab w0) (hM:MaxL w0) (s:ByteArray) (hs:s.size≤1000) (Z:List Int) (z:Int) (hz:keyV t.held p root (isP (bs s)) (segsB s)=(Z,z)) :
  Calls Tryz.prog 12 #[.pointer (some ⟨rb,0,none⟩),.string s] w fun e w'=>e=.returned (.tuple #[.agg (u8s Z).toArray,.int .i64 z])∧Rv w0 w' g mb kv sb hb d t k rb m c root p rows :=
 (key_r h.rg h.sv.at_ (h.sv.tab ht) (h.sv.qtab hq) s hs (h.maxl hM) (segsB s) rfl Z z hz).mono (fun _ _ hh=>⟨hh.1,h.below hh.2⟩)
theorem mount_v (h:Rv w0 w g mb kv sb hb d t k rb m c root p rows) (ht:Tab w0) (hq:QTab w0) (hM:MaxL w0) (s:ByteArray) (hs:s.size≤1000) (mt:ByteArray) (hmt:mt.size≤1000) (Z:List Int) (z:Int) (hz:keyV t.held p root (isP (bs s)) (segsB s)=(Z,z)) (hZl:Z.length=32) (hZb:Bytes Z) (Y:List Int) (hY:Y=if z=0 then mntOf Z mt else zero32) :
  Calls Tryz.prog 22 #[.pointer (some ⟨rb,0,none⟩),.string s,.string mt] w fun e w'=>e=.returned (.tuple #[.agg (u8s Y).toArray,.int .i64 z])∧Rv w0 w' g mb kv sb hb d t k rb m c root p rows :=
 (mount_r h.rg h.sv.at_ (h.sv.tab ht) (h.sv.qtab hq) s hs (h.maxl hM) mt hmt (segsB s) rfl Z z hz hZl hZb Y hY).mono (fun _ _ hh=>⟨hh.1,h.below hh.2⟩)
theorem jc (h:Rv w0 w g mb kv sb hb d t k rb m c root p rows) (hM:MaxL w0) (hcc:c≤90000) (s:ByteArray) (hs:s.size≤1000) (slot:Int) (he0:vacE p (isP (bs s)) (segsB s)=0) :
  Calls Tryz.prog 16 #[.pointer (some ⟨rb,0,none⟩),.string s,.int .i64 slot] w fun e w'=>e=.returned (.int .i64 0)∧Rv w0 w' g mb kv sb hb d t k rb m (c+1) root ((segsB s,slot)::p) rows :=
 (lk h.rg hcc s hs (h.maxl hM) slot (segsB s) rfl 0 he0.symm).mono (fun _ _ hh=>⟨hh.1,h.updM hh.2.2 (by have h9:=hh.2.1;rw [if_pos rfl] at h9;exact h9)⟩)
theorem attach_no (h:Rv w0 w g mb kv sb hb d t k rb m c root p rows) (hM:MaxL w0) (hcc:c≤90000) (s:ByteArray) (hs:s.size≤1000) (slot:Int) (e0:Int) (he0:vacE p (isP (bs s)) (segsB s)=e0) (hne:e0≠0) :
  Calls Tryz.prog 16 #[.pointer (some ⟨rb,0,none⟩),.string s,.int .i64 slot] w fun e w'=>e=.returned (.int .i64 e0)∧Rv w0 w' g mb kv sb hb d t k rb m (c+1) root p rows :=
 (lk h.rg hcc s hs (h.maxl hM) slot (segsB s) rfl e0 he0.symm).mono (fun _ _ hh=>⟨hh.1,h.updM hh.2.2 (by have h9:=hh.2.1;rw [if_neg hne] at h9;exact h9)⟩)
theorem forget_ok (h:Rv w0 w g mb kv sb hb d t k rb m c root p rows) (hM:MaxL w0) (hcc:c≤90000) (hlp:p.length≤100) (s:ByteArray) (hs:s.size≤1000) (he0:takE p (isP (bs s)) (segsB s)=0) :
  Calls Tryz.prog 23 #[.pointer (some ⟨rb,0,none⟩),.string s] w fun e w'=>e=.returned (.int .i64 0)∧∃L,IsU p (segsB s) L∧Rv w0 w' g mb kv sb hb d t k rb m c root (delAll p L) rows :=
 (forget_r h.rg hcc (fi 100000 (by omega)) s hs (h.maxl hM) (segsB s) rfl 0 he0.symm).mono (fun _ _ hh=>by
  obtain ⟨h1,h2⟩:=hh
  rcases h2 with ⟨_,L,hL,hr,hu⟩|⟨h3,_⟩
  ·exact ⟨h1,L,hL,h.updM hu hr⟩
  ·exact absurd rfl h3)
theorem fe (h:Rv w0 w g mb kv sb hb d t k rb m c root p rows) (hM:MaxL w0) (hcc:c≤90000) (hlp:p.length≤100) (s:ByteArray) (hs:s.size≤1000) (e0:Int) (he0:takE p (isP (bs s)) (segsB s)=e0) (hne:e0≠0) :
  Calls Tryz.prog 23 #[.pointer (some ⟨rb,0,none⟩),.string s] w fun e w'=>e=.returned (.int .i64 e0)∧Rv w0 w' g mb kv sb hb d t k rb m c root p rows :=
 (forget_r h.rg hcc (fi 100000 (by omega)) s hs (h.maxl hM) (segsB s) rfl e0 he0.symm).mono (fun _ _ hh=>by
  obtain ⟨h1,h2⟩:=hh
  rcases h2 with ⟨h3,_⟩|⟨_,hb⟩
  ·exact absurd h3 hne
  ·exact ⟨h1,h.below hb⟩)
theorem gm (h:Rv w0 w g mb kv sb hb d t k rb m c root p rows) (ht:Tab w0) (hq:QTab w0) (hM:MaxL w0) (hk:k≤1000000) (hp:t.puts<200) (hcc:c≤90000) (s:ByteArray) (hs:s.size≤1000) (hv:vacE p (isP (bs s)) (segsB s)=0) (i:Nat) (hi:i<24) (K:List Int) (hkr:keyR t.held p root (segsB s).dropLast=(K,0)) (dr:List Int) (hdl:dr.length=32) (hdb:Bytes dr) (t':Slt) (ht':t'=putS t i (entN t i K dr)) :
  Calls Tryz.prog 14 #[.pointer (some ⟨rb,0,none⟩),.string s,.int .i64 (i:Int),.agg (u8s dr).toArray] w fun e w'=>e=.returned (.int .i64 0)∧∃d',Rv w0 w' g mb kv sb hb d' t' (k+1000) rb m (c+1) root ((segsB s,(i:Int))::p) rows :=
 create_v h ht hq hM hk hp hcc s hs (segsB s) rfl hv i hi K hkr dr hdl hdb t' ht'
theorem gG (h:Rv w0 w g mb kv sb hb d t k rb m c root p rows) (hM:MaxL w0) (s:ByteArray) (hs:s.size≤1000) (slot:Int) (dr:List Int) (e0:Int) (he0:vacE p (isP (bs s)) (segsB s)=e0) (h0:e0≠0) :
  Calls Tryz.prog 14 #[.pointer (some ⟨rb,0,none⟩),.string s,.int .i64 slot,.agg (u8s dr).toArray] w fun e w'=>e=.returned (.int .i64 e0)∧Rv w0 w' g mb kv sb hb d t k rb m c root p rows :=
 (create_no h hM s hs slot dr e0 he0.symm h0).mono (fun _ _ hh=>⟨hh.1,h.below hh.2⟩)
theorem paths_v (h:Rv w0 w g mb kv sb hb d t k rb m c root p rows) (hcc:c≤90000) (hlp:p.length≤100) :
  Calls Tryz.prog 11 #[.pointer (some ⟨rb,0,none⟩)] w fun e w'=>∃v L,e=.returned v∧w'.ownsRow w.heap.size 9 1 v L.length (strs (L.map txt))∧IsU p [] L∧Rv w0 w' g mb kv sb hb d t k rb m c root p rows∧Below w.heap.size w w' :=
 (paths_r h.rg hcc (fi 100 hlp)).mono (fun _ _ hh=>by
  obtain ⟨v,L,h1,h2,h3,h4⟩:=hh
  exact ⟨v,L,h1,h2,h3,h.below h4,h4⟩)
end
theorem erase_nr {w0 w:World} {g mb:Nat} {kv:Value} {sb hb:Nat} {d:Dk} {t:Slt} {k rb m c:Nat} {root:List Int} {p:Pls} {rows:List (Nat×List Value×TypeId)} (h:Rv w0 w g mb kv sb hb d t k rb m c root p rows) (hM:MaxL w0) (s:ByteArray) (hs:s.size≤1000) (e0:Int) (he0:takE p (isP (bs s)) (segsB s)=e0) (h0:e0≠0) :
  Calls Tryz.prog 15 #[.pointer (some ⟨rb,0,none⟩),.string s] w fun e w'=>e=.returned (.int .i64 e0)∧Rv w0 w' g mb kv sb hb d t k rb m c root p rows:=by
 have hm:=Mem.start w
 have HV:Hid (∀W,Below w.heap.size w W→Calls Tryz.prog 43 #[.pointer (some ⟨rb,0,none⟩),.string s] W fun e w'=>e=.returned (.tuple #[.agg (plv (okPl e0 (segsB s))).toArray,.int .i64 e0])∧Below W.heap.size W w'):=fun W hW=>by
  rw [←he0];exact taken_r (h.rg.below hW) s hs ((h.maxl hM).below hW)
 have hne:(e0==0)=false:=by simpa using h0
 obtain ⟨X,hX⟩:∃X,X=okPl e0 (segsB s):=⟨_,rfl⟩
 rw [←hX] at HV
 have HRV:Hid (Rv w0 w g mb kv sb hb d t k rb m c root p rows):=h
 clear h hM hs he0 hX h0
 go_enter Tryz.func15,Tryz.ntmps15
 go_wp2_with (first
  | (go_at_call 43;refine (HV.out _ hm.below).mono ?_;rintro e w' ⟨he,hb⟩;subst he;replace hm:=hm.call hb;clear hb)
  | ((with_reducible refine ae (some 5) (.alloc 76) ?_);refine ag _ aR hm ?_;clear hm;intro w1 g5 hm)
  | ((with_reducible refine ae none (.store 76 (.tmp 5) (.tmp 15)) ?_);refine ah 0 (plv X) hm rfl rfl rfl 3 ax rfl rfl (aB _) ?_;clear hm;intro w2 hm))
 go_ret
 exact ⟨rfl,HRV.out.below hm.below⟩
open Go Go.RowKit Go.Sort Go.Maps
theorem eC {P:Program} {a:Act} {w:World} {dst:Option Tmp} {typ:TypeId} {pos:String} {aft:Array Edge} {gd:Option (Nat×Bool)} {t:TypeId} {x y:Operand} {rt:TypeId} (e:TypeId) (n:Nat) (k:IntKind) (xs:List Int) (hx:a.eval x=.agg (xs.map (Value.int k)).toArray) (hy:a.eval y=.agg (xs.map (Value.int k)).toArray) (ht:P.underlying t=some (.array n e)) (he:P.underlying e=some (.int k)) (hs:(P.info? e).map (·.size)=some 1) (hm:P.eqGuardType P.depth t=false) (h1:xs.length=n) :
  (execOp a.eval {dst:=dst,op:=.binOp .eql t x y rt,type:=typ,pos:=pos,after:=aft,guard:=gd}).run P w=.ok (.value (.bool true)) w:=by
 rw [exec_eqa e n k xs xs hx hy ht he hs hm h1 h1,decide_eq_true rfl]
theorem iT {P:Program} {a:Act} {w:World} {dst:Option Tmp} {typ:TypeId} {pos:String} {aft:Array Edge} {gd:Option (Nat×Bool)} {t:TypeId} {x y:Operand} {rt:TypeId} (e:TypeId) (n:Nat) (k:IntKind) (xs:List Int) (hx:a.eval x=.agg (xs.map (Value.int k)).toArray) (hy:a.eval y=.agg (xs.map (Value.int k)).toArray) (ht:P.underlying t=some (.array n e)) (he:P.underlying e=some (.int k)) (hs:(P.info? e).map (·.size)=some 1) (hm:P.eqGuardType P.depth t=false) (h1:xs.length=n) :
  (execOp a.eval {dst:=dst,op:=.binOp .neq t x y rt,type:=typ,pos:=pos,after:=aft,guard:=gd}).run P w=.ok (.value (.bool false)) w:=by
 have hq:=run_neqa (P:=P) w t e n k ht he hs xs xs h1 h1
 unfold execOp
 simp only [hx,hy,Sem.run_bind,run_eqGuard_agg w .neq t x y _ _ hm,Sem.run_pure,Result.andThen_ok,hq]
 simp
theorem plsAB:PlsOk pAB:=(PlsOk.nil.cons (eK ⟨#[97]⟩ [kA] rfl) rfl 1).cons (eK ⟨#[97,47,98]⟩ [kA,kB] rfl) lk_AAB 2
theorem tak_a:takE pAB true [kA]=0:=by simp [takE,hasB,fS]
theorem tak_ab:takE pAB true [kA,kB]=0:=by simp [takE,hasB,gY]
theorem lk_q:lkp pAB [⟨#[113]⟩]=none:=by simp [lkp,pAB,kA]
theorem keyV_two {held:Nat→Option Ent} {a b:List Int} (h1:getV held 1 (keyB13 0)=(a,0)) (h2:getV held 2 a=(b,0)):keyV held pAB (keyB13 0) true [kA,kB]=(b,0):=by
 unfold keyV
 rw [if_neg (by simp),if_neg (by simp [hasB,gY])]
 exact keyR_two fS h1 gY h2
theorem keyV_one {held:Nat→Option Ent} {p:Pls} {a:List Int} (hl:lkp p [kA]=some 1) (h1:getV held 1 (keyB13 0)=(a,0)):keyV held p (keyB13 0) true [kA]=(a,0):=by
 unfold keyV
 rw [if_neg (by simp),if_neg (by simp [hasB,hl])]
 exact iS hl h1
theorem keyV_root (held:Nat→Option Ent) (p:Pls) (root:List Int) (ks:List ByteArray) (h:ks=[]):keyV held p root true ks=(root,0):=by
 subst h
 unfold keyV
 rw [if_neg (by simp),if_neg (by simp [hasB])]
 rfl
theorem keyV_no {held:Nat→Option Ent} {p:Pls} {root:List Int} {ks:List ByteArray} (hl:lkp p ks=none) (hne:ks≠[]):keyV held p root true ks=(zero32,100):=by
 unfold keyV
 rw [if_neg (by simp),if_pos (by simp [hasB,hl,hne])]
theorem keyV_gone {held:Nat→Option Ent} (h1:held 1=none):keyV held pAB (keyB13 0) true [kA,kB]=(zero32,120):=by
 unfold keyV
 rw [if_neg (by simp),if_neg (by simp [hasB,gY])]
 exact keyR_gone fS (getV_none (i:=1) (by omega) h1 _)
theorem iX {w:World} {B e K:Nat} {v:Value} {n:Nat} {l:List Value} (h:w.ownsRow B e K v n l):∃pp cap,v=.slice pp n cap:=by
 obtain ⟨_,h2⟩:=h
 rcases h2 with ⟨rfl,hn⟩|⟨g,cap,cur,rfl,_⟩
 ·exact ⟨none,0,by rw [hn]⟩
 ·exact ⟨_,cap,rfl⟩
section
variable {w0 w:World} {g mb:Nat} {kv:Value} {sb hb:Nat} {d:Dk} {t:Slt} {k rb m c:Nat} {rows:List (Nat×List Value×TypeId)} {root:List Int} {p:Pls}
theorem mk_a (h:Rv w0 w g mb kv sb hb d newS 1000 rb m c (keyB13 0) [] rows) (ht:Tab w0) (hq:QTab w0) (hM:MaxL w0) (hcc:c≤90000) (a:List Int) (hl:a.length=32) (hb9:Bytes a) :
  Calls Tryz.prog 14 #[.pointer (some ⟨rb,0,none⟩),.string ⟨#[97]⟩,.int .i64 1,.agg (u8s a).toArray] w fun e w'=>e=.returned (.int .i64 0)∧∃d',Rv w0 w' g mb kv sb hb d' (t1 a) 2000 rb m (c+1) (keyB13 0) pA rows :=
 gm h ht hq hM (by omega) (by decide) hcc ⟨#[97]⟩ (by decide) vac_a 1 (by omega) (keyB13 0) (f9 _ _ _) a hl hb9 (t1 a) rfl
theorem mk_ab {a:List Int} (h:Rv w0 w g mb kv sb hb d (t1 a) 2000 rb m c (keyB13 0) pA rows) (ht:Tab w0) (hq:QTab w0) (hM:MaxL w0) (hcc:c≤90000) (hal:a.length=32) (hab:Bytes a) (b:List Int) (hl:b.length=32) (hb9:Bytes b) :
  Calls Tryz.prog 14 #[.pointer (some ⟨rb,0,none⟩),.string ⟨#[97,47,98]⟩,.int .i64 2,.agg (u8s b).toArray] w fun e w'=>e=.returned (.int .i64 0)∧∃d',Rv w0 w' g mb kv sb hb d' (t2 a b) 3000 rb m (c+1) (keyB13 0) pAB rows :=
 gm h ht hq hM (by omega) (by show 0+1<200;omega) hcc ⟨#[97,47,98]⟩ (by decide) vac_ab 2 (by omega) a (iS lk_A (get_1 hal hab)) b hl hb9 (t2 a b) rfl
theorem era_a (h:Rv w0 w g mb kv sb hb d t k rb m c (keyB13 0) pAB rows) (hM:MaxL w0) (hcc:c≤90000) (hk:k≤3000) :
  Calls Tryz.prog 15 #[.pointer (some ⟨rb,0,none⟩),.string ⟨#[97]⟩] w fun e w'=>e=.returned (.int .i64 0)∧∃d' t' k',Rv w0 w' g mb kv sb hb d' t' k' rb m c (keyB13 0) [] rows∧t'.held 1=none∧k'≤6000 :=
 (erase_v2 h hM (by omega) hcc (fi 100 (by decide)) ⟨#[97]⟩ (by decide) [kA] rfl tak_a 1 (by rw [fS];rfl) (by decide)).mono (fun _ _ hh=>by
  obtain ⟨h1,L,d',k',hL,hr,hk'⟩:=hh
  have hd:delAll pAB L=[]:=del_all (fun x hx=>by
   simp only [pAB,List.mem_cons,List.not_mem_nil,or_false] at hx
   rcases hx with rfl|rfl
   ·exact (hL.mem _).2 ⟨eK ⟨#[97,47,98]⟩ [kA,kB] rfl,by rw [gY];rfl,rfl⟩
   ·exact (hL.mem _).2 ⟨eK ⟨#[97]⟩ [kA] rfl,by rw [fS];rfl,rfl⟩)
  rw [hd] at hr
  have hlen:L.length≤2:=hL.len
  exact ⟨h1,d',_,k',hr,i6 L (kw (j:=1) rfl (by omega)),by omega⟩)
theorem att_a (h:Rv w0 w g mb kv sb hb d t k rb m c (keyB13 0) [] rows) (hM:MaxL w0) (hcc:c≤90000) :
  Calls Tryz.prog 16 #[.pointer (some ⟨rb,0,none⟩),.string ⟨#[97]⟩,.int .i64 1] w fun e w'=>e=.returned (.int .i64 0)∧Rv w0 w' g mb kv sb hb d t k rb m (c+1) (keyB13 0) pA rows :=
 jc h hM hcc ⟨#[97]⟩ (by decide) 1 vac_a
theorem att_ab (h:Rv w0 w g mb kv sb hb d t k rb m c (keyB13 0) pA rows) (hM:MaxL w0) (hcc:c≤90000) :
  Calls Tryz.prog 16 #[.pointer (some ⟨rb,0,none⟩),.string ⟨#[97,47,98]⟩,.int .i64 2] w fun e w'=>e=.returned (.int .i64 0)∧Rv w0 w' g mb kv sb hb d t k rb m (c+1) (keyB13 0) pAB rows :=
 jc h hM hcc ⟨#[97,47,98]⟩ (by decide) 2 vac_ab
theorem key_ab2 {a b:List Int} (h:Rv w0 w g mb kv sb hb d (t2 a b) k rb m c (keyB13 0) pAB rows) (ht:Tab w0) (hq:QTab w0) (hM:MaxL w0) (hal:a.length=32) (hab:Bytes a) (hbl:b.length=32) (hbb:Bytes b) :
  Calls Tryz.prog 12 #[.pointer (some ⟨rb,0,none⟩),.string ⟨#[97,47,98]⟩] w fun e w'=>e=.returned (.tuple #[.agg (u8s b).toArray,.int .i64 0])∧Rv w0 w' g mb kv sb hb d (t2 a b) k rb m c (keyB13 0) pAB rows :=
 key_v h ht hq hM ⟨#[97,47,98]⟩ (by decide) b 0 (keyV_two (get_2a hal hab) (get_2b hbl hbb))
theorem key_root (h:Rv w0 w g mb kv sb hb d t k rb m c root p rows) (ht:Tab w0) (hq:QTab w0) (hM:MaxL w0) :
  Calls Tryz.prog 12 #[.pointer (some ⟨rb,0,none⟩),.string ⟨#[]⟩] w fun e w'=>e=.returned (.tuple #[.agg (u8s root).toArray,.int .i64 0])∧Rv w0 w' g mb kv sb hb d t k rb m c root p rows :=
 key_v h ht hq hM ⟨#[]⟩ (by decide) root 0 (keyV_root _ _ _ _ iN)
theorem key_gone (h:Rv w0 w g mb kv sb hb d t k rb m c (keyB13 0) pAB rows) (ht:Tab w0) (hq:QTab w0) (hM:MaxL w0) (h1:t.held 1=none) :
  Calls Tryz.prog 12 #[.pointer (some ⟨rb,0,none⟩),.string ⟨#[97,47,98]⟩] w fun e w'=>e=.returned (.tuple #[.agg (u8s zero32).toArray,.int .i64 120])∧Rv w0 w' g mb kv sb hb d t k rb m c (keyB13 0) pAB rows :=
 key_v h ht hq hM ⟨#[97,47,98]⟩ (by decide) zero32 120 (keyV_gone h1)
theorem key_q (h:Rv w0 w g mb kv sb hb d t k rb m c (keyB13 0) pAB rows) (ht:Tab w0) (hq:QTab w0) (hM:MaxL w0) :
  Calls Tryz.prog 12 #[.pointer (some ⟨rb,0,none⟩),.string ⟨#[113]⟩] w fun e w'=>e=.returned (.tuple #[.agg (u8s zero32).toArray,.int .i64 100])∧Rv w0 w' g mb kv sb hb d t k rb m c (keyB13 0) pAB rows :=
 key_v h ht hq hM ⟨#[113]⟩ (by decide) zero32 100 (keyV_no lk_q (fun h=>by cases h))
theorem mnt_a {a b:List Int} (h:Rv w0 w g mb kv sb hb d (t2 a b) k rb m c (keyB13 0) pAB rows) (ht:Tab w0) (hq:QTab w0) (hM:MaxL w0) (hal:a.length=32) (hab:Bytes a) (M:List Int) (hMn:M=mntOf a ⟨#[107,118]⟩) :
  Calls Tryz.prog 22 #[.pointer (some ⟨rb,0,none⟩),.string ⟨#[97]⟩,.string ⟨#[107,118]⟩] w fun e w'=>e=.returned (.tuple #[.agg (u8s M).toArray,.int .i64 0])∧Rv w0 w' g mb kv sb hb d (t2 a b) k rb m c (keyB13 0) pAB rows :=
 mount_v h ht hq hM ⟨#[97]⟩ (by decide) ⟨#[107,118]⟩ (by decide) a 0 (keyV_one fS (get_2a hal hab)) hal hab M (by rw [if_pos rfl];exact hMn)
theorem paths_2 (h:Rv w0 w g mb kv sb hb d t k rb m c (keyB13 0) pAB rows) (hcc:c≤90000) :
  Calls Tryz.prog 11 #[.pointer (some ⟨rb,0,none⟩)] w fun e w'=>∃pp cap,e=.returned (.slice pp 2 cap)∧Rv w0 w' g mb kv sb hb d t k rb m c (keyB13 0) pAB rows :=
 (paths_v h hcc (by decide)).mono (fun _ _ hh=>by
  obtain ⟨v,L,h1,h2,h3,h4,_⟩:=hh
  have hl:L.length=2:=isU_all plsAB h3
  obtain ⟨pp,cap,hv⟩:=iX h2
  rw [hl] at hv
  exact ⟨pp,cap,by rw [h1,hv],h4⟩)
end
end Go.Proofs.YtlpnafdkhoimhaaGreatDoor
