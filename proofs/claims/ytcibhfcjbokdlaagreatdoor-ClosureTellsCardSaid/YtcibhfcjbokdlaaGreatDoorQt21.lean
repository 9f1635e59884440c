import Derived.Test.YtcibhfcjbokdlaaGreatDoorQt18
import Derived.Test.YtcibhfcjbokdlaaGreatDoorQt19
import Derived.Test.YtcibhfcjbokdlaaGreatDoorQt20
set_option maxRecDepth 100000
set_option maxHeartbeats 4000000
namespace Go.Proofs.YtcibhfcjbokdlaaGreatDoor
open Go Go.RowKit
theorem each_b5 {F:Nat→Prop} (t:Tm) (s:Value) (w:World) (hs:SlT F w s t.l) (hb:okF t.k t.n t.l.length=false) (hk9:t.k=5) :
  Calls Tryz.prog 39 #[.agg (tcs t s).toArray] w fun e w'=>e=.returned (.bool (okT t))∧Below w.heap.size w w':=by
 have HR:Hid (∀_:Unit,okT t=false):=fun _=>et hb
 obtain ⟨p,c,rfl,_⟩:=hs.len
 obtain ⟨m,hml⟩:∃m,m=t.l.length:=⟨_,rfl⟩
 obtain ⟨k,hkk⟩:∃k,k=t.k:=⟨_,rfl⟩
 obtain ⟨n,hnn⟩:∃n,n=t.n:=⟨_,rfl⟩
 rw [←hml,←hkk,←hnn] at hb
 rw [←hkk] at hk9
 rw [←hml]
 clear hs hml
 have hm:=Mem.start w
 go_enter Tryz.func39,Tryz.ntmps39
 go_wp2_with (first
  | ((with_reducible refine af (some 1) (.box 24 (.tmp 0)) ?_);go_must (refine aw (tcs t (.slice p m c)) rfl hm ?_);clear hm;intro w1 g1 hm)
  | ((with_reducible refine af (some 3) (.alloc 78) ?_);go_must (refine ap _ cX hm ?_);clear hm;intro w2 g3 hm)
  | ((with_reducible refine af none (.store 78 (.tmp 3) (.tmp 5)) ?_);go_must (refine au 0 kdA hm rfl rfl rfl 6 sz_a6 rfl rfl cT ?_);clear hm;intro w4 hm))
 by_cases hmk:m=1
 ·subst hmk
  by_cases hn1:n<0
  ·clear hb
   have HC0:Hid (∀W,Mem w [] W [(g3,kdA,78),(g1,tcs t (.slice p 1 c),24)]→W.cell? ⟨g1,0,none⟩=some (.int .i64 5)):=fun W hW=>by rw [←hk9,hkk];exact ((hW.get 1 rfl).cell 0).trans rfl
   have HC1:Hid (∀W,Mem w [] W [(g3,kdA,78),(g1,tcs t (.slice p 1 c),24)]→W.cell? ⟨g1,1,none⟩=some (.int .i64 n)):=fun W hW=>by rw [hnn];exact ((hW.get 1 rfl).cell 1).trans rfl
   have HC2:Hid (∀W,Mem w [] W [(g3,kdA,78),(g1,tcs t (.slice p 1 c),24)]→W.cell? ⟨g1,2,none⟩=some (.slice p 1 c)):=fun W hW=>((hW.get 1 rfl).cell 2).trans rfl
   have HD:Hid (∀W,Mem w [] W [(g3,kdA,78),(g1,tcs t (.slice p 1 c),24)]→W.cell? ⟨g3,5,none⟩=some (.int .i64 1)):=fun W hW=>((hW.get 0 rfl).cell 5).trans rfl
   have hn0:decide (n<0)=true:=decide_eq_true hn1
   clear hkk hnn hk9
   refine aq ?_
   refine ao (T:=fun W=>Mem w [] W [(g3,kdA,78),(g1,tcs t (.slice p 1 c),24)]) (by kernel_rfl) hm ?_
   intro wc hbw hmw
   replace hm:Mem w [] wc [(g3,kdA,78),(g1,tcs t (.slice p 1 c),24)]:=hmw
   clear hbw hmw
   refine aT 0 (v:=.pointer (some ⟨g1,0,none⟩)) rfl (by kernel_rfl) rfl (fun W _=>by go_simp) hm ?_
   go_simp
   refine aT 1 (v:=.int .i64 5) rfl (by kernel_rfl) rfl (fun W hW=>ad _ (HC0.out W hW) rfl ag) hm ?_
   go_simp
   refine aT 2 (v:=.bool false) rfl (by kernel_rfl) rfl (fun W _=>by go_simp) hm ?_
   go_simp
   refine aT 3 (v:=.bool false) rfl (by kernel_rfl) rfl (fun W _=>by go_simp) hm ?_
   go_simp
   refine aG 4 (v:=.pointer (some ⟨g1,0,none⟩)) rfl (by kernel_rfl) rfl (fun W _=>by go_simp) hm ?_
   go_simp
   refine aG 5 (v:=.int .i64 5) rfl (by kernel_rfl) rfl (fun W hW=>ad _ (HC0.out W hW) rfl ag) hm ?_
   go_simp
   refine aG 6 (v:=.bool false) rfl (by kernel_rfl) rfl (fun W _=>by go_simp) hm ?_
   go_simp
   refine aT 7 (v:=.bool false) rfl (by kernel_rfl) rfl (fun W _=>by go_simp) hm ?_
   go_simp
   refine aT 8 (v:=.bool false) rfl (by kernel_rfl) rfl (fun W _=>by go_simp) hm ?_
   go_simp
   refine aG 9 (v:=.pointer (some ⟨g1,2,none⟩)) rfl (by kernel_rfl) rfl (fun W _=>by go_simp) hm ?_
   go_simp
   refine aG 10 (v:=.slice p 1 c) rfl (by kernel_rfl) rfl (fun W hW=>ad _ (HC2.out W hW) rfl ah) hm ?_
   go_simp
   refine aG 11 (v:=.int .i64 (1:Int)) rfl (by kernel_rfl) rfl (fun W _=>by go_simp) hm ?_
   go_simp
   refine aG 12 (v:=.pointer (some ⟨g1,0,none⟩)) rfl (by kernel_rfl) rfl (fun W _=>by go_simp) hm ?_
   go_simp
   refine aG 13 (v:=.int .i64 5) rfl (by kernel_rfl) rfl (fun W hW=>ad _ (HC0.out W hW) rfl ag) hm ?_
   go_simp
   refine aG 14 (v:=.pointer (some ⟨g3,5,none⟩)) rfl (by kernel_rfl) rfl (fun W _=>by go_simp) hm ?_
   go_simp
   refine aG 15 (v:=.int .i64 1) rfl (by kernel_rfl) rfl (fun W hW=>ad _ (HD.out W hW) rfl ag) hm ?_
   go_simp
   refine aG 16 (v:=.bool false) rfl (by kernel_rfl) rfl (fun W _=>by go_simp) hm ?_
   go_simp
   refine aT 17 (v:=.bool false) rfl (by kernel_rfl) rfl (fun W _=>by go_simp) hm ?_
   go_simp
   refine aT 18 (v:=.bool false) rfl (by kernel_rfl) rfl (fun W _=>by go_simp) hm ?_
   go_simp
   refine aG 19 (v:=.pointer (some ⟨g1,1,none⟩)) rfl (by kernel_rfl) rfl (fun W _=>by go_simp) hm ?_
   go_simp
   refine aG 20 (v:=.int .i64 n) rfl (by kernel_rfl) rfl (fun W hW=>ad _ (HC1.out W hW) rfl ag) hm ?_
   go_simp
   refine aG 21 (v:=.bool true) rfl (by kernel_rfl) rfl (fun W _=>by go_simp) hm ?_
   go_simp
   refine aT 22 (v:=.bool true) rfl (by kernel_rfl) rfl (fun W _=>by go_simp) hm ?_
   go_simp
   refine aT 23 (v:=.bool true) rfl (by kernel_rfl) rfl (fun W _=>by go_simp) hm ?_
   go_simp
   refine ae 24 rfl (by kernel_rfl) (by kernel_rfl) (by kernel_rfl) rfl hm ?_
   go_simp
   refine ae 25 rfl (by kernel_rfl) (by kernel_rfl) (by kernel_rfl) rfl hm ?_
   go_simp
   refine ae 26 rfl (by kernel_rfl) (by kernel_rfl) (by kernel_rfl) rfl hm ?_
   go_simp
   refine aT 27 (v:=.bool true) rfl (by kernel_rfl) rfl (fun W _=>by go_simp) hm ?_
   go_simp
   refine aT 28 (v:=.bool true) rfl (by kernel_rfl) rfl (fun W _=>by go_simp) hm ?_
   go_simp
   refine ae 29 rfl (by kernel_rfl) (by kernel_rfl) (by kernel_rfl) rfl hm ?_
   go_simp
   refine ae 30 rfl (by kernel_rfl) (by kernel_rfl) (by kernel_rfl) rfl hm ?_
   go_simp
   refine ae 31 rfl (by kernel_rfl) (by kernel_rfl) (by kernel_rfl) rfl hm ?_
   go_simp
   refine ae 32 rfl (by kernel_rfl) (by kernel_rfl) (by kernel_rfl) rfl hm ?_
   go_simp
   refine ae 33 rfl (by kernel_rfl) (by kernel_rfl) (by kernel_rfl) rfl hm ?_
   go_simp
   refine ae 34 rfl (by kernel_rfl) (by kernel_rfl) (by kernel_rfl) rfl hm ?_
   go_simp
   refine ae 35 rfl (by kernel_rfl) (by kernel_rfl) (by kernel_rfl) rfl hm ?_
   go_simp
   refine ae 36 rfl (by kernel_rfl) (by kernel_rfl) (by kernel_rfl) rfl hm ?_
   go_simp
   refine ae 37 rfl (by kernel_rfl) (by kernel_rfl) (by kernel_rfl) rfl hm ?_
   go_simp
   refine ae 38 rfl (by kernel_rfl) (by kernel_rfl) (by kernel_rfl) rfl hm ?_
   go_simp
   refine ae 39 rfl (by kernel_rfl) (by kernel_rfl) (by kernel_rfl) rfl hm ?_
   go_simp
   refine ae 40 rfl (by kernel_rfl) (by kernel_rfl) (by kernel_rfl) rfl hm ?_
   go_simp
   refine ae 41 rfl (by kernel_rfl) (by kernel_rfl) (by kernel_rfl) rfl hm ?_
   go_simp
   refine aT 42 (v:=.bool true) rfl (by kernel_rfl) rfl (fun W _=>by go_simp) hm ?_
   go_simp
   refine wpAnyH_done (by kernel_rfl) ?_ _
   simp only [endsIn]
   go_wp2_with fail
   go_ret
   exact ⟨by rw [HR.out ()];rfl,hm.below⟩
  by_cases hn2:99<n
  ·clear hb
   have HC0:Hid (∀W,Mem w [] W [(g3,kdA,78),(g1,tcs t (.slice p 1 c),24)]→W.cell? ⟨g1,0,none⟩=some (.int .i64 5)):=fun W hW=>by rw [←hk9,hkk];exact ((hW.get 1 rfl).cell 0).trans rfl
   have HC1:Hid (∀W,Mem w [] W [(g3,kdA,78),(g1,tcs t (.slice p 1 c),24)]→W.cell? ⟨g1,1,none⟩=some (.int .i64 n)):=fun W hW=>by rw [hnn];exact ((hW.get 1 rfl).cell 1).trans rfl
   have HC2:Hid (∀W,Mem w [] W [(g3,kdA,78),(g1,tcs t (.slice p 1 c),24)]→W.cell? ⟨g1,2,none⟩=some (.slice p 1 c)):=fun W hW=>((hW.get 1 rfl).cell 2).trans rfl
   have HD:Hid (∀W,Mem w [] W [(g3,kdA,78),(g1,tcs t (.slice p 1 c),24)]→W.cell? ⟨g3,5,none⟩=some (.int .i64 1)):=fun W hW=>((hW.get 0 rfl).cell 5).trans rfl
   have hn0:decide (n<0)=false:=decide_eq_false hn1
   have hn9:decide (99<n)=true:=decide_eq_true hn2
   clear hkk hnn hk9
   refine aq ?_
   refine ao (T:=fun W=>Mem w [] W [(g3,kdA,78),(g1,tcs t (.slice p 1 c),24)]) (by kernel_rfl) hm ?_
   intro wc hbw hmw
   replace hm:Mem w [] wc [(g3,kdA,78),(g1,tcs t (.slice p 1 c),24)]:=hmw
   clear hbw hmw
   refine aT 0 (v:=.pointer (some ⟨g1,0,none⟩)) rfl (by kernel_rfl) rfl (fun W _=>by go_simp) hm ?_
   go_simp
   refine aT 1 (v:=.int .i64 5) rfl (by kernel_rfl) rfl (fun W hW=>ad _ (HC0.out W hW) rfl ag) hm ?_
   go_simp
   refine aT 2 (v:=.bool false) rfl (by kernel_rfl) rfl (fun W _=>by go_simp) hm ?_
   go_simp
   refine aT 3 (v:=.bool false) rfl (by kernel_rfl) rfl (fun W _=>by go_simp) hm ?_
   go_simp
   refine aG 4 (v:=.pointer (some ⟨g1,0,none⟩)) rfl (by kernel_rfl) rfl (fun W _=>by go_simp) hm ?_
   go_simp
   refine aG 5 (v:=.int .i64 5) rfl (by kernel_rfl) rfl (fun W hW=>ad _ (HC0.out W hW) rfl ag) hm ?_
   go_simp
   refine aG 6 (v:=.bool false) rfl (by kernel_rfl) rfl (fun W _=>by go_simp) hm ?_
   go_simp
   refine aT 7 (v:=.bool false) rfl (by kernel_rfl) rfl (fun W _=>by go_simp) hm ?_
   go_simp
   refine aT 8 (v:=.bool false) rfl (by kernel_rfl) rfl (fun W _=>by go_simp) hm ?_
   go_simp
   refine aG 9 (v:=.pointer (some ⟨g1,2,none⟩)) rfl (by kernel_rfl) rfl (fun W _=>by go_simp) hm ?_
   go_simp
   refine aG 10 (v:=.slice p 1 c) rfl (by kernel_rfl) rfl (fun W hW=>ad _ (HC2.out W hW) rfl ah) hm ?_
   go_simp
   refine aG 11 (v:=.int .i64 (1:Int)) rfl (by kernel_rfl) rfl (fun W _=>by go_simp) hm ?_
   go_simp
   refine aG 12 (v:=.pointer (some ⟨g1,0,none⟩)) rfl (by kernel_rfl) rfl (fun W _=>by go_simp) hm ?_
   go_simp
   refine aG 13 (v:=.int .i64 5) rfl (by kernel_rfl) rfl (fun W hW=>ad _ (HC0.out W hW) rfl ag) hm ?_
   go_simp
   refine aG 14 (v:=.pointer (some ⟨g3,5,none⟩)) rfl (by kernel_rfl) rfl (fun W _=>by go_simp) hm ?_
   go_simp
   refine aG 15 (v:=.int .i64 1) rfl (by kernel_rfl) rfl (fun W hW=>ad _ (HD.out W hW) rfl ag) hm ?_
   go_simp
   refine aG 16 (v:=.bool false) rfl (by kernel_rfl) rfl (fun W _=>by go_simp) hm ?_
   go_simp
   refine aT 17 (v:=.bool false) rfl (by kernel_rfl) rfl (fun W _=>by go_simp) hm ?_
   go_simp
   refine aT 18 (v:=.bool false) rfl (by kernel_rfl) rfl (fun W _=>by go_simp) hm ?_
   go_simp
   refine aG 19 (v:=.pointer (some ⟨g1,1,none⟩)) rfl (by kernel_rfl) rfl (fun W _=>by go_simp) hm ?_
   go_simp
   refine aG 20 (v:=.int .i64 n) rfl (by kernel_rfl) rfl (fun W hW=>ad _ (HC1.out W hW) rfl ag) hm ?_
   go_simp
   refine aG 21 (v:=.bool false) rfl (by kernel_rfl) rfl (fun W _=>by go_simp) hm ?_
   go_simp
   refine aT 22 (v:=.bool false) rfl (by kernel_rfl) rfl (fun W _=>by go_simp) hm ?_
   go_simp
   refine aT 23 (v:=.bool false) rfl (by kernel_rfl) rfl (fun W _=>by go_simp) hm ?_
   go_simp
   refine aG 24 (v:=.pointer (some ⟨g1,1,none⟩)) rfl (by kernel_rfl) rfl (fun W _=>by go_simp) hm ?_
   go_simp
   refine aG 25 (v:=.int .i64 n) rfl (by kernel_rfl) rfl (fun W hW=>ad _ (HC1.out W hW) rfl ag) hm ?_
   go_simp
   refine aG 26 (v:=.bool true) rfl (by kernel_rfl) rfl (fun W _=>by go_simp) hm ?_
   go_simp
   refine aT 27 (v:=.bool true) rfl (by kernel_rfl) rfl (fun W _=>by go_simp) hm ?_
   go_simp
   refine aT 28 (v:=.bool true) rfl (by kernel_rfl) rfl (fun W _=>by go_simp) hm ?_
   go_simp
   refine ae 29 rfl (by kernel_rfl) (by kernel_rfl) (by kernel_rfl) rfl hm ?_
   go_simp
   refine ae 30 rfl (by kernel_rfl) (by kernel_rfl) (by kernel_rfl) rfl hm ?_
   go_simp
   refine ae 31 rfl (by kernel_rfl) (by kernel_rfl) (by kernel_rfl) rfl hm ?_
   go_simp
   refine ae 32 rfl (by kernel_rfl) (by kernel_rfl) (by kernel_rfl) rfl hm ?_
   go_simp
   refine ae 33 rfl (by kernel_rfl) (by kernel_rfl) (by kernel_rfl) rfl hm ?_
   go_simp
   refine ae 34 rfl (by kernel_rfl) (by kernel_rfl) (by kernel_rfl) rfl hm ?_
   go_simp
   refine ae 35 rfl (by kernel_rfl) (by kernel_rfl) (by kernel_rfl) rfl hm ?_
   go_simp
   refine ae 36 rfl (by kernel_rfl) (by kernel_rfl) (by kernel_rfl) rfl hm ?_
   go_simp
   refine ae 37 rfl (by kernel_rfl) (by kernel_rfl) (by kernel_rfl) rfl hm ?_
   go_simp
   refine ae 38 rfl (by kernel_rfl) (by kernel_rfl) (by kernel_rfl) rfl hm ?_
   go_simp
   refine ae 39 rfl (by kernel_rfl) (by kernel_rfl) (by kernel_rfl) rfl hm ?_
   go_simp
   refine ae 40 rfl (by kernel_rfl) (by kernel_rfl) (by kernel_rfl) rfl hm ?_
   go_simp
   refine ae 41 rfl (by kernel_rfl) (by kernel_rfl) (by kernel_rfl) rfl hm ?_
   go_simp
   refine aT 42 (v:=.bool true) rfl (by kernel_rfl) rfl (fun W _=>by go_simp) hm ?_
   go_simp
   refine wpAnyH_done (by kernel_rfl) ?_ _
   simp only [endsIn]
   go_wp2_with fail
   go_ret
   exact ⟨by rw [HR.out ()];rfl,hm.below⟩
  exfalso
  have:okF k n 1=true:=by rw [hk9];simp [okF,nb,kn];omega
  rw [this] at hb
  cases hb
 ·have hmi:¬((m:Int)=1):=by omega
  have hmb:((m:Int)==1)=false:=beq_eq_false_iff_ne.2 hmi
  clear hb
  have HC0:Hid (∀W,Mem w [] W [(g3,kdA,78),(g1,tcs t (.slice p m c),24)]→W.cell? ⟨g1,0,none⟩=some (.int .i64 5)):=fun W hW=>by rw [←hk9,hkk];exact ((hW.get 1 rfl).cell 0).trans rfl
  have HC1:Hid (∀W,Mem w [] W [(g3,kdA,78),(g1,tcs t (.slice p m c),24)]→W.cell? ⟨g1,1,none⟩=some (.int .i64 n)):=fun W hW=>by rw [hnn];exact ((hW.get 1 rfl).cell 1).trans rfl
  have HC2:Hid (∀W,Mem w [] W [(g3,kdA,78),(g1,tcs t (.slice p m c),24)]→W.cell? ⟨g1,2,none⟩=some (.slice p m c)):=fun W hW=>((hW.get 1 rfl).cell 2).trans rfl
  have HD:Hid (∀W,Mem w [] W [(g3,kdA,78),(g1,tcs t (.slice p m c),24)]→W.cell? ⟨g3,5,none⟩=some (.int .i64 1)):=fun W hW=>((hW.get 0 rfl).cell 5).trans rfl
  clear hkk hnn hk9
  refine aq ?_
  refine ao (T:=fun W=>Mem w [] W [(g3,kdA,78),(g1,tcs t (.slice p m c),24)]) (by kernel_rfl) hm ?_
  intro wc hbw hmw
  replace hm:Mem w [] wc [(g3,kdA,78),(g1,tcs t (.slice p m c),24)]:=hmw
  clear hbw hmw
  refine aT 0 (v:=.pointer (some ⟨g1,0,none⟩)) rfl (by kernel_rfl) rfl (fun W _=>by go_simp) hm ?_
  go_simp
  refine aT 1 (v:=.int .i64 5) rfl (by kernel_rfl) rfl (fun W hW=>ad _ (HC0.out W hW) rfl ag) hm ?_
  go_simp
  refine aT 2 (v:=.bool false) rfl (by kernel_rfl) rfl (fun W _=>by go_simp) hm ?_
  go_simp
  refine aT 3 (v:=.bool false) rfl (by kernel_rfl) rfl (fun W _=>by go_simp) hm ?_
  go_simp
  refine aG 4 (v:=.pointer (some ⟨g1,0,none⟩)) rfl (by kernel_rfl) rfl (fun W _=>by go_simp) hm ?_
  go_simp
  refine aG 5 (v:=.int .i64 5) rfl (by kernel_rfl) rfl (fun W hW=>ad _ (HC0.out W hW) rfl ag) hm ?_
  go_simp
  refine aG 6 (v:=.bool false) rfl (by kernel_rfl) rfl (fun W _=>by go_simp) hm ?_
  go_simp
  refine aT 7 (v:=.bool false) rfl (by kernel_rfl) rfl (fun W _=>by go_simp) hm ?_
  go_simp
  refine aT 8 (v:=.bool false) rfl (by kernel_rfl) rfl (fun W _=>by go_simp) hm ?_
  go_simp
  refine aG 9 (v:=.pointer (some ⟨g1,2,none⟩)) rfl (by kernel_rfl) rfl (fun W _=>by go_simp) hm ?_
  go_simp
  refine aG 10 (v:=.slice p m c) rfl (by kernel_rfl) rfl (fun W hW=>ad _ (HC2.out W hW) rfl ah) hm ?_
  go_simp
  refine aG 11 (v:=.int .i64 (m:Int)) rfl (by kernel_rfl) rfl (fun W _=>by go_simp) hm ?_
  go_simp
  refine aG 12 (v:=.pointer (some ⟨g1,0,none⟩)) rfl (by kernel_rfl) rfl (fun W _=>by go_simp) hm ?_
  go_simp
  refine aG 13 (v:=.int .i64 5) rfl (by kernel_rfl) rfl (fun W hW=>ad _ (HC0.out W hW) rfl ag) hm ?_
  go_simp
  refine aG 14 (v:=.pointer (some ⟨g3,5,none⟩)) rfl (by kernel_rfl) rfl (fun W _=>by go_simp) hm ?_
  go_simp
  refine aG 15 (v:=.int .i64 1) rfl (by kernel_rfl) rfl (fun W hW=>ad _ (HD.out W hW) rfl ag) hm ?_
  go_simp
  refine aG 16 (v:=.bool true) rfl (by kernel_rfl) rfl (fun W _=>by go_simp) hm ?_
  go_simp
  refine aT 17 (v:=.bool true) rfl (by kernel_rfl) rfl (fun W _=>by go_simp) hm ?_
  go_simp
  refine aT 18 (v:=.bool true) rfl (by kernel_rfl) rfl (fun W _=>by go_simp) hm ?_
  go_simp
  refine ae 19 rfl (by kernel_rfl) (by kernel_rfl) (by kernel_rfl) rfl hm ?_
  go_simp
  refine ae 20 rfl (by kernel_rfl) (by kernel_rfl) (by kernel_rfl) rfl hm ?_
  go_simp
  refine ae 21 rfl (by kernel_rfl) (by kernel_rfl) (by kernel_rfl) rfl hm ?_
  go_simp
  refine aT 22 (v:=.bool true) rfl (by kernel_rfl) rfl (fun W _=>by go_simp) hm ?_
  go_simp
  refine aT 23 (v:=.bool true) rfl (by kernel_rfl) rfl (fun W _=>by go_simp) hm ?_
  go_simp
  refine ae 24 rfl (by kernel_rfl) (by kernel_rfl) (by kernel_rfl) rfl hm ?_
  go_simp
  refine ae 25 rfl (by kernel_rfl) (by kernel_rfl) (by kernel_rfl) rfl hm ?_
  go_simp
  refine ae 26 rfl (by kernel_rfl) (by kernel_rfl) (by kernel_rfl) rfl hm ?_
  go_simp
  refine aT 27 (v:=.bool true) rfl (by kernel_rfl) rfl (fun W _=>by go_simp) hm ?_
  go_simp
  refine aT 28 (v:=.bool true) rfl (by kernel_rfl) rfl (fun W _=>by go_simp) hm ?_
  go_simp
  refine ae 29 rfl (by kernel_rfl) (by kernel_rfl) (by kernel_rfl) rfl hm ?_
  go_simp
  refine ae 30 rfl (by kernel_rfl) (by kernel_rfl) (by kernel_rfl) rfl hm ?_
  go_simp
  refine ae 31 rfl (by kernel_rfl) (by kernel_rfl) (by kernel_rfl) rfl hm ?_
  go_simp
  refine ae 32 rfl (by kernel_rfl) (by kernel_rfl) (by kernel_rfl) rfl hm ?_
  go_simp
  refine ae 33 rfl (by kernel_rfl) (by kernel_rfl) (by kernel_rfl) rfl hm ?_
  go_simp
  refine ae 34 rfl (by kernel_rfl) (by kernel_rfl) (by kernel_rfl) rfl hm ?_
  go_simp
  refine ae 35 rfl (by kernel_rfl) (by kernel_rfl) (by kernel_rfl) rfl hm ?_
  go_simp
  refine ae 36 rfl (by kernel_rfl) (by kernel_rfl) (by kernel_rfl) rfl hm ?_
  go_simp
  refine ae 37 rfl (by kernel_rfl) (by kernel_rfl) (by kernel_rfl) rfl hm ?_
  go_simp
  refine ae 38 rfl (by kernel_rfl) (by kernel_rfl) (by kernel_rfl) rfl hm ?_
  go_simp
  refine ae 39 rfl (by kernel_rfl) (by kernel_rfl) (by kernel_rfl) rfl hm ?_
  go_simp
  refine ae 40 rfl (by kernel_rfl) (by kernel_rfl) (by kernel_rfl) rfl hm ?_
  go_simp
  refine ae 41 rfl (by kernel_rfl) (by kernel_rfl) (by kernel_rfl) rfl hm ?_
  go_simp
  refine aT 42 (v:=.bool true) rfl (by kernel_rfl) rfl (fun W _=>by go_simp) hm ?_
  go_simp
  refine wpAnyH_done (by kernel_rfl) ?_ _
  simp only [endsIn]
  go_wp2_with fail
  go_ret
  exact ⟨by rw [HR.out ()];rfl,hm.below⟩
open Go Go.RowKit
theorem each_bad {F:Nat→Prop} (t:Tm) (s:Value) (w:World) (hs:SlT F w s t.l) (hb:okF t.k t.n t.l.length=false) :
  Calls Tryz.prog 39 #[.agg (tcs t s).toArray] w fun e w'=>e=.returned (.bool (okT t))∧Below w.heap.size w w':=by
 by_cases hk:1≤t.k∧t.k≤5
 ·rcases (show t.k=1∨t.k=2∨t.k=3∨t.k=4∨t.k=5 by omega) with h|h|h|h|h
  ·exact each_b1 t s w hs hb h
  ·exact each_b2 t s w hs hb h
  ·exact each_b3 t s w hs hb h
  ·exact each_b4 t s w hs hb h
  ·exact each_b5 t s w hs hb h
 ·exact each_out t s w hs hb hk
theorem each_any {F:Nat→Prop} (t:Tm):∀(s:Value) (w:World),SlT F w s t.l →
  Calls Tryz.prog 39 #[.agg (tcs t s).toArray] w fun e w'=>e=.returned (.bool (okT t))∧Below w.heap.size w w':=by
 induction t using Tm.ind with
 | h t ih =>
 intro s w hs
 cases hok:okF t.k t.n t.l.length with
 | false=>exact each_bad t s w hs hok
 | true =>
 have HIH:Hid _:=ih
 obtain ⟨p,c,rfl,_⟩:=hs.len
 obtain ⟨m,hml⟩:∃m,m=t.l.length:=⟨_,rfl⟩
 obtain ⟨k,hkk⟩:∃k,k=t.k:=⟨_,rfl⟩
 obtain ⟨n,hnn⟩:∃n,n=t.n:=⟨_,rfl⟩
 have HR:Hid (∀_:Unit,okT t=t.l.all okT):=fun _=>okT_of hok
 have HM:Hid (∀_:Unit,m=t.l.length):=fun _=>hml
 have HS:Hid (SlT F w (.slice p m c) t.l):=by rw [hml];exact hs
 rw [←hml,←hkk,←hnn] at hok
 rw [←hml]
 have hk15:=okF_k hok
 have hmk:=bg hok
 have hn99:=okF_n hok
 have hn00:=okF_n0 hok
 clear hs hml ih hok
 have hm:=Mem.start w
 go_enter Tryz.func39,Tryz.ntmps39
 go_wp2_with (first
  | ((with_reducible refine af (some 1) (.box 24 (.tmp 0)) ?_);go_must (refine aw (tcs t (.slice p m c)) rfl hm ?_);clear hm;intro w1 g1 hm)
  | ((with_reducible refine af (some 3) (.alloc 78) ?_);go_must (refine ap _ cX hm ?_);clear hm;intro w2 g3 hm)
  | ((with_reducible refine af none (.store 78 (.tmp 3) (.tmp 5)) ?_);go_must (refine au 0 kdA hm rfl rfl rfl 6 sz_a6 rfl rfl cT ?_);clear hm;intro w4 hm))
 rcases (show k=1∨k=2∨k=3∨k=4∨k=5 by omega) with hk9|hk9|hk9|hk9|hk9
 ·have hm9:m=0:=by rw [hmk,hk9];rfl
  have hmi:(m:Int)=0:=by omega
  have hmb:((m:Int)==0)=true:=beq_iff_eq.2 hmi
  have hn0:decide (n<0)=false:=decide_eq_false (by omega)
  have hn9:decide (99<n)=false:=decide_eq_false (by omega)
  have hm2:m≤2:=by omega
  clear hk15 hmk hn99 hn00
  have c0:w4.cell? ⟨g1,0,none⟩=some (.int .i64 1):=by rw [←hk9,hkk];exact ((hm.get 1 rfl).cell 0).trans rfl
  have c1:w4.cell? ⟨g1,1,none⟩=some (.int .i64 n):=by rw [hnn];exact ((hm.get 1 rfl).cell 1).trans rfl
  have c2:w4.cell? ⟨g1,2,none⟩=some (.slice p m c):=((hm.get 1 rfl).cell 2).trans rfl
  have d0:w4.cell? ⟨g3,1,none⟩=some (.int .i64 0):=((hm.get 0 rfl).cell 1).trans rfl
  clear hkk hnn hk9 hm9
  go_quiet (fail)
  obtain ⟨wq,hwq⟩:∃v,v=World.drewN w4 nq:=⟨_,rfl⟩
  replace hm:=Mem.drewN hm nq
  rw [←hwq] at hm ⊢
  clear hwq c0 c1 c2 d0
  clear hmi hmb hn0 hn9
  go_wp2_with fail
  go_loopw [4] (fun vi wr=>∃i:Nat,vi=.int .i64 (i:Int)∧i≤m∧Hid ((t.l.take i).all okT=true)∧Hid (Mem w [] wr [(g3,kdA,78),(g1,tcs t (.slice p m c),24)])) (fun vi _=>m - (intOf vi).toNat)
  case atStart=>exact ⟨0,rfl,Nat.zero_le _,by show _=_;rw [List.take_zero];rfl,hm⟩
  case round =>
   clear hm
   obtain ⟨i,rfl,him,HA,HMM⟩:=hrel
   have hm:=HMM.out
   by_cases hlt:i<m
   ·have hki:(i:Int)<(m:Int):=by omega
    obtain ⟨b,o,rfl⟩:=HS.out.at (show 0<m by omega)
    obtain ⟨x,hx⟩:=aX (HM.out ()) hlt
    obtain ⟨px,mx,cx,a0,a1,a2,hmx,hsx⟩:=(HS.out.below hm.below).cells hx
    have HX:Hid (SlT F wr (.slice px mx cx) x.l):=hsx
    have HNX:Hid ((t.l.take (i+1)).all okT=((t.l.take i).all okT&&okT x)):=dn hx
    have HMX:Hid (x∈t.l):=List.mem_of_getElem? hx
    clear hx hsx hmx HMM
    cases hox:okT x with
    | true =>
     have HC:Hid (∀W,Below wr.heap.size wr W→Calls Tryz.prog 39 #[.agg (tcs x (.slice px mx cx)).toArray] W fun e w'=>e=.returned (.bool true)∧Below W.heap.size W w'):=fun W hW=>by
      have h9:=HIH.out x HMX.out (.slice px mx cx) W (HX.out.below hW)
      rw [hox] at h9
      exact h9
     have HA2:Hid ((t.l.take (i+1)).all okT=true):=by show _=_;rw [HNX.out,HA.out,hox];rfl
     have HBW:Hid (Below wr.heap.size wr wr):=Below.refl _ _
     clear hox HA HNX
     go_wp2_with (first
      | ((with_reducible refine af (some 51) (.load 22 (.tmp 50)) ?_);go_must (refine aa (.slice (some ⟨b,o,none⟩) m c) rfl (ad (.slice (some ⟨b,o,none⟩) m c) (Mem.cell hm 1 rfl 2) rfl ah) ?_))
      | ((with_reducible refine af (some 57) (.load 22 (.tmp 56)) ?_);go_must (refine aa (.slice (some ⟨b,o,none⟩) m c) rfl (ad (.slice (some ⟨b,o,none⟩) m c) (Mem.cell hm 1 rfl 2) rfl ah) ?_))
      | ((with_reducible refine af (some 59) (.indexAddr 22 (.tmp 57) (.tmp 58)) ?_);go_must (refine aa (.pointer (some ⟨b,o+i * 3,none⟩)) rfl (ak i rfl rfl rfl hlt) ?_))
      | ((with_reducible refine af (some 60) (.load 24 (.tmp 59)) ?_);go_must (refine aa (.agg (tcs x (.slice px mx cx)).toArray) rfl (am rfl a0 a1 a2) ?_))
      | (go_at_call 39;go_must (refine (HC.out _ HBW.out).mono ?_);rintro e w61 ⟨he,hb⟩;subst he;replace hm:=hm.call hb;clear hb))
     go_roundw
     case rel=>exact ⟨i+1,by go_num,by omega,HA2.out,hm⟩
     case measure=>simp [intOf];omega
    | false =>
     have HC:Hid (∀W,Below wr.heap.size wr W→Calls Tryz.prog 39 #[.agg (tcs x (.slice px mx cx)).toArray] W fun e w'=>e=.returned (.bool false)∧Below W.heap.size W w'):=fun W hW=>by
      have h9:=HIH.out x HMX.out (.slice px mx cx) W (HX.out.below hW)
      rw [hox] at h9
      exact h9
     have HRF:Hid (∀_:Unit,okT t=false):=fun _=>by
      rw [HR.out (),List.all_eq_false]
      exact ⟨x,HMX.out,by rw [hox];simp⟩
     have HBW:Hid (Below wr.heap.size wr wr):=Below.refl _ _
     clear hox HA HNX
     go_wp2_with (first
      | ((with_reducible refine af (some 51) (.load 22 (.tmp 50)) ?_);go_must (refine aa (.slice (some ⟨b,o,none⟩) m c) rfl (ad (.slice (some ⟨b,o,none⟩) m c) (Mem.cell hm 1 rfl 2) rfl ah) ?_))
      | ((with_reducible refine af (some 57) (.load 22 (.tmp 56)) ?_);go_must (refine aa (.slice (some ⟨b,o,none⟩) m c) rfl (ad (.slice (some ⟨b,o,none⟩) m c) (Mem.cell hm 1 rfl 2) rfl ah) ?_))
      | ((with_reducible refine af (some 59) (.indexAddr 22 (.tmp 57) (.tmp 58)) ?_);go_must (refine aa (.pointer (some ⟨b,o+i * 3,none⟩)) rfl (ak i rfl rfl rfl hlt) ?_))
      | ((with_reducible refine af (some 60) (.load 24 (.tmp 59)) ?_);go_must (refine aa (.agg (tcs x (.slice px mx cx)).toArray) rfl (am rfl a0 a1 a2) ?_))
      | (go_at_call 39;go_must (refine (HC.out _ HBW.out).mono ?_);rintro e w61 ⟨he,hb⟩;subst he;replace hm:=hm.call hb;clear hb))
     go_ret
     exact ⟨by rw [HRF.out ()];rfl,hm.below⟩
   ·obtain rfl:i=m:=by omega
    have hki:¬(i:Int)<(i:Int):=by omega
    have HRT:Hid (∀_:Unit,okT t=true):=fun _=>by
     have h9:=HA.out
     rw [HM.out (),List.take_length] at h9
     rw [HR.out ()]
     exact h9
    clear HMM HA
    go_wp2_with (first
     | ((with_reducible refine af (some 51) (.load 22 (.tmp 50)) ?_);go_must (refine aa (.slice p i c) rfl (ad (.slice p i c) (Mem.cell hm 1 rfl 2) rfl ah) ?_)))
    go_ret
    exact ⟨by rw [HRT.out ()];rfl,hm.below⟩
 ·have hm9:m=0:=by rw [hmk,hk9];rfl
  have hmi:(m:Int)=0:=by omega
  have hmb:((m:Int)==0)=true:=beq_iff_eq.2 hmi
  have hn0:decide (n<0)=false:=decide_eq_false (by omega)
  have hn9:decide (99<n)=false:=decide_eq_false (by omega)
  have hm2:m≤2:=by omega
  clear hk15 hmk hn99 hn00
  have c0:w4.cell? ⟨g1,0,none⟩=some (.int .i64 2):=by rw [←hk9,hkk];exact ((hm.get 1 rfl).cell 0).trans rfl
  have c1:w4.cell? ⟨g1,1,none⟩=some (.int .i64 n):=by rw [hnn];exact ((hm.get 1 rfl).cell 1).trans rfl
  have c2:w4.cell? ⟨g1,2,none⟩=some (.slice p m c):=((hm.get 1 rfl).cell 2).trans rfl
  have d0:w4.cell? ⟨g3,2,none⟩=some (.int .i64 0):=((hm.get 0 rfl).cell 2).trans rfl
  clear hkk hnn hk9 hm9
  go_quiet (fail)
  obtain ⟨wq,hwq⟩:∃v,v=World.drewN w4 nq:=⟨_,rfl⟩
  replace hm:=Mem.drewN hm nq
  rw [←hwq] at hm ⊢
  clear hwq c0 c1 c2 d0
  clear hmi hmb hn0 hn9
  go_wp2_with fail
  go_loopw [4] (fun vi wr=>∃i:Nat,vi=.int .i64 (i:Int)∧i≤m∧Hid ((t.l.take i).all okT=true)∧Hid (Mem w [] wr [(g3,kdA,78),(g1,tcs t (.slice p m c),24)])) (fun vi _=>m - (intOf vi).toNat)
  case atStart=>exact ⟨0,rfl,Nat.zero_le _,by show _=_;rw [List.take_zero];rfl,hm⟩
  case round =>
   clear hm
   obtain ⟨i,rfl,him,HA,HMM⟩:=hrel
   have hm:=HMM.out
   by_cases hlt:i<m
   ·have hki:(i:Int)<(m:Int):=by omega
    obtain ⟨b,o,rfl⟩:=HS.out.at (show 0<m by omega)
    obtain ⟨x,hx⟩:=aX (HM.out ()) hlt
    obtain ⟨px,mx,cx,a0,a1,a2,hmx,hsx⟩:=(HS.out.below hm.below).cells hx
    have HX:Hid (SlT F wr (.slice px mx cx) x.l):=hsx
    have HNX:Hid ((t.l.take (i+1)).all okT=((t.l.take i).all okT&&okT x)):=dn hx
    have HMX:Hid (x∈t.l):=List.mem_of_getElem? hx
    clear hx hsx hmx HMM
    cases hox:okT x with
    | true =>
     have HC:Hid (∀W,Below wr.heap.size wr W→Calls Tryz.prog 39 #[.agg (tcs x (.slice px mx cx)).toArray] W fun e w'=>e=.returned (.bool true)∧Below W.heap.size W w'):=fun W hW=>by
      have h9:=HIH.out x HMX.out (.slice px mx cx) W (HX.out.below hW)
      rw [hox] at h9
      exact h9
     have HA2:Hid ((t.l.take (i+1)).all okT=true):=by show _=_;rw [HNX.out,HA.out,hox];rfl
     have HBW:Hid (Below wr.heap.size wr wr):=Below.refl _ _
     clear hox HA HNX
     go_wp2_with (first
      | ((with_reducible refine af (some 51) (.load 22 (.tmp 50)) ?_);go_must (refine aa (.slice (some ⟨b,o,none⟩) m c) rfl (ad (.slice (some ⟨b,o,none⟩) m c) (Mem.cell hm 1 rfl 2) rfl ah) ?_))
      | ((with_reducible refine af (some 57) (.load 22 (.tmp 56)) ?_);go_must (refine aa (.slice (some ⟨b,o,none⟩) m c) rfl (ad (.slice (some ⟨b,o,none⟩) m c) (Mem.cell hm 1 rfl 2) rfl ah) ?_))
      | ((with_reducible refine af (some 59) (.indexAddr 22 (.tmp 57) (.tmp 58)) ?_);go_must (refine aa (.pointer (some ⟨b,o+i * 3,none⟩)) rfl (ak i rfl rfl rfl hlt) ?_))
      | ((with_reducible refine af (some 60) (.load 24 (.tmp 59)) ?_);go_must (refine aa (.agg (tcs x (.slice px mx cx)).toArray) rfl (am rfl a0 a1 a2) ?_))
      | (go_at_call 39;go_must (refine (HC.out _ HBW.out).mono ?_);rintro e w61 ⟨he,hb⟩;subst he;replace hm:=hm.call hb;clear hb))
     go_roundw
     case rel=>exact ⟨i+1,by go_num,by omega,HA2.out,hm⟩
     case measure=>simp [intOf];omega
    | false =>
     have HC:Hid (∀W,Below wr.heap.size wr W→Calls Tryz.prog 39 #[.agg (tcs x (.slice px mx cx)).toArray] W fun e w'=>e=.returned (.bool false)∧Below W.heap.size W w'):=fun W hW=>by
      have h9:=HIH.out x HMX.out (.slice px mx cx) W (HX.out.below hW)
      rw [hox] at h9
      exact h9
     have HRF:Hid (∀_:Unit,okT t=false):=fun _=>by
      rw [HR.out (),List.all_eq_false]
      exact ⟨x,HMX.out,by rw [hox];simp⟩
     have HBW:Hid (Below wr.heap.size wr wr):=Below.refl _ _
     clear hox HA HNX
     go_wp2_with (first
      | ((with_reducible refine af (some 51) (.load 22 (.tmp 50)) ?_);go_must (refine aa (.slice (some ⟨b,o,none⟩) m c) rfl (ad (.slice (some ⟨b,o,none⟩) m c) (Mem.cell hm 1 rfl 2) rfl ah) ?_))
      | ((with_reducible refine af (some 57) (.load 22 (.tmp 56)) ?_);go_must (refine aa (.slice (some ⟨b,o,none⟩) m c) rfl (ad (.slice (some ⟨b,o,none⟩) m c) (Mem.cell hm 1 rfl 2) rfl ah) ?_))
      | ((with_reducible refine af (some 59) (.indexAddr 22 (.tmp 57) (.tmp 58)) ?_);go_must (refine aa (.pointer (some ⟨b,o+i * 3,none⟩)) rfl (ak i rfl rfl rfl hlt) ?_))
      | ((with_reducible refine af (some 60) (.load 24 (.tmp 59)) ?_);go_must (refine aa (.agg (tcs x (.slice px mx cx)).toArray) rfl (am rfl a0 a1 a2) ?_))
      | (go_at_call 39;go_must (refine (HC.out _ HBW.out).mono ?_);rintro e w61 ⟨he,hb⟩;subst he;replace hm:=hm.call hb;clear hb))
     go_ret
     exact ⟨by rw [HRF.out ()];rfl,hm.below⟩
   ·obtain rfl:i=m:=by omega
    have hki:¬(i:Int)<(i:Int):=by omega
    have HRT:Hid (∀_:Unit,okT t=true):=fun _=>by
     have h9:=HA.out
     rw [HM.out (),List.take_length] at h9
     rw [HR.out ()]
     exact h9
    clear HMM HA
    go_wp2_with (first
     | ((with_reducible refine af (some 51) (.load 22 (.tmp 50)) ?_);go_must (refine aa (.slice p i c) rfl (ad (.slice p i c) (Mem.cell hm 1 rfl 2) rfl ah) ?_)))
    go_ret
    exact ⟨by rw [HRT.out ()];rfl,hm.below⟩
 ·have hm9:m=2:=by rw [hmk,hk9];rfl
  have hmi:(m:Int)=2:=by omega
  have hmb:((m:Int)==2)=true:=beq_iff_eq.2 hmi
  have hn0:decide (n<0)=false:=decide_eq_false (by omega)
  have hn9:decide (99<n)=false:=decide_eq_false (by omega)
  have hnz:n=0:=hn00 (by rw [hk9];rfl)
  have hnb:(n==0)=true:=beq_iff_eq.2 hnz
  have hm2:m≤2:=by omega
  clear hk15 hmk hn99 hn00
  have c0:w4.cell? ⟨g1,0,none⟩=some (.int .i64 3):=by rw [←hk9,hkk];exact ((hm.get 1 rfl).cell 0).trans rfl
  have c1:w4.cell? ⟨g1,1,none⟩=some (.int .i64 n):=by rw [hnn];exact ((hm.get 1 rfl).cell 1).trans rfl
  have c2:w4.cell? ⟨g1,2,none⟩=some (.slice p m c):=((hm.get 1 rfl).cell 2).trans rfl
  have d0:w4.cell? ⟨g3,3,none⟩=some (.int .i64 2):=((hm.get 0 rfl).cell 3).trans rfl
  clear hkk hnn hk9 hm9
  go_quiet (fail)
  obtain ⟨wq,hwq⟩:∃v,v=World.drewN w4 nq:=⟨_,rfl⟩
  replace hm:=Mem.drewN hm nq
  rw [←hwq] at hm ⊢
  clear hwq c0 c1 c2 d0
  clear hmi hmb hn0 hn9 hnz hnb
  go_wp2_with fail
  go_loopw [4] (fun vi wr=>∃i:Nat,vi=.int .i64 (i:Int)∧i≤m∧Hid ((t.l.take i).all okT=true)∧Hid (Mem w [] wr [(g3,kdA,78),(g1,tcs t (.slice p m c),24)])) (fun vi _=>m - (intOf vi).toNat)
  case atStart=>exact ⟨0,rfl,Nat.zero_le _,by show _=_;rw [List.take_zero];rfl,hm⟩
  case round =>
   clear hm
   obtain ⟨i,rfl,him,HA,HMM⟩:=hrel
   have hm:=HMM.out
   by_cases hlt:i<m
   ·have hki:(i:Int)<(m:Int):=by omega
    obtain ⟨b,o,rfl⟩:=HS.out.at (show 0<m by omega)
    obtain ⟨x,hx⟩:=aX (HM.out ()) hlt
    obtain ⟨px,mx,cx,a0,a1,a2,hmx,hsx⟩:=(HS.out.below hm.below).cells hx
    have HX:Hid (SlT F wr (.slice px mx cx) x.l):=hsx
    have HNX:Hid ((t.l.take (i+1)).all okT=((t.l.take i).all okT&&okT x)):=dn hx
    have HMX:Hid (x∈t.l):=List.mem_of_getElem? hx
    clear hx hsx hmx HMM
    cases hox:okT x with
    | true =>
     have HC:Hid (∀W,Below wr.heap.size wr W→Calls Tryz.prog 39 #[.agg (tcs x (.slice px mx cx)).toArray] W fun e w'=>e=.returned (.bool true)∧Below W.heap.size W w'):=fun W hW=>by
      have h9:=HIH.out x HMX.out (.slice px mx cx) W (HX.out.below hW)
      rw [hox] at h9
      exact h9
     have HA2:Hid ((t.l.take (i+1)).all okT=true):=by show _=_;rw [HNX.out,HA.out,hox];rfl
     have HBW:Hid (Below wr.heap.size wr wr):=Below.refl _ _
     clear hox HA HNX
     go_wp2_with (first
      | ((with_reducible refine af (some 51) (.load 22 (.tmp 50)) ?_);go_must (refine aa (.slice (some ⟨b,o,none⟩) m c) rfl (ad (.slice (some ⟨b,o,none⟩) m c) (Mem.cell hm 1 rfl 2) rfl ah) ?_))
      | ((with_reducible refine af (some 57) (.load 22 (.tmp 56)) ?_);go_must (refine aa (.slice (some ⟨b,o,none⟩) m c) rfl (ad (.slice (some ⟨b,o,none⟩) m c) (Mem.cell hm 1 rfl 2) rfl ah) ?_))
      | ((with_reducible refine af (some 59) (.indexAddr 22 (.tmp 57) (.tmp 58)) ?_);go_must (refine aa (.pointer (some ⟨b,o+i * 3,none⟩)) rfl (ak i rfl rfl rfl hlt) ?_))
      | ((with_reducible refine af (some 60) (.load 24 (.tmp 59)) ?_);go_must (refine aa (.agg (tcs x (.slice px mx cx)).toArray) rfl (am rfl a0 a1 a2) ?_))
      | (go_at_call 39;go_must (refine (HC.out _ HBW.out).mono ?_);rintro e w61 ⟨he,hb⟩;subst he;replace hm:=hm.call hb;clear hb))
     go_roundw
     case rel=>exact ⟨i+1,by go_num,by omega,HA2.out,hm⟩
     case measure=>simp [intOf];omega
    | false =>
     have HC:Hid (∀W,Below wr.heap.size wr W→Calls Tryz.prog 39 #[.agg (tcs x (.slice px mx cx)).toArray] W fun e w'=>e=.returned (.bool false)∧Below W.heap.size W w'):=fun W hW=>by
      have h9:=HIH.out x HMX.out (.slice px mx cx) W (HX.out.below hW)
      rw [hox] at h9
      exact h9
     have HRF:Hid (∀_:Unit,okT t=false):=fun _=>by
      rw [HR.out (),List.all_eq_false]
      exact ⟨x,HMX.out,by rw [hox];simp⟩
     have HBW:Hid (Below wr.heap.size wr wr):=Below.refl _ _
     clear hox HA HNX
     go_wp2_with (first
      | ((with_reducible refine af (some 51) (.load 22 (.tmp 50)) ?_);go_must (refine aa (.slice (some ⟨b,o,none⟩) m c) rfl (ad (.slice (some ⟨b,o,none⟩) m c) (Mem.cell hm 1 rfl 2) rfl ah) ?_))
      | ((with_reducible refine af (some 57) (.load 22 (.tmp 56)) ?_);go_must (refine aa (.slice (some ⟨b,o,none⟩) m c) rfl (ad (.slice (some ⟨b,o,none⟩) m c) (Mem.cell hm 1 rfl 2) rfl ah) ?_))
      | ((with_reducible refine af (some 59) (.indexAddr 22 (.tmp 57) (.tmp 58)) ?_);go_must (refine aa (.pointer (some ⟨b,o+i * 3,none⟩)) rfl (ak i rfl rfl rfl hlt) ?_))
      | ((with_reducible refine af (some 60) (.load 24 (.tmp 59)) ?_);go_must (refine aa (.agg (tcs x (.slice px mx cx)).toArray) rfl (am rfl a0 a1 a2) ?_))
      | (go_at_call 39;go_must (refine (HC.out _ HBW.out).mono ?_);rintro e w61 ⟨he,hb⟩;subst he;replace hm:=hm.call hb;clear hb))
     go_ret
     exact ⟨by rw [HRF.out ()];rfl,hm.below⟩
   ·obtain rfl:i=m:=by omega
    have hki:¬(i:Int)<(i:Int):=by omega
    have HRT:Hid (∀_:Unit,okT t=true):=fun _=>by
     have h9:=HA.out
     rw [HM.out (),List.take_length] at h9
     rw [HR.out ()]
     exact h9
    clear HMM HA
    go_wp2_with (first
     | ((with_reducible refine af (some 51) (.load 22 (.tmp 50)) ?_);go_must (refine aa (.slice p i c) rfl (ad (.slice p i c) (Mem.cell hm 1 rfl 2) rfl ah) ?_)))
    go_ret
    exact ⟨by rw [HRT.out ()];rfl,hm.below⟩
 ·have hm9:m=2:=by rw [hmk,hk9];rfl
  have hmi:(m:Int)=2:=by omega
  have hmb:((m:Int)==2)=true:=beq_iff_eq.2 hmi
  have hn0:decide (n<0)=false:=decide_eq_false (by omega)
  have hn9:decide (99<n)=false:=decide_eq_false (by omega)
  have hnz:n=0:=hn00 (by rw [hk9];rfl)
  have hnb:(n==0)=true:=beq_iff_eq.2 hnz
  have hm2:m≤2:=by omega
  clear hk15 hmk hn99 hn00
  have c0:w4.cell? ⟨g1,0,none⟩=some (.int .i64 4):=by rw [←hk9,hkk];exact ((hm.get 1 rfl).cell 0).trans rfl
  have c1:w4.cell? ⟨g1,1,none⟩=some (.int .i64 n):=by rw [hnn];exact ((hm.get 1 rfl).cell 1).trans rfl
  have c2:w4.cell? ⟨g1,2,none⟩=some (.slice p m c):=((hm.get 1 rfl).cell 2).trans rfl
  have d0:w4.cell? ⟨g3,4,none⟩=some (.int .i64 2):=((hm.get 0 rfl).cell 4).trans rfl
  clear hkk hnn hk9 hm9
  go_quiet (fail)
  obtain ⟨wq,hwq⟩:∃v,v=World.drewN w4 nq:=⟨_,rfl⟩
  replace hm:=Mem.drewN hm nq
  rw [←hwq] at hm ⊢
  clear hwq c0 c1 c2 d0
  clear hmi hmb hn0 hn9 hnz hnb
  go_wp2_with fail
  go_loopw [4] (fun vi wr=>∃i:Nat,vi=.int .i64 (i:Int)∧i≤m∧Hid ((t.l.take i).all okT=true)∧Hid (Mem w [] wr [(g3,kdA,78),(g1,tcs t (.slice p m c),24)])) (fun vi _=>m - (intOf vi).toNat)
  case atStart=>exact ⟨0,rfl,Nat.zero_le _,by show _=_;rw [List.take_zero];rfl,hm⟩
  case round =>
   clear hm
   obtain ⟨i,rfl,him,HA,HMM⟩:=hrel
   have hm:=HMM.out
   by_cases hlt:i<m
   ·have hki:(i:Int)<(m:Int):=by omega
    obtain ⟨b,o,rfl⟩:=HS.out.at (show 0<m by omega)
    obtain ⟨x,hx⟩:=aX (HM.out ()) hlt
    obtain ⟨px,mx,cx,a0,a1,a2,hmx,hsx⟩:=(HS.out.below hm.below).cells hx
    have HX:Hid (SlT F wr (.slice px mx cx) x.l):=hsx
    have HNX:Hid ((t.l.take (i+1)).all okT=((t.l.take i).all okT&&okT x)):=dn hx
    have HMX:Hid (x∈t.l):=List.mem_of_getElem? hx
    clear hx hsx hmx HMM
    cases hox:okT x with
    | true =>
     have HC:Hid (∀W,Below wr.heap.size wr W→Calls Tryz.prog 39 #[.agg (tcs x (.slice px mx cx)).toArray] W fun e w'=>e=.returned (.bool true)∧Below W.heap.size W w'):=fun W hW=>by
      have h9:=HIH.out x HMX.out (.slice px mx cx) W (HX.out.below hW)
      rw [hox] at h9
      exact h9
     have HA2:Hid ((t.l.take (i+1)).all okT=true):=by show _=_;rw [HNX.out,HA.out,hox];rfl
     have HBW:Hid (Below wr.heap.size wr wr):=Below.refl _ _
     clear hox HA HNX
     go_wp2_with (first
      | ((with_reducible refine af (some 51) (.load 22 (.tmp 50)) ?_);go_must (refine aa (.slice (some ⟨b,o,none⟩) m c) rfl (ad (.slice (some ⟨b,o,none⟩) m c) (Mem.cell hm 1 rfl 2) rfl ah) ?_))
      | ((with_reducible refine af (some 57) (.load 22 (.tmp 56)) ?_);go_must (refine aa (.slice (some ⟨b,o,none⟩) m c) rfl (ad (.slice (some ⟨b,o,none⟩) m c) (Mem.cell hm 1 rfl 2) rfl ah) ?_))
      | ((with_reducible refine af (some 59) (.indexAddr 22 (.tmp 57) (.tmp 58)) ?_);go_must (refine aa (.pointer (some ⟨b,o+i * 3,none⟩)) rfl (ak i rfl rfl rfl hlt) ?_))
      | ((with_reducible refine af (some 60) (.load 24 (.tmp 59)) ?_);go_must (refine aa (.agg (tcs x (.slice px mx cx)).toArray) rfl (am rfl a0 a1 a2) ?_))
      | (go_at_call 39;go_must (refine (HC.out _ HBW.out).mono ?_);rintro e w61 ⟨he,hb⟩;subst he;replace hm:=hm.call hb;clear hb))
     go_roundw
     case rel=>exact ⟨i+1,by go_num,by omega,HA2.out,hm⟩
     case measure=>simp [intOf];omega
    | false =>
     have HC:Hid (∀W,Below wr.heap.size wr W→Calls Tryz.prog 39 #[.agg (tcs x (.slice px mx cx)).toArray] W fun e w'=>e=.returned (.bool false)∧Below W.heap.size W w'):=fun W hW=>by
      have h9:=HIH.out x HMX.out (.slice px mx cx) W (HX.out.below hW)
      rw [hox] at h9
      exact h9
     have HRF:Hid (∀_:Unit,okT t=false):=fun _=>by
      rw [HR.out (),List.all_eq_false]
      exact ⟨x,HMX.out,by rw [hox];simp⟩
     have HBW:Hid (Below wr.heap.size wr wr):=Below.refl _ _
     clear hox HA HNX
     go_wp2_with (first
      | ((with_reducible refine af (some 51) (.load 22 (.tmp 50)) ?_);go_must (refine aa (.slice (some ⟨b,o,none⟩) m c) rfl (ad (.slice (some ⟨b,o,none⟩) m c) (Mem.cell hm 1 rfl 2) rfl ah) ?_))
      | ((with_reducible refine af (some 57) (.load 22 (.tmp 56)) ?_);go_must (refine aa (.slice (some ⟨b,o,none⟩) m c) rfl (ad (.slice (some ⟨b,o,none⟩) m c) (Mem.cell hm 1 rfl 2) rfl ah) ?_))
      | ((with_reducible refine af (some 59) (.indexAddr 22 (.tmp 57) (.tmp 58)) ?_);go_must (refine aa (.pointer (some ⟨b,o+i * 3,none⟩)) rfl (ak i rfl rfl rfl hlt) ?_))
      | ((with_reducible refine af (some 60) (.load 24 (.tmp 59)) ?_);go_must (refine aa (.agg (tcs x (.slice px mx cx)).toArray) rfl (am rfl a0 a1 a2) ?_))
      | (go_at_call 39;go_must (refine (HC.out _ HBW.out).mono ?_);rintro e w61 ⟨he,hb⟩;subst he;replace hm:=hm.call hb;clear hb))
     go_ret
     exact ⟨by rw [HRF.out ()];rfl,hm.below⟩
   ·obtain rfl:i=m:=by omega
    have hki:¬(i:Int)<(i:Int):=by omega
    have HRT:Hid (∀_:Unit,okT t=true):=fun _=>by
     have h9:=HA.out
     rw [HM.out (),List.take_length] at h9
     rw [HR.out ()]
     exact h9
    clear HMM HA
    go_wp2_with (first
     | ((with_reducible refine af (some 51) (.load 22 (.tmp 50)) ?_);go_must (refine aa (.slice p i c) rfl (ad (.slice p i c) (Mem.cell hm 1 rfl 2) rfl ah) ?_)))
    go_ret
    exact ⟨by rw [HRT.out ()];rfl,hm.below⟩
 ·have hm9:m=1:=by rw [hmk,hk9];rfl
  have hmi:(m:Int)=1:=by omega
  have hmb:((m:Int)==1)=true:=beq_iff_eq.2 hmi
  have hn0:decide (n<0)=false:=decide_eq_false (by omega)
  have hn9:decide (99<n)=false:=decide_eq_false (by omega)
  have hm2:m≤2:=by omega
  clear hk15 hmk hn99 hn00
  have c0:w4.cell? ⟨g1,0,none⟩=some (.int .i64 5):=by rw [←hk9,hkk];exact ((hm.get 1 rfl).cell 0).trans rfl
  have c1:w4.cell? ⟨g1,1,none⟩=some (.int .i64 n):=by rw [hnn];exact ((hm.get 1 rfl).cell 1).trans rfl
  have c2:w4.cell? ⟨g1,2,none⟩=some (.slice p m c):=((hm.get 1 rfl).cell 2).trans rfl
  have d0:w4.cell? ⟨g3,5,none⟩=some (.int .i64 1):=((hm.get 0 rfl).cell 5).trans rfl
  clear hkk hnn hk9 hm9
  go_quiet (fail)
  obtain ⟨wq,hwq⟩:∃v,v=World.drewN w4 nq:=⟨_,rfl⟩
  replace hm:=Mem.drewN hm nq
  rw [←hwq] at hm ⊢
  clear hwq c0 c1 c2 d0
  clear hmi hmb hn0 hn9
  go_wp2_with fail
  go_loopw [4] (fun vi wr=>∃i:Nat,vi=.int .i64 (i:Int)∧i≤m∧Hid ((t.l.take i).all okT=true)∧Hid (Mem w [] wr [(g3,kdA,78),(g1,tcs t (.slice p m c),24)])) (fun vi _=>m - (intOf vi).toNat)
  case atStart=>exact ⟨0,rfl,Nat.zero_le _,by show _=_;rw [List.take_zero];rfl,hm⟩
  case round =>
   clear hm
   obtain ⟨i,rfl,him,HA,HMM⟩:=hrel
   have hm:=HMM.out
   by_cases hlt:i<m
   ·have hki:(i:Int)<(m:Int):=by omega
    obtain ⟨b,o,rfl⟩:=HS.out.at (show 0<m by omega)
    obtain ⟨x,hx⟩:=aX (HM.out ()) hlt
    obtain ⟨px,mx,cx,a0,a1,a2,hmx,hsx⟩:=(HS.out.below hm.below).cells hx
    have HX:Hid (SlT F wr (.slice px mx cx) x.l):=hsx
    have HNX:Hid ((t.l.take (i+1)).all okT=((t.l.take i).all okT&&okT x)):=dn hx
    have HMX:Hid (x∈t.l):=List.mem_of_getElem? hx
    clear hx hsx hmx HMM
    cases hox:okT x with
    | true =>
     have HC:Hid (∀W,Below wr.heap.size wr W→Calls Tryz.prog 39 #[.agg (tcs x (.slice px mx cx)).toArray] W fun e w'=>e=.returned (.bool true)∧Below W.heap.size W w'):=fun W hW=>by
      have h9:=HIH.out x HMX.out (.slice px mx cx) W (HX.out.below hW)
      rw [hox] at h9
      exact h9
     have HA2:Hid ((t.l.take (i+1)).all okT=true):=by show _=_;rw [HNX.out,HA.out,hox];rfl
     have HBW:Hid (Below wr.heap.size wr wr):=Below.refl _ _
     clear hox HA HNX
     go_wp2_with (first
      | ((with_reducible refine af (some 51) (.load 22 (.tmp 50)) ?_);go_must (refine aa (.slice (some ⟨b,o,none⟩) m c) rfl (ad (.slice (some ⟨b,o,none⟩) m c) (Mem.cell hm 1 rfl 2) rfl ah) ?_))
      | ((with_reducible refine af (some 57) (.load 22 (.tmp 56)) ?_);go_must (refine aa (.slice (some ⟨b,o,none⟩) m c) rfl (ad (.slice (some ⟨b,o,none⟩) m c) (Mem.cell hm 1 rfl 2) rfl ah) ?_))
      | ((with_reducible refine af (some 59) (.indexAddr 22 (.tmp 57) (.tmp 58)) ?_);go_must (refine aa (.pointer (some ⟨b,o+i * 3,none⟩)) rfl (ak i rfl rfl rfl hlt) ?_))
      | ((with_reducible refine af (some 60) (.load 24 (.tmp 59)) ?_);go_must (refine aa (.agg (tcs x (.slice px mx cx)).toArray) rfl (am rfl a0 a1 a2) ?_))
      | (go_at_call 39;go_must (refine (HC.out _ HBW.out).mono ?_);rintro e w61 ⟨he,hb⟩;subst he;replace hm:=hm.call hb;clear hb))
     go_roundw
     case rel=>exact ⟨i+1,by go_num,by omega,HA2.out,hm⟩
     case measure=>simp [intOf];omega
    | false =>
     have HC:Hid (∀W,Below wr.heap.size wr W→Calls Tryz.prog 39 #[.agg (tcs x (.slice px mx cx)).toArray] W fun e w'=>e=.returned (.bool false)∧Below W.heap.size W w'):=fun W hW=>by
      have h9:=HIH.out x HMX.out (.slice px mx cx) W (HX.out.below hW)
      rw [hox] at h9
      exact h9
     have HRF:Hid (∀_:Unit,okT t=false):=fun _=>by
      rw [HR.out (),List.all_eq_false]
      exact ⟨x,HMX.out,by rw [hox];simp⟩
     have HBW:Hid (Below wr.heap.size wr wr):=Below.refl _ _
     clear hox HA HNX
     go_wp2_with (first
      | ((with_reducible refine af (some 51) (.load 22 (.tmp 50)) ?_);go_must (refine aa (.slice (some ⟨b,o,none⟩) m c) rfl (ad (.slice (some ⟨b,o,none⟩) m c) (Mem.cell hm 1 rfl 2) rfl ah) ?_))
      | ((with_reducible refine af (some 57) (.load 22 (.tmp 56)) ?_);go_must (refine aa (.slice (some ⟨b,o,none⟩) m c) rfl (ad (.slice (some ⟨b,o,none⟩) m c) (Mem.cell hm 1 rfl 2) rfl ah) ?_))
      | ((with_reducible refine af (some 59) (.indexAddr 22 (.tmp 57) (.tmp 58)) ?_);go_must (refine aa (.pointer (some ⟨b,o+i * 3,none⟩)) rfl (ak i rfl rfl rfl hlt) ?_))
      | ((with_reducible refine af (some 60) (.load 24 (.tmp 59)) ?_);go_must (refine aa (.agg (tcs x (.slice px mx cx)).toArray) rfl (am rfl a0 a1 a2) ?_))
      | (go_at_call 39;go_must (refine (HC.out _ HBW.out).mono ?_);rintro e w61 ⟨he,hb⟩;subst he;replace hm:=hm.call hb;clear hb))
     go_ret
     exact ⟨by rw [HRF.out ()];rfl,hm.below⟩
   ·obtain rfl:i=m:=by omega
    have hki:¬(i:Int)<(i:Int):=by omega
    have HRT:Hid (∀_:Unit,okT t=true):=fun _=>by
     have h9:=HA.out
     rw [HM.out (),List.take_length] at h9
     rw [HR.out ()]
     exact h9
    clear HMM HA
    go_wp2_with (first
     | ((with_reducible refine af (some 51) (.load 22 (.tmp 50)) ?_);go_must (refine aa (.slice p i c) rfl (ad (.slice p i c) (Mem.cell hm 1 rfl 2) rfl ah) ?_)))
    go_ret
    exact ⟨by rw [HRT.out ()];rfl,hm.below⟩
theorem bY {F:Nat→Prop} (t:Tm) (s:Value) (w:World) (hs:SlT F w s t.l) :
  Calls Tryz.prog 19 #[.agg (tcs t s).toArray] w fun e w'=>e=.returned (.bool (isT t))∧Below w.heap.size w w':=by
 obtain ⟨p,c,rfl,_⟩:=hs.len
 obtain ⟨m,hml⟩:∃m,m=t.l.length:=⟨_,rfl⟩
 rw [←hml] at hs ⊢
 have HS:Hid (SlT F w (.slice p m c) t.l):=hs
 obtain ⟨d,hd⟩:∃d,d=min 61 (cnt t):=⟨_,rfl⟩
 have HC:Hid (∀W,Below w.heap.size w W→Calls Tryz.prog 22 #[.agg (tcs t (.slice p m c)).toArray,.int .i64 60] W fun e w'=>e=.returned (.int .i64 (d:Int))∧Below W.heap.size W w'):=fun W hW=>by
  have h9:=eQ t 60 (.slice p m c) W (by omega) (HS.out.below hW)
  rw [hd]
  exact h9
 obtain ⟨r,hr⟩:∃r,r=okT t:=⟨_,rfl⟩
 have HE:Hid (∀W,Below w.heap.size w W→Calls Tryz.prog 39 #[.agg (tcs t (.slice p m c)).toArray] W fun e w'=>e=.returned (.bool r)∧Below W.heap.size W w'):=fun W hW=>by rw [hr];exact each_any t _ W (HS.out.below hW)
 have HI:Hid (∀_:Unit,isT t=(decide (d≤60)&&r)):=fun _=>by
  rw [hr,hd]
  unfold isT
  congr 1
  rw [decide_eq_decide]
  omega
 clear hs hml hd hr
 have hm:=Mem.start w
 by_cases h60:d≤60
 ·have hdi:decide ((d:Int)≤60)=true:=decide_eq_true (by omega)
  go_enter Tryz.func19,Tryz.ntmps19
  go_wp2_with (first
   | ((with_reducible refine af (some 1) (.box 24 (.tmp 0)) ?_);go_must (refine aw (tcs t (.slice p m c)) rfl hm ?_);clear hm;intro w1 g1 hm)
   | ((with_reducible refine af (some 3) (.load 24 (.tmp 1)) ?_);go_must (refine aE 0 hm rfl rfl _ Tryz.underlying24 rfl 3 aj rfl ?_))
   | (go_at_call 22;go_must (refine (HC.out _ hm.below).mono ?_);rintro e w4 ⟨he,hb⟩;subst he;replace hm:=hm.call hb;clear hb)
   | ((with_reducible refine aC (some 7) (.load 24 (.tmp 1)) (some (3,true)) ?_);go_must (refine aa (.agg (tcs t (.slice p m c)).toArray) rfl (aB 0 (tcs t (.slice p m c)) (Mem.get hm 0 rfl) rfl _ Tryz.underlying24 rfl 3 aj (Nat.le_refl _) rfl) ?_))
   | (go_at_call 39;go_must (refine (HE.out _ hm.below).mono ?_);rintro e w8 ⟨he,hb⟩;subst he;replace hm:=hm.call hb;clear hb))
  go_ret
  exact ⟨by rw [HI.out (),decide_eq_true h60];rfl,hm.below⟩
 ·have hdi:decide ((d:Int)≤60)=false:=decide_eq_false (by omega)
  go_enter Tryz.func19,Tryz.ntmps19
  go_wp2_with (first
   | ((with_reducible refine af (some 1) (.box 24 (.tmp 0)) ?_);go_must (refine aw (tcs t (.slice p m c)) rfl hm ?_);clear hm;intro w1 g1 hm)
   | ((with_reducible refine af (some 3) (.load 24 (.tmp 1)) ?_);go_must (refine aE 0 hm rfl rfl _ Tryz.underlying24 rfl 3 aj rfl ?_))
   | (go_at_call 22;go_must (refine (HC.out _ hm.below).mono ?_);rintro e w4 ⟨he,hb⟩;subst he;replace hm:=hm.call hb;clear hb))
  go_ret
  exact ⟨by rw [HI.out (),decide_eq_false h60];rfl,hm.below⟩
end Go.Proofs.YtcibhfcjbokdlaaGreatDoor
