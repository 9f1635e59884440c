import Derived.Test.YtcibhfcjbokdlaaGreatDoorQt18
set_option maxRecDepth 100000
set_option maxHeartbeats 4000000
namespace Go.Proofs.YtcibhfcjbokdlaaGreatDoor
open Go Go.RowKit
theorem each_b3 {F:Nat→Prop} (t:Tm) (s:Value) (w:World) (hs:SlT F w s t.l) (hb:okF t.k t.n t.l.length=false) (hk9:t.k=3) :
  Calls Tryz.prog 39 #[.agg (tcs t s).toArray] w fun e w'=>e=.returned (.bool (okT t))∧Below w.heap.size w w':=by
 have HR:Hid (∀_:Unit,okT t=false):=fun _=>et hb
 obtain ⟨p,c,rfl,_⟩:=hs.len
 obtain ⟨m,hml⟩:∃m,m=t.l.length:=⟨_,rfl⟩
 obtain ⟨k,hkk⟩:∃k,k=t.k:=⟨_,rfl⟩
 obtain ⟨n,hnn⟩:∃n,n=t.n:=⟨_,rfl⟩
 rw [←hml,←hkk,←hnn] at hb
 rw [←hkk] at hk9
 rw [←hml]
 clear hs hml
 have hm:=Mem.start w
 go_enter Tryz.func39,Tryz.ntmps39
 go_wp2_with (first
  | ((with_reducible refine af (some 1) (.box 24 (.tmp 0)) ?_);go_must (refine aw (tcs t (.slice p m c)) rfl hm ?_);clear hm;intro w1 g1 hm)
  | ((with_reducible refine af (some 3) (.alloc 78) ?_);go_must (refine ap _ cX hm ?_);clear hm;intro w2 g3 hm)
  | ((with_reducible refine af none (.store 78 (.tmp 3) (.tmp 5)) ?_);go_must (refine au 0 kdA hm rfl rfl rfl 6 sz_a6 rfl rfl cT ?_);clear hm;intro w4 hm))
 by_cases hmk:m=2
 ·subst hmk
  by_cases hn1:n<0
  ·clear hb
   have HC0:Hid (∀W,Mem w [] W [(g3,kdA,78),(g1,tcs t (.slice p 2 c),24)]→W.cell? ⟨g1,0,none⟩=some (.int .i64 3)):=fun W hW=>by rw [←hk9,hkk];exact ((hW.get 1 rfl).cell 0).trans rfl
   have HC1:Hid (∀W,Mem w [] W [(g3,kdA,78),(g1,tcs t (.slice p 2 c),24)]→W.cell? ⟨g1,1,none⟩=some (.int .i64 n)):=fun W hW=>by rw [hnn];exact ((hW.get 1 rfl).cell 1).trans rfl
   have HC2:Hid (∀W,Mem w [] W [(g3,kdA,78),(g1,tcs t (.slice p 2 c),24)]→W.cell? ⟨g1,2,none⟩=some (.slice p 2 c)):=fun W hW=>((hW.get 1 rfl).cell 2).trans rfl
   have HD:Hid (∀W,Mem w [] W [(g3,kdA,78),(g1,tcs t (.slice p 2 c),24)]→W.cell? ⟨g3,3,none⟩=some (.int .i64 2)):=fun W hW=>((hW.get 0 rfl).cell 3).trans rfl
   have hn0:decide (n<0)=true:=decide_eq_true hn1
   clear hkk hnn hk9
   refine aq ?_
   refine ao (T:=fun W=>Mem w [] W [(g3,kdA,78),(g1,tcs t (.slice p 2 c),24)]) (by kernel_rfl) hm ?_
   intro wc hbw hmw
   replace hm:Mem w [] wc [(g3,kdA,78),(g1,tcs t (.slice p 2 c),24)]:=hmw
   clear hbw hmw
   refine aT 0 (v:=.pointer (some ⟨g1,0,none⟩)) rfl (by kernel_rfl) rfl (fun W _=>by go_simp) hm ?_
   go_simp
   refine aT 1 (v:=.int .i64 3) rfl (by kernel_rfl) rfl (fun W hW=>ad _ (HC0.out W hW) rfl ag) hm ?_
   go_simp
   refine aT 2 (v:=.bool false) rfl (by kernel_rfl) rfl (fun W _=>by go_simp) hm ?_
   go_simp
   refine aT 3 (v:=.bool false) rfl (by kernel_rfl) rfl (fun W _=>by go_simp) hm ?_
   go_simp
   refine aG 4 (v:=.pointer (some ⟨g1,0,none⟩)) rfl (by kernel_rfl) rfl (fun W _=>by go_simp) hm ?_
   go_simp
   refine aG 5 (v:=.int .i64 3) rfl (by kernel_rfl) rfl (fun W hW=>ad _ (HC0.out W hW) rfl ag) hm ?_
   go_simp
   refine aG 6 (v:=.bool false) rfl (by kernel_rfl) rfl (fun W _=>by go_simp) hm ?_
   go_simp
   refine aT 7 (v:=.bool false) rfl (by kernel_rfl) rfl (fun W _=>by go_simp) hm ?_
   go_simp
   refine aT 8 (v:=.bool false) rfl (by kernel_rfl) rfl (fun W _=>by go_simp) hm ?_
   go_simp
   refine aG 9 (v:=.pointer (some ⟨g1,2,none⟩)) rfl (by kernel_rfl) rfl (fun W _=>by go_simp) hm ?_
   go_simp
   refine aG 10 (v:=.slice p 2 c) rfl (by kernel_rfl) rfl (fun W hW=>ad _ (HC2.out W hW) rfl ah) hm ?_
   go_simp
   refine aG 11 (v:=.int .i64 (2:Int)) rfl (by kernel_rfl) rfl (fun W _=>by go_simp) hm ?_
   go_simp
   refine aG 12 (v:=.pointer (some ⟨g1,0,none⟩)) rfl (by kernel_rfl) rfl (fun W _=>by go_simp) hm ?_
   go_simp
   refine aG 13 (v:=.int .i64 3) rfl (by kernel_rfl) rfl (fun W hW=>ad _ (HC0.out W hW) rfl ag) hm ?_
   go_simp
   refine aG 14 (v:=.pointer (some ⟨g3,3,none⟩)) rfl (by kernel_rfl) rfl (fun W _=>by go_simp) hm ?_
   go_simp
   refine aG 15 (v:=.int .i64 2) rfl (by kernel_rfl) rfl (fun W hW=>ad _ (HD.out W hW) rfl ag) hm ?_
   go_simp
   refine aG 16 (v:=.bool false) rfl (by kernel_rfl) rfl (fun W _=>by go_simp) hm ?_
   go_simp
   refine aT 17 (v:=.bool false) rfl (by kernel_rfl) rfl (fun W _=>by go_simp) hm ?_
   go_simp
   refine aT 18 (v:=.bool false) rfl (by kernel_rfl) rfl (fun W _=>by go_simp) hm ?_
   go_simp
   refine aG 19 (v:=.pointer (some ⟨g1,1,none⟩)) rfl (by kernel_rfl) rfl (fun W _=>by go_simp) hm ?_
   go_simp
   refine aG 20 (v:=.int .i64 n) rfl (by kernel_rfl) rfl (fun W hW=>ad _ (HC1.out W hW) rfl ag) hm ?_
   go_simp
   refine aG 21 (v:=.bool true) rfl (by kernel_rfl) rfl (fun W _=>by go_simp) hm ?_
   go_simp
   refine aT 22 (v:=.bool true) rfl (by kernel_rfl) rfl (fun W _=>by go_simp) hm ?_
   go_simp
   refine aT 23 (v:=.bool true) rfl (by kernel_rfl) rfl (fun W _=>by go_simp) hm ?_
   go_simp
   refine ae 24 rfl (by kernel_rfl) (by kernel_rfl) (by kernel_rfl) rfl hm ?_
   go_simp
   refine ae 25 rfl (by kernel_rfl) (by kernel_rfl) (by kernel_rfl) rfl hm ?_
   go_simp
   refine ae 26 rfl (by kernel_rfl) (by kernel_rfl) (by kernel_rfl) rfl hm ?_
   go_simp
   refine aT 27 (v:=.bool true) rfl (by kernel_rfl) rfl (fun W _=>by go_simp) hm ?_
   go_simp
   refine aT 28 (v:=.bool true) rfl (by kernel_rfl) rfl (fun W _=>by go_simp) hm ?_
   go_simp
   refine ae 29 rfl (by kernel_rfl) (by kernel_rfl) (by kernel_rfl) rfl hm ?_
   go_simp
   refine ae 30 rfl (by kernel_rfl) (by kernel_rfl) (by kernel_rfl) rfl hm ?_
   go_simp
   refine ae 31 rfl (by kernel_rfl) (by kernel_rfl) (by kernel_rfl) rfl hm ?_
   go_simp
   refine ae 32 rfl (by kernel_rfl) (by kernel_rfl) (by kernel_rfl) rfl hm ?_
   go_simp
   refine ae 33 rfl (by kernel_rfl) (by kernel_rfl) (by kernel_rfl) rfl hm ?_
   go_simp
   refine ae 34 rfl (by kernel_rfl) (by kernel_rfl) (by kernel_rfl) rfl hm ?_
   go_simp
   refine ae 35 rfl (by kernel_rfl) (by kernel_rfl) (by kernel_rfl) rfl hm ?_
   go_simp
   refine ae 36 rfl (by kernel_rfl) (by kernel_rfl) (by kernel_rfl) rfl hm ?_
   go_simp
   refine ae 37 rfl (by kernel_rfl) (by kernel_rfl) (by kernel_rfl) rfl hm ?_
   go_simp
   refine ae 38 rfl (by kernel_rfl) (by kernel_rfl) (by kernel_rfl) rfl hm ?_
   go_simp
   refine ae 39 rfl (by kernel_rfl) (by kernel_rfl) (by kernel_rfl) rfl hm ?_
   go_simp
   refine ae 40 rfl (by kernel_rfl) (by kernel_rfl) (by kernel_rfl) rfl hm ?_
   go_simp
   refine ae 41 rfl (by kernel_rfl) (by kernel_rfl) (by kernel_rfl) rfl hm ?_
   go_simp
   refine aT 42 (v:=.bool true) rfl (by kernel_rfl) rfl (fun W _=>by go_simp) hm ?_
   go_simp
   refine wpAnyH_done (by kernel_rfl) ?_ _
   simp only [endsIn]
   go_wp2_with fail
   go_ret
   exact ⟨by rw [HR.out ()];rfl,hm.below⟩
  by_cases hn2:99<n
  ·clear hb
   have HC0:Hid (∀W,Mem w [] W [(g3,kdA,78),(g1,tcs t (.slice p 2 c),24)]→W.cell? ⟨g1,0,none⟩=some (.int .i64 3)):=fun W hW=>by rw [←hk9,hkk];exact ((hW.get 1 rfl).cell 0).trans rfl
   have HC1:Hid (∀W,Mem w [] W [(g3,kdA,78),(g1,tcs t (.slice p 2 c),24)]→W.cell? ⟨g1,1,none⟩=some (.int .i64 n)):=fun W hW=>by rw [hnn];exact ((hW.get 1 rfl).cell 1).trans rfl
   have HC2:Hid (∀W,Mem w [] W [(g3,kdA,78),(g1,tcs t (.slice p 2 c),24)]→W.cell? ⟨g1,2,none⟩=some (.slice p 2 c)):=fun W hW=>((hW.get 1 rfl).cell 2).trans rfl
   have HD:Hid (∀W,Mem w [] W [(g3,kdA,78),(g1,tcs t (.slice p 2 c),24)]→W.cell? ⟨g3,3,none⟩=some (.int .i64 2)):=fun W hW=>((hW.get 0 rfl).cell 3).trans rfl
   have hn0:decide (n<0)=false:=decide_eq_false hn1
   have hn9:decide (99<n)=true:=decide_eq_true hn2
   clear hkk hnn hk9
   refine aq ?_
   refine ao (T:=fun W=>Mem w [] W [(g3,kdA,78),(g1,tcs t (.slice p 2 c),24)]) (by kernel_rfl) hm ?_
   intro wc hbw hmw
   replace hm:Mem w [] wc [(g3,kdA,78),(g1,tcs t (.slice p 2 c),24)]:=hmw
   clear hbw hmw
   refine aT 0 (v:=.pointer (some ⟨g1,0,none⟩)) rfl (by kernel_rfl) rfl (fun W _=>by go_simp) hm ?_
   go_simp
   refine aT 1 (v:=.int .i64 3) rfl (by kernel_rfl) rfl (fun W hW=>ad _ (HC0.out W hW) rfl ag) hm ?_
   go_simp
   refine aT 2 (v:=.bool false) rfl (by kernel_rfl) rfl (fun W _=>by go_simp) hm ?_
   go_simp
   refine aT 3 (v:=.bool false) rfl (by kernel_rfl) rfl (fun W _=>by go_simp) hm ?_
   go_simp
   refine aG 4 (v:=.pointer (some ⟨g1,0,none⟩)) rfl (by kernel_rfl) rfl (fun W _=>by go_simp) hm ?_
   go_simp
   refine aG 5 (v:=.int .i64 3) rfl (by kernel_rfl) rfl (fun W hW=>ad _ (HC0.out W hW) rfl ag) hm ?_
   go_simp
   refine aG 6 (v:=.bool false) rfl (by kernel_rfl) rfl (fun W _=>by go_simp) hm ?_
   go_simp
   refine aT 7 (v:=.bool false) rfl (by kernel_rfl) rfl (fun W _=>by go_simp) hm ?_
   go_simp
   refine aT 8 (v:=.bool false) rfl (by kernel_rfl) rfl (fun W _=>by go_simp) hm ?_
   go_simp
   refine aG 9 (v:=.pointer (some ⟨g1,2,none⟩)) rfl (by kernel_rfl) rfl (fun W _=>by go_simp) hm ?_
   go_simp
   refine aG 10 (v:=.slice p 2 c) rfl (by kernel_rfl) rfl (fun W hW=>ad _ (HC2.out W hW) rfl ah) hm ?_
   go_simp
   refine aG 11 (v:=.int .i64 (2:Int)) rfl (by kernel_rfl) rfl (fun W _=>by go_simp) hm ?_
   go_simp
   refine aG 12 (v:=.pointer (some ⟨g1,0,none⟩)) rfl (by kernel_rfl) rfl (fun W _=>by go_simp) hm ?_
   go_simp
   refine aG 13 (v:=.int .i64 3) rfl (by kernel_rfl) rfl (fun W hW=>ad _ (HC0.out W hW) rfl ag) hm ?_
   go_simp
   refine aG 14 (v:=.pointer (some ⟨g3,3,none⟩)) rfl (by kernel_rfl) rfl (fun W _=>by go_simp) hm ?_
   go_simp
   refine aG 15 (v:=.int .i64 2) rfl (by kernel_rfl) rfl (fun W hW=>ad _ (HD.out W hW) rfl ag) hm ?_
   go_simp
   refine aG 16 (v:=.bool false) rfl (by kernel_rfl) rfl (fun W _=>by go_simp) hm ?_
   go_simp
   refine aT 17 (v:=.bool false) rfl (by kernel_rfl) rfl (fun W _=>by go_simp) hm ?_
   go_simp
   refine aT 18 (v:=.bool false) rfl (by kernel_rfl) rfl (fun W _=>by go_simp) hm ?_
   go_simp
   refine aG 19 (v:=.pointer (some ⟨g1,1,none⟩)) rfl (by kernel_rfl) rfl (fun W _=>by go_simp) hm ?_
   go_simp
   refine aG 20 (v:=.int .i64 n) rfl (by kernel_rfl) rfl (fun W hW=>ad _ (HC1.out W hW) rfl ag) hm ?_
   go_simp
   refine aG 21 (v:=.bool false) rfl (by kernel_rfl) rfl (fun W _=>by go_simp) hm ?_
   go_simp
   refine aT 22 (v:=.bool false) rfl (by kernel_rfl) rfl (fun W _=>by go_simp) hm ?_
   go_simp
   refine aT 23 (v:=.bool false) rfl (by kernel_rfl) rfl (fun W _=>by go_simp) hm ?_
   go_simp
   refine aG 24 (v:=.pointer (some ⟨g1,1,none⟩)) rfl (by kernel_rfl) rfl (fun W _=>by go_simp) hm ?_
   go_simp
   refine aG 25 (v:=.int .i64 n) rfl (by kernel_rfl) rfl (fun W hW=>ad _ (HC1.out W hW) rfl ag) hm ?_
   go_simp
   refine aG 26 (v:=.bool true) rfl (by kernel_rfl) rfl (fun W _=>by go_simp) hm ?_
   go_simp
   refine aT 27 (v:=.bool true) rfl (by kernel_rfl) rfl (fun W _=>by go_simp) hm ?_
   go_simp
   refine aT 28 (v:=.bool true) rfl (by kernel_rfl) rfl (fun W _=>by go_simp) hm ?_
   go_simp
   refine ae 29 rfl (by kernel_rfl) (by kernel_rfl) (by kernel_rfl) rfl hm ?_
   go_simp
   refine ae 30 rfl (by kernel_rfl) (by kernel_rfl) (by kernel_rfl) rfl hm ?_
   go_simp
   refine ae 31 rfl (by kernel_rfl) (by kernel_rfl) (by kernel_rfl) rfl hm ?_
   go_simp
   refine ae 32 rfl (by kernel_rfl) (by kernel_rfl) (by kernel_rfl) rfl hm ?_
   go_simp
   refine ae 33 rfl (by kernel_rfl) (by kernel_rfl) (by kernel_rfl) rfl hm ?_
   go_simp
   refine ae 34 rfl (by kernel_rfl) (by kernel_rfl) (by kernel_rfl) rfl hm ?_
   go_simp
   refine ae 35 rfl (by kernel_rfl) (by kernel_rfl) (by kernel_rfl) rfl hm ?_
   go_simp
   refine ae 36 rfl (by kernel_rfl) (by kernel_rfl) (by kernel_rfl) rfl hm ?_
   go_simp
   refine ae 37 rfl (by kernel_rfl) (by kernel_rfl) (by kernel_rfl) rfl hm ?_
   go_simp
   refine ae 38 rfl (by kernel_rfl) (by kernel_rfl) (by kernel_rfl) rfl hm ?_
   go_simp
   refine ae 39 rfl (by kernel_rfl) (by kernel_rfl) (by kernel_rfl) rfl hm ?_
   go_simp
   refine ae 40 rfl (by kernel_rfl) (by kernel_rfl) (by kernel_rfl) rfl hm ?_
   go_simp
   refine ae 41 rfl (by kernel_rfl) (by kernel_rfl) (by kernel_rfl) rfl hm ?_
   go_simp
   refine aT 42 (v:=.bool true) rfl (by kernel_rfl) rfl (fun W _=>by go_simp) hm ?_
   go_simp
   refine wpAnyH_done (by kernel_rfl) ?_ _
   simp only [endsIn]
   go_wp2_with fail
   go_ret
   exact ⟨by rw [HR.out ()];rfl,hm.below⟩
  have hnz:¬n=0:=by
   intro h
   rw [hk9,h] at hb
   revert hb
   decide
  clear hb
  have HC0:Hid (∀W,Mem w [] W [(g3,kdA,78),(g1,tcs t (.slice p 2 c),24)]→W.cell? ⟨g1,0,none⟩=some (.int .i64 3)):=fun W hW=>by rw [←hk9,hkk];exact ((hW.get 1 rfl).cell 0).trans rfl
  have HC1:Hid (∀W,Mem w [] W [(g3,kdA,78),(g1,tcs t (.slice p 2 c),24)]→W.cell? ⟨g1,1,none⟩=some (.int .i64 n)):=fun W hW=>by rw [hnn];exact ((hW.get 1 rfl).cell 1).trans rfl
  have HC2:Hid (∀W,Mem w [] W [(g3,kdA,78),(g1,tcs t (.slice p 2 c),24)]→W.cell? ⟨g1,2,none⟩=some (.slice p 2 c)):=fun W hW=>((hW.get 1 rfl).cell 2).trans rfl
  have HD:Hid (∀W,Mem w [] W [(g3,kdA,78),(g1,tcs t (.slice p 2 c),24)]→W.cell? ⟨g3,3,none⟩=some (.int .i64 2)):=fun W hW=>((hW.get 0 rfl).cell 3).trans rfl
  have hn0:decide (n<0)=false:=decide_eq_false hn1
  have hn9:decide (99<n)=false:=decide_eq_false hn2
  have hnb:(n==0)=false:=beq_eq_false_iff_ne.2 hnz
  clear hkk hnn hk9
  refine aq ?_
  refine ao (T:=fun W=>Mem w [] W [(g3,kdA,78),(g1,tcs t (.slice p 2 c),24)]) (by kernel_rfl) hm ?_
  intro wc hbw hmw
  replace hm:Mem w [] wc [(g3,kdA,78),(g1,tcs t (.slice p 2 c),24)]:=hmw
  clear hbw hmw
  refine aT 0 (v:=.pointer (some ⟨g1,0,none⟩)) rfl (by kernel_rfl) rfl (fun W _=>by go_simp) hm ?_
  go_simp
  refine aT 1 (v:=.int .i64 3) rfl (by kernel_rfl) rfl (fun W hW=>ad _ (HC0.out W hW) rfl ag) hm ?_
  go_simp
  refine aT 2 (v:=.bool false) rfl (by kernel_rfl) rfl (fun W _=>by go_simp) hm ?_
  go_simp
  refine aT 3 (v:=.bool false) rfl (by kernel_rfl) rfl (fun W _=>by go_simp) hm ?_
  go_simp
  refine aG 4 (v:=.pointer (some ⟨g1,0,none⟩)) rfl (by kernel_rfl) rfl (fun W _=>by go_simp) hm ?_
  go_simp
  refine aG 5 (v:=.int .i64 3) rfl (by kernel_rfl) rfl (fun W hW=>ad _ (HC0.out W hW) rfl ag) hm ?_
  go_simp
  refine aG 6 (v:=.bool false) rfl (by kernel_rfl) rfl (fun W _=>by go_simp) hm ?_
  go_simp
  refine aT 7 (v:=.bool false) rfl (by kernel_rfl) rfl (fun W _=>by go_simp) hm ?_
  go_simp
  refine aT 8 (v:=.bool false) rfl (by kernel_rfl) rfl (fun W _=>by go_simp) hm ?_
  go_simp
  refine aG 9 (v:=.pointer (some ⟨g1,2,none⟩)) rfl (by kernel_rfl) rfl (fun W _=>by go_simp) hm ?_
  go_simp
  refine aG 10 (v:=.slice p 2 c) rfl (by kernel_rfl) rfl (fun W hW=>ad _ (HC2.out W hW) rfl ah) hm ?_
  go_simp
  refine aG 11 (v:=.int .i64 (2:Int)) rfl (by kernel_rfl) rfl (fun W _=>by go_simp) hm ?_
  go_simp
  refine aG 12 (v:=.pointer (some ⟨g1,0,none⟩)) rfl (by kernel_rfl) rfl (fun W _=>by go_simp) hm ?_
  go_simp
  refine aG 13 (v:=.int .i64 3) rfl (by kernel_rfl) rfl (fun W hW=>ad _ (HC0.out W hW) rfl ag) hm ?_
  go_simp
  refine aG 14 (v:=.pointer (some ⟨g3,3,none⟩)) rfl (by kernel_rfl) rfl (fun W _=>by go_simp) hm ?_
  go_simp
  refine aG 15 (v:=.int .i64 2) rfl (by kernel_rfl) rfl (fun W hW=>ad _ (HD.out W hW) rfl ag) hm ?_
  go_simp
  refine aG 16 (v:=.bool false) rfl (by kernel_rfl) rfl (fun W _=>by go_simp) hm ?_
  go_simp
  refine aT 17 (v:=.bool false) rfl (by kernel_rfl) rfl (fun W _=>by go_simp) hm ?_
  go_simp
  refine aT 18 (v:=.bool false) rfl (by kernel_rfl) rfl (fun W _=>by go_simp) hm ?_
  go_simp
  refine aG 19 (v:=.pointer (some ⟨g1,1,none⟩)) rfl (by kernel_rfl) rfl (fun W _=>by go_simp) hm ?_
  go_simp
  refine aG 20 (v:=.int .i64 n) rfl (by kernel_rfl) rfl (fun W hW=>ad _ (HC1.out W hW) rfl ag) hm ?_
  go_simp
  refine aG 21 (v:=.bool false) rfl (by kernel_rfl) rfl (fun W _=>by go_simp) hm ?_
  go_simp
  refine aT 22 (v:=.bool false) rfl (by kernel_rfl) rfl (fun W _=>by go_simp) hm ?_
  go_simp
  refine aT 23 (v:=.bool false) rfl (by kernel_rfl) rfl (fun W _=>by go_simp) hm ?_
  go_simp
  refine aG 24 (v:=.pointer (some ⟨g1,1,none⟩)) rfl (by kernel_rfl) rfl (fun W _=>by go_simp) hm ?_
  go_simp
  refine aG 25 (v:=.int .i64 n) rfl (by kernel_rfl) rfl (fun W hW=>ad _ (HC1.out W hW) rfl ag) hm ?_
  go_simp
  refine aG 26 (v:=.bool false) rfl (by kernel_rfl) rfl (fun W _=>by go_simp) hm ?_
  go_simp
  refine aT 27 (v:=.bool false) rfl (by kernel_rfl) rfl (fun W _=>by go_simp) hm ?_
  go_simp
  refine aT 28 (v:=.bool false) rfl (by kernel_rfl) rfl (fun W _=>by go_simp) hm ?_
  go_simp
  refine aG 29 (v:=.pointer (some ⟨g1,0,none⟩)) rfl (by kernel_rfl) rfl (fun W _=>by go_simp) hm ?_
  go_simp
  refine aG 30 (v:=.int .i64 3) rfl (by kernel_rfl) rfl (fun W hW=>ad _ (HC0.out W hW) rfl ag) hm ?_
  go_simp
  refine aG 31 (v:=.bool true) rfl (by kernel_rfl) rfl (fun W _=>by go_simp) hm ?_
  go_simp
  refine aG 32 (v:=.bool true) rfl (by kernel_rfl) rfl (fun W _=>by go_simp) hm ?_
  go_simp
  refine ae 33 rfl (by kernel_rfl) (by kernel_rfl) (by kernel_rfl) rfl hm ?_
  go_simp
  refine ae 34 rfl (by kernel_rfl) (by kernel_rfl) (by kernel_rfl) rfl hm ?_
  go_simp
  refine ae 35 rfl (by kernel_rfl) (by kernel_rfl) (by kernel_rfl) rfl hm ?_
  go_simp
  refine aG 36 (v:=.bool true) rfl (by kernel_rfl) rfl (fun W _=>by go_simp) hm ?_
  go_simp
  refine aG 37 (v:=.bool true) rfl (by kernel_rfl) rfl (fun W _=>by go_simp) hm ?_
  go_simp
  refine aG 38 (v:=.pointer (some ⟨g1,1,none⟩)) rfl (by kernel_rfl) rfl (fun W _=>by go_simp) hm ?_
  go_simp
  refine aG 39 (v:=.int .i64 n) rfl (by kernel_rfl) rfl (fun W hW=>ad _ (HC1.out W hW) rfl ag) hm ?_
  go_simp
  refine aG 40 (v:=.bool true) rfl (by kernel_rfl) rfl (fun W _=>by go_simp) hm ?_
  go_simp
  refine aG 41 (v:=.bool true) rfl (by kernel_rfl) rfl (fun W _=>by go_simp) hm ?_
  go_simp
  refine aT 42 (v:=.bool true) rfl (by kernel_rfl) rfl (fun W _=>by go_simp) hm ?_
  go_simp
  refine wpAnyH_done (by kernel_rfl) ?_ _
  simp only [endsIn]
  go_wp2_with fail
  go_ret
  exact ⟨by rw [HR.out ()];rfl,hm.below⟩
 ·have hmi:¬((m:Int)=2):=by omega
  have hmb:((m:Int)==2)=false:=beq_eq_false_iff_ne.2 hmi
  clear hb
  have HC0:Hid (∀W,Mem w [] W [(g3,kdA,78),(g1,tcs t (.slice p m c),24)]→W.cell? ⟨g1,0,none⟩=some (.int .i64 3)):=fun W hW=>by rw [←hk9,hkk];exact ((hW.get 1 rfl).cell 0).trans rfl
  have HC1:Hid (∀W,Mem w [] W [(g3,kdA,78),(g1,tcs t (.slice p m c),24)]→W.cell? ⟨g1,1,none⟩=some (.int .i64 n)):=fun W hW=>by rw [hnn];exact ((hW.get 1 rfl).cell 1).trans rfl
  have HC2:Hid (∀W,Mem w [] W [(g3,kdA,78),(g1,tcs t (.slice p m c),24)]→W.cell? ⟨g1,2,none⟩=some (.slice p m c)):=fun W hW=>((hW.get 1 rfl).cell 2).trans rfl
  have HD:Hid (∀W,Mem w [] W [(g3,kdA,78),(g1,tcs t (.slice p m c),24)]→W.cell? ⟨g3,3,none⟩=some (.int .i64 2)):=fun W hW=>((hW.get 0 rfl).cell 3).trans rfl
  clear hkk hnn hk9
  refine aq ?_
  refine ao (T:=fun W=>Mem w [] W [(g3,kdA,78),(g1,tcs t (.slice p m c),24)]) (by kernel_rfl) hm ?_
  intro wc hbw hmw
  replace hm:Mem w [] wc [(g3,kdA,78),(g1,tcs t (.slice p m c),24)]:=hmw
  clear hbw hmw
  refine aT 0 (v:=.pointer (some ⟨g1,0,none⟩)) rfl (by kernel_rfl) rfl (fun W _=>by go_simp) hm ?_
  go_simp
  refine aT 1 (v:=.int .i64 3) rfl (by kernel_rfl) rfl (fun W hW=>ad _ (HC0.out W hW) rfl ag) hm ?_
  go_simp
  refine aT 2 (v:=.bool false) rfl (by kernel_rfl) rfl (fun W _=>by go_simp) hm ?_
  go_simp
  refine aT 3 (v:=.bool false) rfl (by kernel_rfl) rfl (fun W _=>by go_simp) hm ?_
  go_simp
  refine aG 4 (v:=.pointer (some ⟨g1,0,none⟩)) rfl (by kernel_rfl) rfl (fun W _=>by go_simp) hm ?_
  go_simp
  refine aG 5 (v:=.int .i64 3) rfl (by kernel_rfl) rfl (fun W hW=>ad _ (HC0.out W hW) rfl ag) hm ?_
  go_simp
  refine aG 6 (v:=.bool false) rfl (by kernel_rfl) rfl (fun W _=>by go_simp) hm ?_
  go_simp
  refine aT 7 (v:=.bool false) rfl (by kernel_rfl) rfl (fun W _=>by go_simp) hm ?_
  go_simp
  refine aT 8 (v:=.bool false) rfl (by kernel_rfl) rfl (fun W _=>by go_simp) hm ?_
  go_simp
  refine aG 9 (v:=.pointer (some ⟨g1,2,none⟩)) rfl (by kernel_rfl) rfl (fun W _=>by go_simp) hm ?_
  go_simp
  refine aG 10 (v:=.slice p m c) rfl (by kernel_rfl) rfl (fun W hW=>ad _ (HC2.out W hW) rfl ah) hm ?_
  go_simp
  refine aG 11 (v:=.int .i64 (m:Int)) rfl (by kernel_rfl) rfl (fun W _=>by go_simp) hm ?_
  go_simp
  refine aG 12 (v:=.pointer (some ⟨g1,0,none⟩)) rfl (by kernel_rfl) rfl (fun W _=>by go_simp) hm ?_
  go_simp
  refine aG 13 (v:=.int .i64 3) rfl (by kernel_rfl) rfl (fun W hW=>ad _ (HC0.out W hW) rfl ag) hm ?_
  go_simp
  refine aG 14 (v:=.pointer (some ⟨g3,3,none⟩)) rfl (by kernel_rfl) rfl (fun W _=>by go_simp) hm ?_
  go_simp
  refine aG 15 (v:=.int .i64 2) rfl (by kernel_rfl) rfl (fun W hW=>ad _ (HD.out W hW) rfl ag) hm ?_
  go_simp
  refine aG 16 (v:=.bool true) rfl (by kernel_rfl) rfl (fun W _=>by go_simp) hm ?_
  go_simp
  refine aT 17 (v:=.bool true) rfl (by kernel_rfl) rfl (fun W _=>by go_simp) hm ?_
  go_simp
  refine aT 18 (v:=.bool true) rfl (by kernel_rfl) rfl (fun W _=>by go_simp) hm ?_
  go_simp
  refine ae 19 rfl (by kernel_rfl) (by kernel_rfl) (by kernel_rfl) rfl hm ?_
  go_simp
  refine ae 20 rfl (by kernel_rfl) (by kernel_rfl) (by kernel_rfl) rfl hm ?_
  go_simp
  refine ae 21 rfl (by kernel_rfl) (by kernel_rfl) (by kernel_rfl) rfl hm ?_
  go_simp
  refine aT 22 (v:=.bool true) rfl (by kernel_rfl) rfl (fun W _=>by go_simp) hm ?_
  go_simp
  refine aT 23 (v:=.bool true) rfl (by kernel_rfl) rfl (fun W _=>by go_simp) hm ?_
  go_simp
  refine ae 24 rfl (by kernel_rfl) (by kernel_rfl) (by kernel_rfl) rfl hm ?_
  go_simp
  refine ae 25 rfl (by kernel_rfl) (by kernel_rfl) (by kernel_rfl) rfl hm ?_
  go_simp
  refine ae 26 rfl (by kernel_rfl) (by kernel_rfl) (by kernel_rfl) rfl hm ?_
  go_simp
  refine aT 27 (v:=.bool true) rfl (by kernel_rfl) rfl (fun W _=>by go_simp) hm ?_
  go_simp
  refine aT 28 (v:=.bool true) rfl (by kernel_rfl) rfl (fun W _=>by go_simp) hm ?_
  go_simp
  refine ae 29 rfl (by kernel_rfl) (by kernel_rfl) (by kernel_rfl) rfl hm ?_
  go_simp
  refine ae 30 rfl (by kernel_rfl) (by kernel_rfl) (by kernel_rfl) rfl hm ?_
  go_simp
  refine ae 31 rfl (by kernel_rfl) (by kernel_rfl) (by kernel_rfl) rfl hm ?_
  go_simp
  refine ae 32 rfl (by kernel_rfl) (by kernel_rfl) (by kernel_rfl) rfl hm ?_
  go_simp
  refine ae 33 rfl (by kernel_rfl) (by kernel_rfl) (by kernel_rfl) rfl hm ?_
  go_simp
  refine ae 34 rfl (by kernel_rfl) (by kernel_rfl) (by kernel_rfl) rfl hm ?_
  go_simp
  refine ae 35 rfl (by kernel_rfl) (by kernel_rfl) (by kernel_rfl) rfl hm ?_
  go_simp
  refine ae 36 rfl (by kernel_rfl) (by kernel_rfl) (by kernel_rfl) rfl hm ?_
  go_simp
  refine ae 37 rfl (by kernel_rfl) (by kernel_rfl) (by kernel_rfl) rfl hm ?_
  go_simp
  refine ae 38 rfl (by kernel_rfl) (by kernel_rfl) (by kernel_rfl) rfl hm ?_
  go_simp
  refine ae 39 rfl (by kernel_rfl) (by kernel_rfl) (by kernel_rfl) rfl hm ?_
  go_simp
  refine ae 40 rfl (by kernel_rfl) (by kernel_rfl) (by kernel_rfl) rfl hm ?_
  go_simp
  refine ae 41 rfl (by kernel_rfl) (by kernel_rfl) (by kernel_rfl) rfl hm ?_
  go_simp
  refine aT 42 (v:=.bool true) rfl (by kernel_rfl) rfl (fun W _=>by go_simp) hm ?_
  go_simp
  refine wpAnyH_done (by kernel_rfl) ?_ _
  simp only [endsIn]
  go_wp2_with fail
  go_ret
  exact ⟨by rw [HR.out ()];rfl,hm.below⟩
open Go Go.RowKit
theorem each_b4 {F:Nat→Prop} (t:Tm) (s:Value) (w:World) (hs:SlT F w s t.l) (hb:okF t.k t.n t.l.length=false) (hk9:t.k=4) :
  Calls Tryz.prog 39 #[.agg (tcs t s).toArray] w fun e w'=>e=.returned (.bool (okT t))∧Below w.heap.size w w':=by
 have HR:Hid (∀_:Unit,okT t=false):=fun _=>et hb
 obtain ⟨p,c,rfl,_⟩:=hs.len
 obtain ⟨m,hml⟩:∃m,m=t.l.length:=⟨_,rfl⟩
 obtain ⟨k,hkk⟩:∃k,k=t.k:=⟨_,rfl⟩
 obtain ⟨n,hnn⟩:∃n,n=t.n:=⟨_,rfl⟩
 rw [←hml,←hkk,←hnn] at hb
 rw [←hkk] at hk9
 rw [←hml]
 clear hs hml
 have hm:=Mem.start w
 go_enter Tryz.func39,Tryz.ntmps39
 go_wp2_with (first
  | ((with_reducible refine af (some 1) (.box 24 (.tmp 0)) ?_);go_must (refine aw (tcs t (.slice p m c)) rfl hm ?_);clear hm;intro w1 g1 hm)
  | ((with_reducible refine af (some 3) (.alloc 78) ?_);go_must (refine ap _ cX hm ?_);clear hm;intro w2 g3 hm)
  | ((with_reducible refine af none (.store 78 (.tmp 3) (.tmp 5)) ?_);go_must (refine au 0 kdA hm rfl rfl rfl 6 sz_a6 rfl rfl cT ?_);clear hm;intro w4 hm))
 by_cases hmk:m=2
 ·subst hmk
  by_cases hn1:n<0
  ·clear hb
   have HC0:Hid (∀W,Mem w [] W [(g3,kdA,78),(g1,tcs t (.slice p 2 c),24)]→W.cell? ⟨g1,0,none⟩=some (.int .i64 4)):=fun W hW=>by rw [←hk9,hkk];exact ((hW.get 1 rfl).cell 0).trans rfl
   have HC1:Hid (∀W,Mem w [] W [(g3,kdA,78),(g1,tcs t (.slice p 2 c),24)]→W.cell? ⟨g1,1,none⟩=some (.int .i64 n)):=fun W hW=>by rw [hnn];exact ((hW.get 1 rfl).cell 1).trans rfl
   have HC2:Hid (∀W,Mem w [] W [(g3,kdA,78),(g1,tcs t (.slice p 2 c),24)]→W.cell? ⟨g1,2,none⟩=some (.slice p 2 c)):=fun W hW=>((hW.get 1 rfl).cell 2).trans rfl
   have HD:Hid (∀W,Mem w [] W [(g3,kdA,78),(g1,tcs t (.slice p 2 c),24)]→W.cell? ⟨g3,4,none⟩=some (.int .i64 2)):=fun W hW=>((hW.get 0 rfl).cell 4).trans rfl
   have hn0:decide (n<0)=true:=decide_eq_true hn1
   clear hkk hnn hk9
   refine aq ?_
   refine ao (T:=fun W=>Mem w [] W [(g3,kdA,78),(g1,tcs t (.slice p 2 c),24)]) (by kernel_rfl) hm ?_
   intro wc hbw hmw
   replace hm:Mem w [] wc [(g3,kdA,78),(g1,tcs t (.slice p 2 c),24)]:=hmw
   clear hbw hmw
   refine aT 0 (v:=.pointer (some ⟨g1,0,none⟩)) rfl (by kernel_rfl) rfl (fun W _=>by go_simp) hm ?_
   go_simp
   refine aT 1 (v:=.int .i64 4) rfl (by kernel_rfl) rfl (fun W hW=>ad _ (HC0.out W hW) rfl ag) hm ?_
   go_simp
   refine aT 2 (v:=.bool false) rfl (by kernel_rfl) rfl (fun W _=>by go_simp) hm ?_
   go_simp
   refine aT 3 (v:=.bool false) rfl (by kernel_rfl) rfl (fun W _=>by go_simp) hm ?_
   go_simp
   refine aG 4 (v:=.pointer (some ⟨g1,0,none⟩)) rfl (by kernel_rfl) rfl (fun W _=>by go_simp) hm ?_
   go_simp
   refine aG 5 (v:=.int .i64 4) rfl (by kernel_rfl) rfl (fun W hW=>ad _ (HC0.out W hW) rfl ag) hm ?_
   go_simp
   refine aG 6 (v:=.bool false) rfl (by kernel_rfl) rfl (fun W _=>by go_simp) hm ?_
   go_simp
   refine aT 7 (v:=.bool false) rfl (by kernel_rfl) rfl (fun W _=>by go_simp) hm ?_
   go_simp
   refine aT 8 (v:=.bool false) rfl (by kernel_rfl) rfl (fun W _=>by go_simp) hm ?_
   go_simp
   refine aG 9 (v:=.pointer (some ⟨g1,2,none⟩)) rfl (by kernel_rfl) rfl (fun W _=>by go_simp) hm ?_
   go_simp
   refine aG 10 (v:=.slice p 2 c) rfl (by kernel_rfl) rfl (fun W hW=>ad _ (HC2.out W hW) rfl ah) hm ?_
   go_simp
   refine aG 11 (v:=.int .i64 (2:Int)) rfl (by kernel_rfl) rfl (fun W _=>by go_simp) hm ?_
   go_simp
   refine aG 12 (v:=.pointer (some ⟨g1,0,none⟩)) rfl (by kernel_rfl) rfl (fun W _=>by go_simp) hm ?_
   go_simp
   refine aG 13 (v:=.int .i64 4) rfl (by kernel_rfl) rfl (fun W hW=>ad _ (HC0.out W hW) rfl ag) hm ?_
   go_simp
   refine aG 14 (v:=.pointer (some ⟨g3,4,none⟩)) rfl (by kernel_rfl) rfl (fun W _=>by go_simp) hm ?_
   go_simp
   refine aG 15 (v:=.int .i64 2) rfl (by kernel_rfl) rfl (fun W hW=>ad _ (HD.out W hW) rfl ag) hm ?_
   go_simp
   refine aG 16 (v:=.bool false) rfl (by kernel_rfl) rfl (fun W _=>by go_simp) hm ?_
   go_simp
   refine aT 17 (v:=.bool false) rfl (by kernel_rfl) rfl (fun W _=>by go_simp) hm ?_
   go_simp
   refine aT 18 (v:=.bool false) rfl (by kernel_rfl) rfl (fun W _=>by go_simp) hm ?_
   go_simp
   refine aG 19 (v:=.pointer (some ⟨g1,1,none⟩)) rfl (by kernel_rfl) rfl (fun W _=>by go_simp) hm ?_
   go_simp
   refine aG 20 (v:=.int .i64 n) rfl (by kernel_rfl) rfl (fun W hW=>ad _ (HC1.out W hW) rfl ag) hm ?_
   go_simp
   refine aG 21 (v:=.bool true) rfl (by kernel_rfl) rfl (fun W _=>by go_simp) hm ?_
   go_simp
   refine aT 22 (v:=.bool true) rfl (by kernel_rfl) rfl (fun W _=>by go_simp) hm ?_
   go_simp
   refine aT 23 (v:=.bool true) rfl (by kernel_rfl) rfl (fun W _=>by go_simp) hm ?_
   go_simp
   refine ae 24 rfl (by kernel_rfl) (by kernel_rfl) (by kernel_rfl) rfl hm ?_
   go_simp
   refine ae 25 rfl (by kernel_rfl) (by kernel_rfl) (by kernel_rfl) rfl hm ?_
   go_simp
   refine ae 26 rfl (by kernel_rfl) (by kernel_rfl) (by kernel_rfl) rfl hm ?_
   go_simp
   refine aT 27 (v:=.bool true) rfl (by kernel_rfl) rfl (fun W _=>by go_simp) hm ?_
   go_simp
   refine aT 28 (v:=.bool true) rfl (by kernel_rfl) rfl (fun W _=>by go_simp) hm ?_
   go_simp
   refine ae 29 rfl (by kernel_rfl) (by kernel_rfl) (by kernel_rfl) rfl hm ?_
   go_simp
   refine ae 30 rfl (by kernel_rfl) (by kernel_rfl) (by kernel_rfl) rfl hm ?_
   go_simp
   refine ae 31 rfl (by kernel_rfl) (by kernel_rfl) (by kernel_rfl) rfl hm ?_
   go_simp
   refine ae 32 rfl (by kernel_rfl) (by kernel_rfl) (by kernel_rfl) rfl hm ?_
   go_simp
   refine ae 33 rfl (by kernel_rfl) (by kernel_rfl) (by kernel_rfl) rfl hm ?_
   go_simp
   refine ae 34 rfl (by kernel_rfl) (by kernel_rfl) (by kernel_rfl) rfl hm ?_
   go_simp
   refine ae 35 rfl (by kernel_rfl) (by kernel_rfl) (by kernel_rfl) rfl hm ?_
   go_simp
   refine ae 36 rfl (by kernel_rfl) (by kernel_rfl) (by kernel_rfl) rfl hm ?_
   go_simp
   refine ae 37 rfl (by kernel_rfl) (by kernel_rfl) (by kernel_rfl) rfl hm ?_
   go_simp
   refine ae 38 rfl (by kernel_rfl) (by kernel_rfl) (by kernel_rfl) rfl hm ?_
   go_simp
   refine ae 39 rfl (by kernel_rfl) (by kernel_rfl) (by kernel_rfl) rfl hm ?_
   go_simp
   refine ae 40 rfl (by kernel_rfl) (by kernel_rfl) (by kernel_rfl) rfl hm ?_
   go_simp
   refine ae 41 rfl (by kernel_rfl) (by kernel_rfl) (by kernel_rfl) rfl hm ?_
   go_simp
   refine aT 42 (v:=.bool true) rfl (by kernel_rfl) rfl (fun W _=>by go_simp) hm ?_
   go_simp
   refine wpAnyH_done (by kernel_rfl) ?_ _
   simp only [endsIn]
   go_wp2_with fail
   go_ret
   exact ⟨by rw [HR.out ()];rfl,hm.below⟩
  by_cases hn2:99<n
  ·clear hb
   have HC0:Hid (∀W,Mem w [] W [(g3,kdA,78),(g1,tcs t (.slice p 2 c),24)]→W.cell? ⟨g1,0,none⟩=some (.int .i64 4)):=fun W hW=>by rw [←hk9,hkk];exact ((hW.get 1 rfl).cell 0).trans rfl
   have HC1:Hid (∀W,Mem w [] W [(g3,kdA,78),(g1,tcs t (.slice p 2 c),24)]→W.cell? ⟨g1,1,none⟩=some (.int .i64 n)):=fun W hW=>by rw [hnn];exact ((hW.get 1 rfl).cell 1).trans rfl
   have HC2:Hid (∀W,Mem w [] W [(g3,kdA,78),(g1,tcs t (.slice p 2 c),24)]→W.cell? ⟨g1,2,none⟩=some (.slice p 2 c)):=fun W hW=>((hW.get 1 rfl).cell 2).trans rfl
   have HD:Hid (∀W,Mem w [] W [(g3,kdA,78),(g1,tcs t (.slice p 2 c),24)]→W.cell? ⟨g3,4,none⟩=some (.int .i64 2)):=fun W hW=>((hW.get 0 rfl).cell 4).trans rfl
   have hn0:decide (n<0)=false:=decide_eq_false hn1
   have hn9:decide (99<n)=true:=decide_eq_true hn2
   clear hkk hnn hk9
   refine aq ?_
   refine ao (T:=fun W=>Mem w [] W [(g3,kdA,78),(g1,tcs t (.slice p 2 c),24)]) (by kernel_rfl) hm ?_
   intro wc hbw hmw
   replace hm:Mem w [] wc [(g3,kdA,78),(g1,tcs t (.slice p 2 c),24)]:=hmw
   clear hbw hmw
   refine aT 0 (v:=.pointer (some ⟨g1,0,none⟩)) rfl (by kernel_rfl) rfl (fun W _=>by go_simp) hm ?_
   go_simp
   refine aT 1 (v:=.int .i64 4) rfl (by kernel_rfl) rfl (fun W hW=>ad _ (HC0.out W hW) rfl ag) hm ?_
   go_simp
   refine aT 2 (v:=.bool false) rfl (by kernel_rfl) rfl (fun W _=>by go_simp) hm ?_
   go_simp
   refine aT 3 (v:=.bool false) rfl (by kernel_rfl) rfl (fun W _=>by go_simp) hm ?_
   go_simp
   refine aG 4 (v:=.pointer (some ⟨g1,0,none⟩)) rfl (by kernel_rfl) rfl (fun W _=>by go_simp) hm ?_
   go_simp
   refine aG 5 (v:=.int .i64 4) rfl (by kernel_rfl) rfl (fun W hW=>ad _ (HC0.out W hW) rfl ag) hm ?_
   go_simp
   refine aG 6 (v:=.bool false) rfl (by kernel_rfl) rfl (fun W _=>by go_simp) hm ?_
   go_simp
   refine aT 7 (v:=.bool false) rfl (by kernel_rfl) rfl (fun W _=>by go_simp) hm ?_
   go_simp
   refine aT 8 (v:=.bool false) rfl (by kernel_rfl) rfl (fun W _=>by go_simp) hm ?_
   go_simp
   refine aG 9 (v:=.pointer (some ⟨g1,2,none⟩)) rfl (by kernel_rfl) rfl (fun W _=>by go_simp) hm ?_
   go_simp
   refine aG 10 (v:=.slice p 2 c) rfl (by kernel_rfl) rfl (fun W hW=>ad _ (HC2.out W hW) rfl ah) hm ?_
   go_simp
   refine aG 11 (v:=.int .i64 (2:Int)) rfl (by kernel_rfl) rfl (fun W _=>by go_simp) hm ?_
   go_simp
   refine aG 12 (v:=.pointer (some ⟨g1,0,none⟩)) rfl (by kernel_rfl) rfl (fun W _=>by go_simp) hm ?_
   go_simp
   refine aG 13 (v:=.int .i64 4) rfl (by kernel_rfl) rfl (fun W hW=>ad _ (HC0.out W hW) rfl ag) hm ?_
   go_simp
   refine aG 14 (v:=.pointer (some ⟨g3,4,none⟩)) rfl (by kernel_rfl) rfl (fun W _=>by go_simp) hm ?_
   go_simp
   refine aG 15 (v:=.int .i64 2) rfl (by kernel_rfl) rfl (fun W hW=>ad _ (HD.out W hW) rfl ag) hm ?_
   go_simp
   refine aG 16 (v:=.bool false) rfl (by kernel_rfl) rfl (fun W _=>by go_simp) hm ?_
   go_simp
   refine aT 17 (v:=.bool false) rfl (by kernel_rfl) rfl (fun W _=>by go_simp) hm ?_
   go_simp
   refine aT 18 (v:=.bool false) rfl (by kernel_rfl) rfl (fun W _=>by go_simp) hm ?_
   go_simp
   refine aG 19 (v:=.pointer (some ⟨g1,1,none⟩)) rfl (by kernel_rfl) rfl (fun W _=>by go_simp) hm ?_
   go_simp
   refine aG 20 (v:=.int .i64 n) rfl (by kernel_rfl) rfl (fun W hW=>ad _ (HC1.out W hW) rfl ag) hm ?_
   go_simp
   refine aG 21 (v:=.bool false) rfl (by kernel_rfl) rfl (fun W _=>by go_simp) hm ?_
   go_simp
   refine aT 22 (v:=.bool false) rfl (by kernel_rfl) rfl (fun W _=>by go_simp) hm ?_
   go_simp
   refine aT 23 (v:=.bool false) rfl (by kernel_rfl) rfl (fun W _=>by go_simp) hm ?_
   go_simp
   refine aG 24 (v:=.pointer (some ⟨g1,1,none⟩)) rfl (by kernel_rfl) rfl (fun W _=>by go_simp) hm ?_
   go_simp
   refine aG 25 (v:=.int .i64 n) rfl (by kernel_rfl) rfl (fun W hW=>ad _ (HC1.out W hW) rfl ag) hm ?_
   go_simp
   refine aG 26 (v:=.bool true) rfl (by kernel_rfl) rfl (fun W _=>by go_simp) hm ?_
   go_simp
   refine aT 27 (v:=.bool true) rfl (by kernel_rfl) rfl (fun W _=>by go_simp) hm ?_
   go_simp
   refine aT 28 (v:=.bool true) rfl (by kernel_rfl) rfl (fun W _=>by go_simp) hm ?_
   go_simp
   refine ae 29 rfl (by kernel_rfl) (by kernel_rfl) (by kernel_rfl) rfl hm ?_
   go_simp
   refine ae 30 rfl (by kernel_rfl) (by kernel_rfl) (by kernel_rfl) rfl hm ?_
   go_simp
   refine ae 31 rfl (by kernel_rfl) (by kernel_rfl) (by kernel_rfl) rfl hm ?_
   go_simp
   refine ae 32 rfl (by kernel_rfl) (by kernel_rfl) (by kernel_rfl) rfl hm ?_
   go_simp
   refine ae 33 rfl (by kernel_rfl) (by kernel_rfl) (by kernel_rfl) rfl hm ?_
   go_simp
   refine ae 34 rfl (by kernel_rfl) (by kernel_rfl) (by kernel_rfl) rfl hm ?_
   go_simp
   refine ae 35 rfl (by kernel_rfl) (by kernel_rfl) (by kernel_rfl) rfl hm ?_
   go_simp
   refine ae 36 rfl (by kernel_rfl) (by kernel_rfl) (by kernel_rfl) rfl hm ?_
   go_simp
   refine ae 37 rfl (by kernel_rfl) (by kernel_rfl) (by kernel_rfl) rfl hm ?_
   go_simp
   refine ae 38 rfl (by kernel_rfl) (by kernel_rfl) (by kernel_rfl) rfl hm ?_
   go_simp
   refine ae 39 rfl (by kernel_rfl) (by kernel_rfl) (by kernel_rfl) rfl hm ?_
   go_simp
   refine ae 40 rfl (by kernel_rfl) (by kernel_rfl) (by kernel_rfl) rfl hm ?_
   go_simp
   refine ae 41 rfl (by kernel_rfl) (by kernel_rfl) (by kernel_rfl) rfl hm ?_
   go_simp
   refine aT 42 (v:=.bool true) rfl (by kernel_rfl) rfl (fun W _=>by go_simp) hm ?_
   go_simp
   refine wpAnyH_done (by kernel_rfl) ?_ _
   simp only [endsIn]
   go_wp2_with fail
   go_ret
   exact ⟨by rw [HR.out ()];rfl,hm.below⟩
  have hnz:¬n=0:=by
   intro h
   rw [hk9,h] at hb
   revert hb
   decide
  clear hb
  have HC0:Hid (∀W,Mem w [] W [(g3,kdA,78),(g1,tcs t (.slice p 2 c),24)]→W.cell? ⟨g1,0,none⟩=some (.int .i64 4)):=fun W hW=>by rw [←hk9,hkk];exact ((hW.get 1 rfl).cell 0).trans rfl
  have HC1:Hid (∀W,Mem w [] W [(g3,kdA,78),(g1,tcs t (.slice p 2 c),24)]→W.cell? ⟨g1,1,none⟩=some (.int .i64 n)):=fun W hW=>by rw [hnn];exact ((hW.get 1 rfl).cell 1).trans rfl
  have HC2:Hid (∀W,Mem w [] W [(g3,kdA,78),(g1,tcs t (.slice p 2 c),24)]→W.cell? ⟨g1,2,none⟩=some (.slice p 2 c)):=fun W hW=>((hW.get 1 rfl).cell 2).trans rfl
  have HD:Hid (∀W,Mem w [] W [(g3,kdA,78),(g1,tcs t (.slice p 2 c),24)]→W.cell? ⟨g3,4,none⟩=some (.int .i64 2)):=fun W hW=>((hW.get 0 rfl).cell 4).trans rfl
  have hn0:decide (n<0)=false:=decide_eq_false hn1
  have hn9:decide (99<n)=false:=decide_eq_false hn2
  have hnb:(n==0)=false:=beq_eq_false_iff_ne.2 hnz
  clear hkk hnn hk9
  refine aq ?_
  refine ao (T:=fun W=>Mem w [] W [(g3,kdA,78),(g1,tcs t (.slice p 2 c),24)]) (by kernel_rfl) hm ?_
  intro wc hbw hmw
  replace hm:Mem w [] wc [(g3,kdA,78),(g1,tcs t (.slice p 2 c),24)]:=hmw
  clear hbw hmw
  refine aT 0 (v:=.pointer (some ⟨g1,0,none⟩)) rfl (by kernel_rfl) rfl (fun W _=>by go_simp) hm ?_
  go_simp
  refine aT 1 (v:=.int .i64 4) rfl (by kernel_rfl) rfl (fun W hW=>ad _ (HC0.out W hW) rfl ag) hm ?_
  go_simp
  refine aT 2 (v:=.bool false) rfl (by kernel_rfl) rfl (fun W _=>by go_simp) hm ?_
  go_simp
  refine aT 3 (v:=.bool false) rfl (by kernel_rfl) rfl (fun W _=>by go_simp) hm ?_
  go_simp
  refine aG 4 (v:=.pointer (some ⟨g1,0,none⟩)) rfl (by kernel_rfl) rfl (fun W _=>by go_simp) hm ?_
  go_simp
  refine aG 5 (v:=.int .i64 4) rfl (by kernel_rfl) rfl (fun W hW=>ad _ (HC0.out W hW) rfl ag) hm ?_
  go_simp
  refine aG 6 (v:=.bool false) rfl (by kernel_rfl) rfl (fun W _=>by go_simp) hm ?_
  go_simp
  refine aT 7 (v:=.bool false) rfl (by kernel_rfl) rfl (fun W _=>by go_simp) hm ?_
  go_simp
  refine aT 8 (v:=.bool false) rfl (by kernel_rfl) rfl (fun W _=>by go_simp) hm ?_
  go_simp
  refine aG 9 (v:=.pointer (some ⟨g1,2,none⟩)) rfl (by kernel_rfl) rfl (fun W _=>by go_simp) hm ?_
  go_simp
  refine aG 10 (v:=.slice p 2 c) rfl (by kernel_rfl) rfl (fun W hW=>ad _ (HC2.out W hW) rfl ah) hm ?_
  go_simp
  refine aG 11 (v:=.int .i64 (2:Int)) rfl (by kernel_rfl) rfl (fun W _=>by go_simp) hm ?_
  go_simp
  refine aG 12 (v:=.pointer (some ⟨g1,0,none⟩)) rfl (by kernel_rfl) rfl (fun W _=>by go_simp) hm ?_
  go_simp
  refine aG 13 (v:=.int .i64 4) rfl (by kernel_rfl) rfl (fun W hW=>ad _ (HC0.out W hW) rfl ag) hm ?_
  go_simp
  refine aG 14 (v:=.pointer (some ⟨g3,4,none⟩)) rfl (by kernel_rfl) rfl (fun W _=>by go_simp) hm ?_
  go_simp
  refine aG 15 (v:=.int .i64 2) rfl (by kernel_rfl) rfl (fun W hW=>ad _ (HD.out W hW) rfl ag) hm ?_
  go_simp
  refine aG 16 (v:=.bool false) rfl (by kernel_rfl) rfl (fun W _=>by go_simp) hm ?_
  go_simp
  refine aT 17 (v:=.bool false) rfl (by kernel_rfl) rfl (fun W _=>by go_simp) hm ?_
  go_simp
  refine aT 18 (v:=.bool false) rfl (by kernel_rfl) rfl (fun W _=>by go_simp) hm ?_
  go_simp
  refine aG 19 (v:=.pointer (some ⟨g1,1,none⟩)) rfl (by kernel_rfl) rfl (fun W _=>by go_simp) hm ?_
  go_simp
  refine aG 20 (v:=.int .i64 n) rfl (by kernel_rfl) rfl (fun W hW=>ad _ (HC1.out W hW) rfl ag) hm ?_
  go_simp
  refine aG 21 (v:=.bool false) rfl (by kernel_rfl) rfl (fun W _=>by go_simp) hm ?_
  go_simp
  refine aT 22 (v:=.bool false) rfl (by kernel_rfl) rfl (fun W _=>by go_simp) hm ?_
  go_simp
  refine aT 23 (v:=.bool false) rfl (by kernel_rfl) rfl (fun W _=>by go_simp) hm ?_
  go_simp
  refine aG 24 (v:=.pointer (some ⟨g1,1,none⟩)) rfl (by kernel_rfl) rfl (fun W _=>by go_simp) hm ?_
  go_simp
  refine aG 25 (v:=.int .i64 n) rfl (by kernel_rfl) rfl (fun W hW=>ad _ (HC1.out W hW) rfl ag) hm ?_
  go_simp
  refine aG 26 (v:=.bool false) rfl (by kernel_rfl) rfl (fun W _=>by go_simp) hm ?_
  go_simp
  refine aT 27 (v:=.bool false) rfl (by kernel_rfl) rfl (fun W _=>by go_simp) hm ?_
  go_simp
  refine aT 28 (v:=.bool false) rfl (by kernel_rfl) rfl (fun W _=>by go_simp) hm ?_
  go_simp
  refine aG 29 (v:=.pointer (some ⟨g1,0,none⟩)) rfl (by kernel_rfl) rfl (fun W _=>by go_simp) hm ?_
  go_simp
  refine aG 30 (v:=.int .i64 4) rfl (by kernel_rfl) rfl (fun W hW=>ad _ (HC0.out W hW) rfl ag) hm ?_
  go_simp
  refine aG 31 (v:=.bool false) rfl (by kernel_rfl) rfl (fun W _=>by go_simp) hm ?_
  go_simp
  refine aG 32 (v:=.bool false) rfl (by kernel_rfl) rfl (fun W _=>by go_simp) hm ?_
  go_simp
  refine aG 33 (v:=.pointer (some ⟨g1,0,none⟩)) rfl (by kernel_rfl) rfl (fun W _=>by go_simp) hm ?_
  go_simp
  refine aG 34 (v:=.int .i64 4) rfl (by kernel_rfl) rfl (fun W hW=>ad _ (HC0.out W hW) rfl ag) hm ?_
  go_simp
  refine aG 35 (v:=.bool true) rfl (by kernel_rfl) rfl (fun W _=>by go_simp) hm ?_
  go_simp
  refine aG 36 (v:=.bool true) rfl (by kernel_rfl) rfl (fun W _=>by go_simp) hm ?_
  go_simp
  refine aG 37 (v:=.bool true) rfl (by kernel_rfl) rfl (fun W _=>by go_simp) hm ?_
  go_simp
  refine aG 38 (v:=.pointer (some ⟨g1,1,none⟩)) rfl (by kernel_rfl) rfl (fun W _=>by go_simp) hm ?_
  go_simp
  refine aG 39 (v:=.int .i64 n) rfl (by kernel_rfl) rfl (fun W hW=>ad _ (HC1.out W hW) rfl ag) hm ?_
  go_simp
  refine aG 40 (v:=.bool true) rfl (by kernel_rfl) rfl (fun W _=>by go_simp) hm ?_
  go_simp
  refine aG 41 (v:=.bool true) rfl (by kernel_rfl) rfl (fun W _=>by go_simp) hm ?_
  go_simp
  refine aT 42 (v:=.bool true) rfl (by kernel_rfl) rfl (fun W _=>by go_simp) hm ?_
  go_simp
  refine wpAnyH_done (by kernel_rfl) ?_ _
  simp only [endsIn]
  go_wp2_with fail
  go_ret
  exact ⟨by rw [HR.out ()];rfl,hm.below⟩
 ·have hmi:¬((m:Int)=2):=by omega
  have hmb:((m:Int)==2)=false:=beq_eq_false_iff_ne.2 hmi
  clear hb
  have HC0:Hid (∀W,Mem w [] W [(g3,kdA,78),(g1,tcs t (.slice p m c),24)]→W.cell? ⟨g1,0,none⟩=some (.int .i64 4)):=fun W hW=>by rw [←hk9,hkk];exact ((hW.get 1 rfl).cell 0).trans rfl
  have HC1:Hid (∀W,Mem w [] W [(g3,kdA,78),(g1,tcs t (.slice p m c),24)]→W.cell? ⟨g1,1,none⟩=some (.int .i64 n)):=fun W hW=>by rw [hnn];exact ((hW.get 1 rfl).cell 1).trans rfl
  have HC2:Hid (∀W,Mem w [] W [(g3,kdA,78),(g1,tcs t (.slice p m c),24)]→W.cell? ⟨g1,2,none⟩=some (.slice p m c)):=fun W hW=>((hW.get 1 rfl).cell 2).trans rfl
  have HD:Hid (∀W,Mem w [] W [(g3,kdA,78),(g1,tcs t (.slice p m c),24)]→W.cell? ⟨g3,4,none⟩=some (.int .i64 2)):=fun W hW=>((hW.get 0 rfl).cell 4).trans rfl
  clear hkk hnn hk9
  refine aq ?_
  refine ao (T:=fun W=>Mem w [] W [(g3,kdA,78),(g1,tcs t (.slice p m c),24)]) (by kernel_rfl) hm ?_
  intro wc hbw hmw
  replace hm:Mem w [] wc [(g3,kdA,78),(g1,tcs t (.slice p m c),24)]:=hmw
  clear hbw hmw
  refine aT 0 (v:=.pointer (some ⟨g1,0,none⟩)) rfl (by kernel_rfl) rfl (fun W _=>by go_simp) hm ?_
  go_simp
  refine aT 1 (v:=.int .i64 4) rfl (by kernel_rfl) rfl (fun W hW=>ad _ (HC0.out W hW) rfl ag) hm ?_
  go_simp
  refine aT 2 (v:=.bool false) rfl (by kernel_rfl) rfl (fun W _=>by go_simp) hm ?_
  go_simp
  refine aT 3 (v:=.bool false) rfl (by kernel_rfl) rfl (fun W _=>by go_simp) hm ?_
  go_simp
  refine aG 4 (v:=.pointer (some ⟨g1,0,none⟩)) rfl (by kernel_rfl) rfl (fun W _=>by go_simp) hm ?_
  go_simp
  refine aG 5 (v:=.int .i64 4) rfl (by kernel_rfl) rfl (fun W hW=>ad _ (HC0.out W hW) rfl ag) hm ?_
  go_simp
  refine aG 6 (v:=.bool false) rfl (by kernel_rfl) rfl (fun W _=>by go_simp) hm ?_
  go_simp
  refine aT 7 (v:=.bool false) rfl (by kernel_rfl) rfl (fun W _=>by go_simp) hm ?_
  go_simp
  refine aT 8 (v:=.bool false) rfl (by kernel_rfl) rfl (fun W _=>by go_simp) hm ?_
  go_simp
  refine aG 9 (v:=.pointer (some ⟨g1,2,none⟩)) rfl (by kernel_rfl) rfl (fun W _=>by go_simp) hm ?_
  go_simp
  refine aG 10 (v:=.slice p m c) rfl (by kernel_rfl) rfl (fun W hW=>ad _ (HC2.out W hW) rfl ah) hm ?_
  go_simp
  refine aG 11 (v:=.int .i64 (m:Int)) rfl (by kernel_rfl) rfl (fun W _=>by go_simp) hm ?_
  go_simp
  refine aG 12 (v:=.pointer (some ⟨g1,0,none⟩)) rfl (by kernel_rfl) rfl (fun W _=>by go_simp) hm ?_
  go_simp
  refine aG 13 (v:=.int .i64 4) rfl (by kernel_rfl) rfl (fun W hW=>ad _ (HC0.out W hW) rfl ag) hm ?_
  go_simp
  refine aG 14 (v:=.pointer (some ⟨g3,4,none⟩)) rfl (by kernel_rfl) rfl (fun W _=>by go_simp) hm ?_
  go_simp
  refine aG 15 (v:=.int .i64 2) rfl (by kernel_rfl) rfl (fun W hW=>ad _ (HD.out W hW) rfl ag) hm ?_
  go_simp
  refine aG 16 (v:=.bool true) rfl (by kernel_rfl) rfl (fun W _=>by go_simp) hm ?_
  go_simp
  refine aT 17 (v:=.bool true) rfl (by kernel_rfl) rfl (fun W _=>by go_simp) hm ?_
  go_simp
  refine aT 18 (v:=.bool true) rfl (by kernel_rfl) rfl (fun W _=>by go_simp) hm ?_
  go_simp
  refine ae 19 rfl (by kernel_rfl) (by kernel_rfl) (by kernel_rfl) rfl hm ?_
  go_simp
  refine ae 20 rfl (by kernel_rfl) (by kernel_rfl) (by kernel_rfl) rfl hm ?_
  go_simp
  refine ae 21 rfl (by kernel_rfl) (by kernel_rfl) (by kernel_rfl) rfl hm ?_
  go_simp
  refine aT 22 (v:=.bool true) rfl (by kernel_rfl) rfl (fun W _=>by go_simp) hm ?_
  go_simp
  refine aT 23 (v:=.bool true) rfl (by kernel_rfl) rfl (fun W _=>by go_simp) hm ?_
  go_simp
  refine ae 24 rfl (by kernel_rfl) (by kernel_rfl) (by kernel_rfl) rfl hm ?_
  go_simp
  refine ae 25 rfl (by kernel_rfl) (by kernel_rfl) (by kernel_rfl) rfl hm ?_
  go_simp
  refine ae 26 rfl (by kernel_rfl) (by kernel_rfl) (by kernel_rfl) rfl hm ?_
  go_simp
  refine aT 27 (v:=.bool true) rfl (by kernel_rfl) rfl (fun W _=>by go_simp) hm ?_
  go_simp
  refine aT 28 (v:=.bool true) rfl (by kernel_rfl) rfl (fun W _=>by go_simp) hm ?_
  go_simp
  refine ae 29 rfl (by kernel_rfl) (by kernel_rfl) (by kernel_rfl) rfl hm ?_
  go_simp
  refine ae 30 rfl (by kernel_rfl) (by kernel_rfl) (by kernel_rfl) rfl hm ?_
  go_simp
  refine ae 31 rfl (by kernel_rfl) (by kernel_rfl) (by kernel_rfl) rfl hm ?_
  go_simp
  refine ae 32 rfl (by kernel_rfl) (by kernel_rfl) (by kernel_rfl) rfl hm ?_
  go_simp
  refine ae 33 rfl (by kernel_rfl) (by kernel_rfl) (by kernel_rfl) rfl hm ?_
  go_simp
  refine ae 34 rfl (by kernel_rfl) (by kernel_rfl) (by kernel_rfl) rfl hm ?_
  go_simp
  refine ae 35 rfl (by kernel_rfl) (by kernel_rfl) (by kernel_rfl) rfl hm ?_
  go_simp
  refine ae 36 rfl (by kernel_rfl) (by kernel_rfl) (by kernel_rfl) rfl hm ?_
  go_simp
  refine ae 37 rfl (by kernel_rfl) (by kernel_rfl) (by kernel_rfl) rfl hm ?_
  go_simp
  refine ae 38 rfl (by kernel_rfl) (by kernel_rfl) (by kernel_rfl) rfl hm ?_
  go_simp
  refine ae 39 rfl (by kernel_rfl) (by kernel_rfl) (by kernel_rfl) rfl hm ?_
  go_simp
  refine ae 40 rfl (by kernel_rfl) (by kernel_rfl) (by kernel_rfl) rfl hm ?_
  go_simp
  refine ae 41 rfl (by kernel_rfl) (by kernel_rfl) (by kernel_rfl) rfl hm ?_
  go_simp
  refine aT 42 (v:=.bool true) rfl (by kernel_rfl) rfl (fun W _=>by go_simp) hm ?_
  go_simp
  refine wpAnyH_done (by kernel_rfl) ?_ _
  simp only [endsIn]
  go_wp2_with fail
  go_ret
  exact ⟨by rw [HR.out ()];rfl,hm.below⟩
end Go.Proofs.YtcibhfcjbokdlaaGreatDoor
