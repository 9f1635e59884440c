import Derived.Test.YtlpnafdkhoimhaaGreatDoorQr14
set_option maxRecDepth 100000
set_option maxHeartbeats 4000000
namespace Go.Proofs.YtlpnafdkhoimhaaGreatDoor
open Go Go.RowKit Go.Maps
theorem fb {P:Program} {a:Act} {w:World} {dst:Option Tmp} {typ:TypeId} {pos:String} {aft:Array Edge} {gd:Option (Nat×Bool)} {ty:TypeId} {x:Operand} {lo hi:Option Operand} (n:Nat) {elem:TypeId} (hu:P.underlying ty=some (.array n elem)) (hs:(P.info? elem).map (·.size)=some 1) {g o:Nat} (l m:Nat) (hlm:l+m≤n) (hln:l<n) (hx:a.eval x=.pointer (some ⟨g,o,none⟩))
  (hlo:lo.map a.eval=some (.int .i64 l)∨(lo.map a.eval=none∧l=0)) (hhi:hi.map a.eval=some (.int .i64 (l+m:Nat))∨(hi.map a.eval=none∧l+m=n)) :
  (execOp a.eval {dst:=dst,op:=.slice ty x lo hi none,type:=typ,pos:=pos,after:=aft,guard:=gd}).run P w=.ok (.value (.slice (some ⟨g,o+l,none⟩) m (n - l))) w:=by
 have hr:=run_sla (P:=P) w hu hs g o l m hlm hln (lo.map a.eval) (hi.map a.eval) hlo hhi
 unfold execOp
 simp only [hx,Option.map_none,hr,Sem.run_bind,Sem.run_pure,Result.andThen_ok]
theorem jf {a:Act} {w:World} {dst:Option Tmp} {typ:TypeId} {pos:String} {aft:Array Edge} {gd:Option (Nat×Bool)} {t:TypeId} {x y:Operand} {rt:TypeId} (s s':ByteArray) (v:Bool) (hx:a.eval x=.string s) (hy:a.eval y=.string s') (hv:(s==s')=v) :
  (execOp a.eval {dst:=dst,op:=.binOp .neq t x y rt,type:=typ,pos:=pos,after:=aft,guard:=gd}).run Tryz.prog w=.ok (.value (.bool (!v))) w:=by
 subst hv
 unfold execOp
 simp only [hx,hy]
 simp only [eqGuard,binOp,Op.stringOp,go_sem]
 rw [beq_toListBytes s s']
 rfl
theorem ld {ks:List ByteArray} (h:PlOk ks) (b:Bool) (hb:b=decide (ks=[])) (w:World) :
  Calls Tryz.prog 67 #[.agg (plv ks).toArray] w fun e w'=>e=.returned (.bool b)∧Below w.heap.size w w':=by
 have hm:=Mem.start w
 have HK:Hid (∀_:Unit,PlOk ks):=fun _=>h
 have HB:Hid (∀_:Unit,b=decide (ks=[])):=fun _=>hb
 clear h hb
 go_enter Tryz.func67,Tryz.ntmps67
 go_wp2_with (first
  | ((with_reducible refine ae (some 1) (.box 76 (.tmp 0)) ?_);refine az (plv ks) rfl hm ?_;clear hm;intro w1 g1 hm)
  | ((with_reducible refine ae (some 3) (.load 76 (.tmp 1)) ?_);refine av 0 hm rfl rfl _ aI rfl 3 ax (by rfl) ?_)
  | ((with_reducible refine ae (some 4) (.build 76 #[]) ?_);refine ay (plv []) [] rfl (by kernel_rfl) ?_)
  | ((with_reducible refine ae (some 5) (.binOp .eql 76 (.tmp 3) (.tmp 4) 76) ?_);go_must (refine aj (.bool b) rfl (kU (HK.out ()) PlOk.nil b (HB.out ()) rfl rfl) ?_)))
 go_ret
 exact ⟨rfl,hm.below⟩
theorem iB {ks:List ByteArray} (h:PlOk ks) (n:Nat) (hn:n=ks.length) (w:World) :
  Calls Tryz.prog 61 #[.agg (plv ks).toArray] w fun e w'=>e=.returned (.int .i64 (n:Int))∧Below w.heap.size w w':=by
 have hm:=Mem.start w
 have hn3:n≤3:=by rw [hn];exact h.len
 have HC:Hid (∀k,k<n→ks.getD k noStr≠noStr):=fun k hk=>h.at (by omega)
 have HZ:Hid (∀k,n≤k→ks.getD k noStr=noStr):=fun k hk=>by rw [List.getD_eq_getElem?_getD,List.getElem?_eq_none (by omega)];rfl
 have HR:Hid (∀k,k<3→(plv ks)[k]?=some (.string (ks.getD k noStr))):=fun k hk=>by
  have e:k=0∨k=1∨k=2:=by omega
  rcases e with rfl|rfl|rfl<;>rfl
 clear h hn
 go_enter Tryz.func61,Tryz.ntmps61
 go_wp2_with (first
  | ((with_reducible refine ae (some 1) (.box 76 (.tmp 0)) ?_);refine az (plv ks) rfl hm ?_;clear hm;intro w1 g1 hm))
 go_loopw [3] (fun vi wr=>∃k:Nat,k≤n∧vi=.int .i64 (k:Int)∧wr=w1) (fun vi _=>match vi with | .int _ k=>n - k.toNat|_=>0)
 case atStart=>exact ⟨0,by omega,by simp⟩
 case round =>
  obtain ⟨k,hk,rfl,rfl⟩:=hrel
  by_cases hlt:k<n
  ·have hk3:(k:Int)<3:=by omega
   have hk0:(0:Int)≤(k:Int):=by omega
   have hw:IntKind.i64.wrap ((k:Int)+1)=(k:Int)+1:=dt _ (by omega) (by omega)
   obtain ⟨x,hx⟩:∃x,x=ks.getD k noStr:=⟨_,rfl⟩
   have hne:(x=={data:=#[]})=false:=eqs_no (by rw [hx];exact HC.out k hlt)
   have HX:Hid (∀_:Unit,(plv ks)[k]?=some (.string x)):=fun _=>by rw [hx];exact HR.out k (by omega)
   clear hx
   go_wp2_with (first
    | ((with_reducible refine bA (some 9) (.load 9 (.tmp 8)) (some (2,true)) ?_);go_must (refine aj (.string x) rfl (aK k _ (hm.get 0 rfl) rfl fJ (HX.out ())) ?_))
    | ((with_reducible refine bA (some 10) (.binOp .neq 9 (.tmp 9) (.const (.string {data:=#[]})) 9) (some (2,true)) ?_);go_must (refine aj (.bool true) rfl (jf x {data:=#[]} false rfl rfl hne) ?_)))
   exact ⟨⟨k+1,by omega,by simp⟩,by show n - ((k:Int)+1).toNat<n - (k:Int).toNat;omega⟩
  ·have hkn:k=n:=by omega
   subst hkn
   by_cases h3:k=3
   ·subst h3
    go_wp2_with fail
    go_ret
    exact ⟨rfl,hm.below⟩
   ·have hk3:(k:Int)<3:=by omega
    have hk0:(0:Int)≤(k:Int):=by omega
    have HX:Hid (∀_:Unit,(plv ks)[k]?=some (.string {data:=#[]})):=fun _=>by rw [HR.out k (by omega),HZ.out k (Nat.le_refl _)];rfl
    go_wp2_with (first
     | ((with_reducible refine bA (some 9) (.load 9 (.tmp 8)) (some (2,true)) ?_);go_must (refine aj (.string {data:=#[]}) rfl (aK k _ (hm.get 0 rfl) rfl fJ (HX.out ())) ?_))
     | ((with_reducible refine bA (some 10) (.binOp .neq 9 (.tmp 9) (.const (.string {data:=#[]})) 9) (some (2,true)) ?_);go_must (refine aj (.bool false) rfl (jf {data:=#[]} {data:=#[]} true rfl rfl (eqs_yes _)) ?_)))
    go_ret
    exact ⟨rfl,hm.below⟩
theorem upTo_r (ks:List ByteArray) (n:Nat) (hn:n≤3) (w:World) :
  Calls Tryz.prog 60 #[.agg (plv ks).toArray,.int .i64 (n:Int)] w fun e w'=>e=.returned (.agg (plv (ks.take n)).toArray)∧Below w.heap.size w w':=by
 have hm:=Mem.start w
 go_enter Tryz.func60,Tryz.ntmps60
 go_wp2_with (first
  | ((with_reducible refine ae (some 2) (.box 76 (.tmp 0)) ?_);refine az (plv ks) rfl hm ?_;clear hm;intro w1 g1 hm)
  | ((with_reducible refine ae (some 4) (.alloc 76) ?_);refine ag _ aR hm ?_;clear hm;intro w2 g2 hm)
  | ((with_reducible refine ae (some 5) (.alloc 76) ?_);refine ag _ aR hm ?_;clear hm;intro w3 g3 hm))
 refine aA ?_
 refine aC (T:=fun W=>∃l,Mem w [] W [(g3,l,76),(g2,[.string ByteArray.empty,.string ByteArray.empty,.string ByteArray.empty],76),(g1,plv ks,76)]) (by kernel_rfl) hm ?_
 intro wc hbw hmw
 clear hm
 have hm:=hmw
 clear hbw hmw
 refine aT 0 (v:=.int .i64 (n:Int)) rfl (by kernel_rfl) rfl (fun W _=>by go_simp) ⟨_,hm⟩ ?_
 go_simp
 refine aT 1 (v:=.slice (some ⟨g3,0,none⟩) n 3) rfl (by kernel_rfl) rfl (fun W _=>fb 3 aI dE 0 n (by omega) (by omega) rfl (Or.inr ⟨rfl,rfl⟩) (Or.inl (dl _ rfl (by simp)))) ⟨_,hm⟩ ?_
 go_simp
 refine aT 2 (v:=.int .i64 (n:Int)) rfl (by kernel_rfl) rfl (fun W _=>by go_simp) ⟨_,hm⟩ ?_
 go_simp
 refine aT 3 (v:=.slice (some ⟨g1,0,none⟩) n 3) rfl (by kernel_rfl) rfl (fun W _=>fb 3 aI dE 0 n (by omega) (by omega) rfl (Or.inr ⟨rfl,rfl⟩) (Or.inl (dl _ rfl (by simp)))) ⟨_,hm⟩ ?_
 go_simp
 refine aO 4 (by kernel_rfl) rfl rfl ?_
 intro K hK
 refine wpl_cpT 0 hm rfl (hm.get 2 rfl) hn rfl rfl _ jU dE ?_
 clear hm
 intro w5 k5 hm
 refine wpList_nil ?_
 refine hK _ _ ⟨_,hm⟩ ?_
 clear hK K
 go_simp
 refine wpAnyH_done (by kernel_rfl) ?_ _
 simp only [endsIn]
 go_wp2_with (first
  | ((with_reducible refine ae (some 11) (.load 76 (.tmp 5)) ?_);refine av 0 hm rfl rfl _ aI rfl 3 ax (by rfl) ?_)
  | ((with_reducible refine ae none (.store 76 (.tmp 4) (.tmp 11)) ?_);refine ah 1 (plv (ks.take n)) hm rfl rfl rfl 3 ax rfl rfl (aB _) ?_;clear hm;intro w6 hm))
 refine aH 1 hm rfl Tryz.results60 rfl _ aI rfl 3 ax rfl rfl ?_
 exact ⟨rfl,hm.below⟩
theorem parent_r0 {ks:List ByteArray} (h:PlOk ks) (h0:ks.length=0) (w:World) :
  Calls Tryz.prog 41 #[.agg (plv ks).toArray] w fun e w'=>e=.returned (.agg (plv (ks.take 0)).toArray)∧Below w.heap.size w w':=by
 have hm:=Mem.start w
 have hl:=h.len
 have HD:Hid (∀W,Calls Tryz.prog 61 #[.agg (plv ks).toArray] W fun e w'=>e=.returned (.int .i64 (0))∧Below W.heap.size W w'):=fun W=>by have:=iB h 0 h0.symm W;simpa using this
 have HU:Hid (∀W,Calls Tryz.prog 60 #[.agg (plv ks).toArray,.int .i64 (0)] W fun e w'=>e=.returned (.agg (plv (ks.take 0)).toArray)∧Below W.heap.size W w'):=fun W=>upTo_r ks 0 (by omega) W
 clear h h0
 go_enter Tryz.func41,Tryz.ntmps41
 go_wp2_with (first
  | ((with_reducible refine ae (some 1) (.box 76 (.tmp 0)) ?_);refine az (plv ks) rfl hm ?_;clear hm;intro w1 g1 hm)
  | ((with_reducible refine ae (some 2) (.alloc 76) ?_);refine ag _ aR hm ?_;clear hm;intro w2 g2 hm))
 refine aA ?_
 refine aC (T:=fun W=>∃l,Mem w [] W [(g2,l,76),(g1,plv ks,76)]) (by kernel_rfl) hm ?_
 intro wc hbw hmw
 clear hm
 have hm:=hmw
 clear hbw hmw
 refine aT 0 (v:=.agg (plv ks).toArray) rfl (by kernel_rfl) rfl (fun W hW=>by obtain ⟨l,hW⟩:=hW;exact au 0 (plv ks) (Mem.get hW 1 rfl) rfl _ aI rfl 3 ax (Nat.le_refl 3) rfl) ⟨_,hm⟩ ?_
 go_simp
 refine aT 1 (v:=.agg (plv ks).toArray) rfl (by kernel_rfl) rfl (fun W hW=>by obtain ⟨l,hW⟩:=hW;exact au 0 (plv ks) (Mem.get hW 1 rfl) rfl _ aI rfl 3 ax (Nat.le_refl 3) rfl) ⟨_,hm⟩ ?_
 go_simp
 refine aO 2 (by kernel_rfl) rfl rfl ?_
 intro K hK
 go_wp2_with (go_at_call 61;refine (HD.out _).mono ?_;rintro e w' ⟨he,hb⟩;subst he;replace hm:=hm.call hb;clear hb)
 refine hK _ _ ⟨_,hm⟩ ?_
 clear hK K
 go_simp
 refine aT 3 (v:=.int .i64 (-1)) rfl (by kernel_rfl) rfl (fun W _=>by go_simp<;>first|rfl|decide|exact hw|exact dt _ (by omega) (by omega)) ⟨_,hm⟩ ?_
 go_simp
 refine aT 4 (v:=.int .i64 (0)) rfl (by kernel_rfl) rfl (fun W _=>by go_simp<;>first|rfl|decide|omega) ⟨_,hm⟩ ?_
 go_simp
 refine aO 5 (by kernel_rfl) rfl rfl ?_
 intro K hK
 go_wp2_with (go_at_call 60;refine (HU.out _).mono ?_;rintro e w' ⟨he,hb⟩;subst he;replace hm:=hm.call hb;clear hb)
 refine hK _ _ ⟨_,hm⟩ ?_
 clear hK K
 go_simp
 refine aO 6 (by kernel_rfl) rfl rfl ?_
 intro K hK
 refine ah 0 (plv (ks.take 0)) hm rfl rfl rfl 3 ax rfl rfl (aB _) ?_
 clear hm
 intro w6 hm
 refine wpList_nil ?_
 refine hK _ _ ⟨_,hm⟩ ?_
 clear hK K
 go_simp
 refine wpAnyH_done (by kernel_rfl) ?_ _
 simp only [endsIn]
 go_wp2_with fail
 refine aH 0 hm rfl Tryz.results41 rfl _ aI rfl 3 ax rfl rfl ?_
 exact ⟨rfl,hm.below⟩
theorem parent_r1 {ks:List ByteArray} (h:PlOk ks) (m:Nat) (h0:ks.length=m+1) (w:World) :
  Calls Tryz.prog 41 #[.agg (plv ks).toArray] w fun e w'=>e=.returned (.agg (plv (ks.take m)).toArray)∧Below w.heap.size w w':=by
 have hm:=Mem.start w
 have hl:=h.len
 have HD:Hid (∀W,Calls Tryz.prog 61 #[.agg (plv ks).toArray] W fun e w'=>e=.returned (.int .i64 ((m:Int)+1))∧Below W.heap.size W w'):=fun W=>by have:=iB h (m+1) h0.symm W;simpa using this
 have HU:Hid (∀W,Calls Tryz.prog 60 #[.agg (plv ks).toArray,.int .i64 ((m:Int))] W fun e w'=>e=.returned (.agg (plv (ks.take m)).toArray)∧Below W.heap.size W w'):=fun W=>upTo_r ks m (by omega) W
 have hw:IntKind.i64.wrap ((m:Int)+1 - 1)=(m:Int):=(dt _ (by omega) (by omega)).trans (by omega)
 have hmx:¬(m:Int)<0:=by omega
 have hm3:m<3:=by omega
 clear h h0
 go_enter Tryz.func41,Tryz.ntmps41
 go_wp2_with (first
  | ((with_reducible refine ae (some 1) (.box 76 (.tmp 0)) ?_);refine az (plv ks) rfl hm ?_;clear hm;intro w1 g1 hm)
  | ((with_reducible refine ae (some 2) (.alloc 76) ?_);refine ag _ aR hm ?_;clear hm;intro w2 g2 hm))
 refine aA ?_
 refine aC (T:=fun W=>∃l,Mem w [] W [(g2,l,76),(g1,plv ks,76)]) (by kernel_rfl) hm ?_
 intro wc hbw hmw
 clear hm
 have hm:=hmw
 clear hbw hmw
 refine aT 0 (v:=.agg (plv ks).toArray) rfl (by kernel_rfl) rfl (fun W hW=>by obtain ⟨l,hW⟩:=hW;exact au 0 (plv ks) (Mem.get hW 1 rfl) rfl _ aI rfl 3 ax (Nat.le_refl 3) rfl) ⟨_,hm⟩ ?_
 go_simp
 refine aT 1 (v:=.agg (plv ks).toArray) rfl (by kernel_rfl) rfl (fun W hW=>by obtain ⟨l,hW⟩:=hW;exact au 0 (plv ks) (Mem.get hW 1 rfl) rfl _ aI rfl 3 ax (Nat.le_refl 3) rfl) ⟨_,hm⟩ ?_
 go_simp
 refine aO 2 (by kernel_rfl) rfl rfl ?_
 intro K hK
 go_wp2_with (go_at_call 61;refine (HD.out _).mono ?_;rintro e w' ⟨he,hb⟩;subst he;replace hm:=hm.call hb;clear hb)
 refine hK _ _ ⟨_,hm⟩ ?_
 clear hK K
 go_simp
 refine aT 3 (v:=.int .i64 ((m:Int))) rfl (by kernel_rfl) rfl (fun W _=>by go_simp<;>first|rfl|decide|exact hw|exact dt _ (by omega) (by omega)) ⟨_,hm⟩ ?_
 go_simp
 refine aT 4 (v:=.int .i64 ((m:Int))) rfl (by kernel_rfl) rfl (fun W _=>by go_simp<;>first|rfl|decide|omega) ⟨_,hm⟩ ?_
 go_simp
 refine aO 5 (by kernel_rfl) rfl rfl ?_
 intro K hK
 go_wp2_with (go_at_call 60;refine (HU.out _).mono ?_;rintro e w' ⟨he,hb⟩;subst he;replace hm:=hm.call hb;clear hb)
 refine hK _ _ ⟨_,hm⟩ ?_
 clear hK K
 go_simp
 refine aO 6 (by kernel_rfl) rfl rfl ?_
 intro K hK
 refine ah 0 (plv (ks.take m)) hm rfl rfl rfl 3 ax rfl rfl (aB _) ?_
 clear hm
 intro w6 hm
 refine wpList_nil ?_
 refine hK _ _ ⟨_,hm⟩ ?_
 clear hK K
 go_simp
 refine wpAnyH_done (by kernel_rfl) ?_ _
 simp only [endsIn]
 go_wp2_with fail
 refine aH 0 hm rfl Tryz.results41 rfl _ aI rfl 3 ax rfl rfl ?_
 exact ⟨rfl,hm.below⟩
theorem kG {ks:List ByteArray} (h:PlOk ks) (w:World) :
  Calls Tryz.prog 41 #[.agg (plv ks).toArray] w fun e w'=>e=.returned (.agg (plv ks.dropLast).toArray)∧Below w.heap.size w w':=by
 rw [List.dropLast_eq_take]
 cases hl:ks.length with
 | zero=>exact parent_r0 h hl w
 | succ m=>exact parent_r1 h m hl w
theorem plv_split {ks:List ByteArray} (hl:ks.length≤3):∃r,plv ks=strs ks++r:=by
 match ks,hl with
 | [],_=>exact ⟨plv [],rfl⟩
 | [a],_=>exact ⟨[.string noStr,.string noStr],rfl⟩
 | [a,b],_=>exact ⟨[.string noStr],rfl⟩
 | [a,b,c],_=>exact ⟨[],rfl⟩
 | _::_::_::_::_,h=>simp at h
theorem plOf_self {ks:List ByteArray} (h:PlOk ks):plOf ks=ks:=by unfold plOf;rw [if_pos h.to]
theorem text_r {ks:List ByteArray} (h:PlOk ks) (r:ByteArray) (hr:r=mkS (jn 47 (ks.map bs))) (w:World) :
  Calls Tryz.prog 32 #[.agg (plv ks).toArray] w fun e w'=>e=.returned (.string r)∧Below w.heap.size w w':=by
 have hm:=Mem.start w
 obtain ⟨n,hn⟩:∃n,n=ks.length:=⟨_,rfl⟩
 have hn3:n≤3:=by rw [hn];exact h.len
 have HD:Hid (∀W,Calls Tryz.prog 61 #[.agg (plv ks).toArray] W fun e w'=>e=.returned (.int .i64 (n:Int))∧Below W.heap.size W w'):=fun W=>iB h n hn W
 have HS:Hid (∀(W:World) (g:Nat) (t:TypeId),Row W g (plv ks) t→SlS W (.slice (some ⟨g,0,none⟩) n 3) ks):=fun W g t hR=>by
  obtain ⟨r,hr⟩:=plv_split h.len
  rw [hr] at hR
  exact SlS.of_row hR hn.symm hn3
 have HR:Hid (∀_:Unit,mkS (jn 47 ((plOf ks).map bs))=r):=fun _=>by rw [plOf_self h,hr]
 clear h hn hr
 go_enter Tryz.func32,Tryz.ntmps32
 go_wp2_with (first
  | ((with_reducible refine ae (some 1) (.box 76 (.tmp 0)) ?_);refine az (plv ks) rfl hm ?_;clear hm;intro w1 g1 hm)
  | ((with_reducible refine ae (some 3) (.load 76 (.tmp 1)) ?_);refine av 0 hm rfl rfl _ aI rfl 3 ax (by rfl) ?_)
  | (go_at_call 61;refine (HD.out _).mono ?_;rintro e w' ⟨he,hb⟩;subst he;replace hm:=hm.call hb;clear hb)
  | ((with_reducible refine ae (some 5) (.slice 76 (.tmp 1) none (some (.tmp 4)) none) ?_);refine ed 3 aI dE 0 n (by omega) (by omega) rfl (Or.inr ⟨rfl,rfl⟩) (Or.inl (dl _ rfl (by simp))) ?_)
  | (go_at_call 64;refine (joinP_any ks _ _ (HS.out _ _ _ (hm.get 0 rfl))).mono ?_;rintro e w' ⟨he,hb⟩;rw [HR.out ()] at he;subst he;replace hm:=hm.call hb;clear hb))
 go_ret
 exact ⟨rfl,hm.below⟩
theorem jh (s:ByteArray) (w:World) (hs:s.size≤1000) (hM:MaxL w) :
  Calls Tryz.prog 33 #[.string s] w fun e w'=>e=.returned (.tuple #[.agg (plv (segsB s)).toArray,.bool (isP (bs s))])∧Below w.heap.size w w':=by
 have hm:=Mem.start w
 have HM:Hid (MaxL w):=hM
 obtain ⟨ks,hks⟩:∃ks,ks=segsB s:=⟨_,rfl⟩
 obtain ⟨b,hb0⟩:∃b,b=isP (bs s):=⟨_,rfl⟩
 have HL:Hid (∀_:Unit,ks.length≤3):=fun _=>by rw [hks];exact (cX s).len
 have HS:Hid (∀W,MaxL W→Calls Tryz.prog 65 #[.string s] W fun e w'=>∃v,e=.returned v∧SlS w' v ks∧Below W.heap.size W w'):=fun W hW=>by rw [hks];exact (split_any s W hs hW).mono (fun _ _ ⟨v,he,ho,hb⟩=>⟨v,he,own_sl ho,hb⟩)
 have HI:Hid (∀W,MaxL W→Calls Tryz.prog 66 #[.string s] W fun e w'=>e=.returned (.bool b)∧Below W.heap.size W w'):=fun W hW=>by rw [hb0];exact is_any s W hs hW
 rw [←hks,←hb0]
 clear hM hks hb0 hs
 go_enter Tryz.func33,Tryz.ntmps33
 go_wp2_with (first
  | ((with_reducible refine ae (some 2) (.alloc 76) ?_);refine ag _ aR hm ?_;clear hm;intro w1 g2 hm)
  | ((with_reducible refine ae (some 4) (.alloc 76) ?_);refine ag _ aR hm ?_;clear hm;intro w2 g4 hm))
 refine aA ?_
 refine aC (T:=fun W=>∃l,Mem w [] W [(g4,l,76),(g2,[.string ByteArray.empty,.string ByteArray.empty,.string ByteArray.empty],76)]) (by kernel_rfl) hm ?_
 intro wc hbw hmw
 clear hm
 have hm:=hmw
 clear hbw hmw
 refine aT 0 (v:=.slice (some ⟨g4,0,none⟩) 3 3) rfl (by kernel_rfl) rfl (fun W _=>fb 3 aI dE 0 3 (by omega) (by omega) rfl (Or.inr ⟨rfl,rfl⟩) (Or.inr ⟨rfl,rfl⟩)) ⟨_,hm⟩ ?_
 go_simp
 refine aT 1 (v:=.string s) rfl (by kernel_rfl) rfl (fun W _=>by go_simp) ⟨_,hm⟩ ?_
 go_simp
 refine aO 2 (by kernel_rfl) rfl rfl ?_
 intro K hK
 go_wp2_with (go_at_call 65;refine (HS.out _ (HM.out.below hm.below)).mono ?_;rintro e w' ⟨v,he,hv,hb⟩;subst he;have HV:Hid (SlS w' v ks):=hv;clear hv;replace hm:=hm.call hb;clear hb)
 refine hK _ _ ⟨_,hm⟩ ?_
 clear hK K
 go_simp
 refine aO 3 (by kernel_rfl) rfl rfl ?_
 intro K hK
 refine wpl_cpS 0 hm rfl (HL.out ()) rfl rfl HV.out _ jU dE ?_
 clear hm HV
 intro w5 k5 hm
 refine wpList_nil ?_
 refine hK _ _ ⟨_,hm⟩ ?_
 clear hK K
 go_simp
 refine wpAnyH_done (by kernel_rfl) ?_ _
 simp only [endsIn]
 go_wp2_with fail
 refine aA ?_
 refine aC (T:=fun W=>∃l,Mem w [] W [(g4,plv ks,76),(g2,l,76)]) (by kernel_rfl) hm ?_
 intro wc hbw hmw
 clear hm
 have hm:=hmw
 clear hbw hmw
 refine aT 0 (v:=.agg (plv ks).toArray) rfl (by kernel_rfl) rfl (fun W hW=>by obtain ⟨l,hW⟩:=hW;exact au 0 (plv ks) (Mem.get hW 0 rfl) rfl _ aI rfl 3 ax (Nat.le_refl 3) rfl) ⟨_,hm⟩ ?_
 go_simp
 refine aT 1 (v:=.string s) rfl (by kernel_rfl) rfl (fun W _=>by go_simp) ⟨_,hm⟩ ?_
 go_simp
 refine aO 2 (by kernel_rfl) rfl rfl ?_
 intro K hK
 go_wp2_with (go_at_call 66;refine (HI.out _ (HM.out.below hm.below)).mono ?_;rintro e w' ⟨he,hb⟩;subst he;replace hm:=hm.call hb;clear hb)
 refine hK _ _ ⟨_,hm⟩ ?_
 clear hK K
 go_simp
 refine aO 3 (by kernel_rfl) rfl rfl ?_
 intro K hK
 refine ah 1 (plv ks) hm rfl rfl rfl 3 ax rfl rfl (aB _) ?_
 clear hm
 intro w8 hm
 refine wpList_nil ?_
 refine hK _ _ ⟨_,hm⟩ ?_
 clear hK K
 go_simp
 refine aT 4 (v:=.bool b) rfl (by kernel_rfl) rfl (fun W _=>by go_simp) ⟨_,hm⟩ ?_
 go_simp
 refine wpAnyH_done (by kernel_rfl) ?_ _
 simp only [endsIn]
 go_wp2_with fail
 refine br 1 (.bool b) hm rfl Tryz.results33 rfl rfl _ aI rfl 3 ax rfl rfl ?_
 exact ⟨rfl,hm.below⟩
end Go.Proofs.YtlpnafdkhoimhaaGreatDoor
