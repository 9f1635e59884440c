import Derived.Test.YtmlbjfklaehjnaaGreatDoorQc12
import Derived.Test.YtmlbjfklaehjnaaGreatDoorQc11
import Derived.Lib.BufferWrite
set_option maxRecDepth 100000
set_option maxHeartbeats 4000000
namespace Go.Proofs.YtmlbjfklaehjnaaGreatDoor
open Go Go.RowKit
def edOf (b:List Int):Int:=big4 (b.getD 0 0) (b.getD 1 0) (b.getD 2 0) (b.getD 3 0)
theorem fF (cs:List Int) (v:Value) (n:Nat) (hn:cs.length=n) (hk:8≤n) (hl:n≤30000) (hcb:Bytes cs) (w:World) (hv:SlOld w v cs) :
  Calls Tryz.prog 163 #[v,.int .i64 8] w fun e w'=>∃g,e=.returned (.tuple #[.int .u64 (numL (cs.take 8)),.slice (some ⟨g,0,none⟩) (n - 8) (n - 8),.int .i64 0])∧w.heap.size≤g∧Row w' g (u8s (cs.drop 8)) 5∧Below w.heap.size w w':=by
 obtain ⟨p,cap,rfl,hcap⟩:=hv.len
 have HV:Hid (SlOld w (.slice p cs.length cap) cs):=hv
 clear hv
 rw [hn] at hcap HV ⊢
 have HB:Hid _:=hcb
 clear hcb
 have HDL:Hid ((cs.drop 8).length=n - 8):=by show _=_;rw [List.length_drop,hn]
 have hm:=Mem.start w
 obtain ⟨X,hX⟩:∃X,X=numL (cs.take 8):=⟨_,rfl⟩
 have HX:Hid (∀_:Unit,numL (cs.take 8)=X):=fun _=>hX.symm
 rw [←hX]
 clear hX
 go_enter Tryz.func163,Tryz.ntmps163
 go_wp2_with (first
  | (go_at_call 131;refine (jb _).mono ?_;rintro e w1 ⟨rfl,rfl⟩))
 refine au ?_
 refine ap (T:=fun W=>Mem w1 [] W []) (by kernel_rfl) hm ?_
 clear hm
 intro w2 hm
 refine aT 0 (v:=.slice p n cap) rfl (by kernel_rfl) rfl (fun W _=>by go_simp) hm ?_
 go_simp
 refine aT 1 (v:=.int .i64 8) rfl (by kernel_rfl) rfl (fun W _=>by go_simp) hm ?_
 go_simp
 refine aT 4 (v:=.slice p n cap) rfl (by kernel_rfl) rfl (fun W _=>by go_simp) hm ?_
 go_simp
 refine aT 5 (v:=.int .i64 8) rfl (by kernel_rfl) rfl (fun W _=>by go_simp) hm ?_
 go_simp
 refine aT 2 (v:=.slice (cutHi p cap) 8 cap) rfl (by kernel_rfl) rfl (fun W _=>dL aq av 8 (by omega) rfl rfl rfl) hm ?_
 go_simp
 refine aT 6 (v:=.slice (cutLo p cap 8) (n - 8) (cap - 8)) rfl (by kernel_rfl) rfl (fun W _=>cw aq av 8 (by omega) rfl rfl rfl) hm ?_
 go_simp
 refine aO 3 (by kernel_rfl) rfl rfl ?_
 intro K hK
 go_wp2_with (go_at_call 179;refine (cN (cs.take 8) _ 8 (by rw [List.length_take,hn];omega) (by omega) (Bytes.take HB.out 8) _ (kz (SlOld.mem HV.out hm) 8 (by omega))).mono ?_;rintro e w3 ⟨he,rfl⟩;rw [HX.out ()] at he;subst he)
 refine hK _ _ hm ?_
 clear hK K
 refine aO 7 (by kernel_rfl) rfl rfl ?_
 intro K hK
 go_wp2_with (go_at_call 90;refine (bm (cs.drop 8) _ 0 (by rw [HDL.out];omega) (by omega) _ (kB (SlOld.mem HV.out hm) 8 (by omega))).mono ?_;rintro e w4 ⟨g,he,hge,hr,hb⟩;rw [HDL.out,Nat.add_zero] at he;subst he;rw [List.replicate_zero,List.append_nil] at hr;replace hm:=hm.callNew hb hr hge;clear hb hr hge)
 refine hK _ _ hm.tail ?_
 clear hK K
 refine aT 8 (v:=.int .u64 X) rfl (by kernel_rfl) rfl (fun W _=>by go_simp) hm.tail ?_
 go_simp
 refine aT 9 (v:=.slice (some ⟨g,0,none⟩) (n - 8) (n - 8)) rfl (by kernel_rfl) rfl (fun W _=>by go_simp) hm.tail ?_
 go_simp
 refine aT 10 (v:=.int .i64 0) rfl (by kernel_rfl) rfl (fun W _=>by go_simp) hm.tail ?_
 go_simp
 refine wpAnyH_done (by kernel_rfl) ?_ _
 simp only [endsIn]
 go_wp2_with fail
 go_ret3
 have hf:=hm.fresh _ (List.mem_cons_self ..)
 exact ⟨g,rfl,by simpa using hf,hm.get 0 rfl,hm.below⟩
theorem iM (cs:List Int) (v:Value) (n:Nat) (hn:cs.length=n) (hk:2≤n) (hl:n≤30000) (hcb:Bytes cs) (w:World) (hv:SlOld w v cs) :
  Calls Tryz.prog 163 #[v,.int .i64 2] w fun e w'=>∃g,e=.returned (.tuple #[.int .u64 (numL (cs.take 2)),.slice (some ⟨g,0,none⟩) (n - 2) (n - 2),.int .i64 0])∧w.heap.size≤g∧Row w' g (u8s (cs.drop 2)) 5∧Below w.heap.size w w':=by
 obtain ⟨p,cap,rfl,hcap⟩:=hv.len
 have HV:Hid (SlOld w (.slice p cs.length cap) cs):=hv
 clear hv
 rw [hn] at hcap HV ⊢
 have HB:Hid _:=hcb
 clear hcb
 have HDL:Hid ((cs.drop 2).length=n - 2):=by show _=_;rw [List.length_drop,hn]
 have hm:=Mem.start w
 obtain ⟨X,hX⟩:∃X,X=numL (cs.take 2):=⟨_,rfl⟩
 have HX:Hid (∀_:Unit,numL (cs.take 2)=X):=fun _=>hX.symm
 rw [←hX]
 clear hX
 go_enter Tryz.func163,Tryz.ntmps163
 go_wp2_with (first
  | (go_at_call 131;refine (held_two _).mono ?_;rintro e w1 ⟨rfl,rfl⟩))
 refine au ?_
 refine ap (T:=fun W=>Mem w1 [] W []) (by kernel_rfl) hm ?_
 clear hm
 intro w2 hm
 refine aT 0 (v:=.slice p n cap) rfl (by kernel_rfl) rfl (fun W _=>by go_simp) hm ?_
 go_simp
 refine aT 1 (v:=.int .i64 2) rfl (by kernel_rfl) rfl (fun W _=>by go_simp) hm ?_
 go_simp
 refine aT 4 (v:=.slice p n cap) rfl (by kernel_rfl) rfl (fun W _=>by go_simp) hm ?_
 go_simp
 refine aT 5 (v:=.int .i64 2) rfl (by kernel_rfl) rfl (fun W _=>by go_simp) hm ?_
 go_simp
 refine aT 2 (v:=.slice (cutHi p cap) 2 cap) rfl (by kernel_rfl) rfl (fun W _=>dL aq av 2 (by omega) rfl rfl rfl) hm ?_
 go_simp
 refine aT 6 (v:=.slice (cutLo p cap 2) (n - 2) (cap - 2)) rfl (by kernel_rfl) rfl (fun W _=>cw aq av 2 (by omega) rfl rfl rfl) hm ?_
 go_simp
 refine aO 3 (by kernel_rfl) rfl rfl ?_
 intro K hK
 go_wp2_with (go_at_call 179;refine (cN (cs.take 2) _ 2 (by rw [List.length_take,hn];omega) (by omega) (Bytes.take HB.out 2) _ (kz (SlOld.mem HV.out hm) 2 (by omega))).mono ?_;rintro e w3 ⟨he,rfl⟩;rw [HX.out ()] at he;subst he)
 refine hK _ _ hm ?_
 clear hK K
 refine aO 7 (by kernel_rfl) rfl rfl ?_
 intro K hK
 go_wp2_with (go_at_call 90;refine (bm (cs.drop 2) _ 0 (by rw [HDL.out];omega) (by omega) _ (kB (SlOld.mem HV.out hm) 2 (by omega))).mono ?_;rintro e w4 ⟨g,he,hge,hr,hb⟩;rw [HDL.out,Nat.add_zero] at he;subst he;rw [List.replicate_zero,List.append_nil] at hr;replace hm:=hm.callNew hb hr hge;clear hb hr hge)
 refine hK _ _ hm.tail ?_
 clear hK K
 refine aT 8 (v:=.int .u64 X) rfl (by kernel_rfl) rfl (fun W _=>by go_simp) hm.tail ?_
 go_simp
 refine aT 9 (v:=.slice (some ⟨g,0,none⟩) (n - 2) (n - 2)) rfl (by kernel_rfl) rfl (fun W _=>by go_simp) hm.tail ?_
 go_simp
 refine aT 10 (v:=.int .i64 0) rfl (by kernel_rfl) rfl (fun W _=>by go_simp) hm.tail ?_
 go_simp
 refine wpAnyH_done (by kernel_rfl) ?_ _
 simp only [endsIn]
 go_wp2_with fail
 go_ret3
 have hf:=hm.fresh _ (List.mem_cons_self ..)
 exact ⟨g,rfl,by simpa using hf,hm.get 0 rfl,hm.below⟩
theorem get_four (cs:List Int) (v:Value) (n:Nat) (hn:cs.length=n) (hk:4≤n) (hl:n≤30000) (hcb:Bytes cs) (w:World) (hv:SlOld w v cs) :
  Calls Tryz.prog 163 #[v,.int .i64 4] w fun e w'=>∃g,e=.returned (.tuple #[.int .u64 (numL (cs.take 4)),.slice (some ⟨g,0,none⟩) (n - 4) (n - 4),.int .i64 0])∧w.heap.size≤g∧Row w' g (u8s (cs.drop 4)) 5∧Below w.heap.size w w':=by
 obtain ⟨p,cap,rfl,hcap⟩:=hv.len
 have HV:Hid (SlOld w (.slice p cs.length cap) cs):=hv
 clear hv
 rw [hn] at hcap HV ⊢
 have HB:Hid _:=hcb
 clear hcb
 have HDL:Hid ((cs.drop 4).length=n - 4):=by show _=_;rw [List.length_drop,hn]
 have hm:=Mem.start w
 obtain ⟨X,hX⟩:∃X,X=numL (cs.take 4):=⟨_,rfl⟩
 have HX:Hid (∀_:Unit,numL (cs.take 4)=X):=fun _=>hX.symm
 rw [←hX]
 clear hX
 go_enter Tryz.func163,Tryz.ntmps163
 go_wp2_with (first
  | (go_at_call 131;refine (held_four _).mono ?_;rintro e w1 ⟨rfl,rfl⟩))
 refine au ?_
 refine ap (T:=fun W=>Mem w1 [] W []) (by kernel_rfl) hm ?_
 clear hm
 intro w2 hm
 refine aT 0 (v:=.slice p n cap) rfl (by kernel_rfl) rfl (fun W _=>by go_simp) hm ?_
 go_simp
 refine aT 1 (v:=.int .i64 4) rfl (by kernel_rfl) rfl (fun W _=>by go_simp) hm ?_
 go_simp
 refine aT 4 (v:=.slice p n cap) rfl (by kernel_rfl) rfl (fun W _=>by go_simp) hm ?_
 go_simp
 refine aT 5 (v:=.int .i64 4) rfl (by kernel_rfl) rfl (fun W _=>by go_simp) hm ?_
 go_simp
 refine aT 2 (v:=.slice (cutHi p cap) 4 cap) rfl (by kernel_rfl) rfl (fun W _=>dL aq av 4 (by omega) rfl rfl rfl) hm ?_
 go_simp
 refine aT 6 (v:=.slice (cutLo p cap 4) (n - 4) (cap - 4)) rfl (by kernel_rfl) rfl (fun W _=>cw aq av 4 (by omega) rfl rfl rfl) hm ?_
 go_simp
 refine aO 3 (by kernel_rfl) rfl rfl ?_
 intro K hK
 go_wp2_with (go_at_call 179;refine (cN (cs.take 4) _ 4 (by rw [List.length_take,hn];omega) (by omega) (Bytes.take HB.out 4) _ (kz (SlOld.mem HV.out hm) 4 (by omega))).mono ?_;rintro e w3 ⟨he,rfl⟩;rw [HX.out ()] at he;subst he)
 refine hK _ _ hm ?_
 clear hK K
 refine aO 7 (by kernel_rfl) rfl rfl ?_
 intro K hK
 go_wp2_with (go_at_call 90;refine (bm (cs.drop 4) _ 0 (by rw [HDL.out];omega) (by omega) _ (kB (SlOld.mem HV.out hm) 4 (by omega))).mono ?_;rintro e w4 ⟨g,he,hge,hr,hb⟩;rw [HDL.out,Nat.add_zero] at he;subst he;rw [List.replicate_zero,List.append_nil] at hr;replace hm:=hm.callNew hb hr hge;clear hb hr hge)
 refine hK _ _ hm.tail ?_
 clear hK K
 refine aT 8 (v:=.int .u64 X) rfl (by kernel_rfl) rfl (fun W _=>by go_simp) hm.tail ?_
 go_simp
 refine aT 9 (v:=.slice (some ⟨g,0,none⟩) (n - 4) (n - 4)) rfl (by kernel_rfl) rfl (fun W _=>by go_simp) hm.tail ?_
 go_simp
 refine aT 10 (v:=.int .i64 0) rfl (by kernel_rfl) rfl (fun W _=>by go_simp) hm.tail ?_
 go_simp
 refine wpAnyH_done (by kernel_rfl) ?_ _
 simp only [endsIn]
 go_wp2_with fail
 go_ret3
 have hf:=hm.fresh _ (List.mem_cons_self ..)
 exact ⟨g,rfl,by simpa using hf,hm.get 0 rfl,hm.below⟩
theorem bigN_any (cs:List Int) (v:Value) (hl:4≤cs.length) (hcb:Bytes cs) (w:World) (hv:SlOld w v cs) :
  Calls Tryz.prog 117 #[v] w fun e w'=>e=.returned (.int .u32 (edOf cs))∧Below w.heap.size w w':=by
 obtain ⟨p,cap,rfl,hcap,hs⟩:=hv
 obtain ⟨b,off,rfl,hseg⟩:=hs (by omega)
 obtain ⟨h00,h01⟩:=Bytes.get hcb 0
 obtain ⟨h10,h11⟩:=Bytes.get hcb 1
 obtain ⟨h20,h21⟩:=Bytes.get hcb 2
 obtain ⟨h30,h31⟩:=Bytes.get hcb 3
 have HC:Hid (Seg w b off [cs.getD 0 0,cs.getD 1 0,cs.getD 2 0,cs.getD 3 0]):=seg_four hseg 0 (by omega)
 have hm:=Mem.start w
 unfold edOf
 obtain ⟨n,hn⟩:∃n,n=cs.length:=⟨_,rfl⟩
 rw [←hn] at hl hcap ⊢
 generalize cs.getD 0 0=c0 at *
 generalize cs.getD 1 0=c1 at *
 generalize cs.getD 2 0=c2 at *
 generalize cs.getD 3 0=c3 at *
 clear hseg hs hcb hn
 go_enter Tryz.func117,Tryz.ntmps117
 go_wp2_with (first
  | (go_at_call 166;refine (gN b off n cap [c0,c1,c2,c3] rfl hl _ (HC.out.mem hm (by simp))).mono ?_;rintro e w1 ⟨rfl,hb⟩;replace hm:=hm.call hb;clear hb)
  | ((with_reducible refine aa (some 3) (.alloc 114) ?_);refine af _ ey hm ?_;clear hm;intro w2 g2 hm)
  | ((with_reducible refine aa none (.store 114 (.tmp 3) (.tmp 5)) ?_);refine ag 0 (u8s [c0,c1,c2,c3]) hm rfl rfl rfl 4 ig (by simp [ab]) (rfl) (ar _) ?_;clear hm;intro w3 hm)
  | ((with_reducible refine aa (some 7) (.load 5 (.tmp 6)) ?_);refine ai 0 0 (.int .u8 c0) hm rfl rfl eq (rfl) ?_)
  | ((with_reducible refine aa (some 11) (.load 5 (.tmp 10)) ?_);refine ai 0 1 (.int .u8 c1) hm rfl rfl eq (rfl) ?_)
  | ((with_reducible refine aa (some 16) (.load 5 (.tmp 15)) ?_);refine ai 0 2 (.int .u8 c2) hm rfl rfl eq (rfl) ?_)
  | ((with_reducible refine aa (some 21) (.load 5 (.tmp 20)) ?_);refine ai 0 3 (.int .u8 c3) hm rfl rfl eq (rfl) ?_))
 go_ret
 exact ⟨rfl,hm.below⟩
open Go Go.RowKit Go.Maps
theorem UpdS.past {L M:List Nat} {w w1 w2:World} (h:UpdS L w w1) (k:UpdS M w1 w2) (hM:∀q∈M,w.heap.size≤q):UpdS L w w2 :=
 ⟨k.os.trans h.os,k.tape.trans h.tape,k.output.trans h.output,Nat.le_trans h.size k.size,fun q hq hn=>(k.block q (Nat.lt_of_lt_of_le hq h.size) (fun hh=>by have:=hM q hh;omega)).trans (h.block q hq hn)⟩
theorem dw {L:List Nat} {w w1 w2:World} (h:Below w.heap.size w w1) (k:UpdS L w1 w2) (hL:∀q∈L,w.heap.size≤q):Below w.heap.size w w2:=by
 have h9:UpdS [] w w2:=UpdS.past (UpdS.of_below h) k hL
 exact ⟨h9.os,h9.tape,h9.output,h9.size,fun q hq=>h9.block q hq (by simp)⟩
theorem Mem.updOut {w0 w w':World} {S:List Nat} {rows:List (Nat×List Value×TypeId)} {g:Nat} {l:List Value} {t:TypeId} (hm:Mem w0 S w rows) (hr:Row w g l t) (hty:∀r∈rows,r.2.2≠t) (hg:g∈S) (hu:Upd g w w'):Mem w0 S w' rows:=by
 refine ⟨hu.os.trans hm.os,hu.tape.trans hm.tape,hu.output.trans hm.output,Nat.le_trans hm.size hu.size,fun k hk hn=>(hu.block k (Nat.lt_of_lt_of_le hk hm.size) (fun e=>hn (e▸hg))).trans (hm.block k hk hn),fun r hr'=>?_,hm.nodup,hm.fresh⟩
 have h1:=hm.row r hr'
 refine hu.row h1 (fun e=>?_)
 have h2:=hty r hr'
 rw [e] at h1
 unfold Row at h1 hr
 rw [hr] at h1
 simp only [Option.some.injEq,Obj.cells.injEq] at h1
 exact h2 h1.2.1.symm
theorem big4_num (a b c d:Int) (ha:0≤a∧a<256) (hb:0≤b∧b<256) (hc:0≤c∧c<256) (hd:0≤d∧d<256):big4 a b c d=numL [a,b,c,d]:=by
 have h1:Go.bits .or .u32 (a * 16777216) (b * 65536)=a * 16777216+b * 65536:=by
  rw [u32_or (a * 16777216) (b * 65536) (by omega) (by omega) (by omega) (by omega),nat_join 24 _ _ (by omega) (by omega)]
  omega
 have h2:Go.bits .or .u32 (a * 16777216+b * 65536) (c * 256)=a * 16777216+b * 65536+c * 256:=by
  rw [u32_or (a * 16777216+b * 65536) (c * 256) (by omega) (by omega) (by omega) (by omega),nat_join 16 _ _ (by omega) (by omega)]
  omega
 have h3:Go.bits .or .u32 (a * 16777216+b * 65536+c * 256) d=a * 16777216+b * 65536+c * 256+d:=by
  rw [u32_or (a * 16777216+b * 65536+c * 256) d (by omega) (by omega) (by omega) (by omega),nat_join 8 _ _ (by omega) (by omega)]
  omega
 unfold big4
 rw [h1,h2,h3]
 simp only [numL,List.foldl_cons,List.foldl_nil]
 omega
theorem edOf_four (i:Nat) (h:i<4294967296):edOf (four (i:Int))=(i:Int):=by
 have h9:=numL_be4 (n:=(i:Int)) (by omega)
 have e:edOf (four (i:Int))=numL (be4 (i:Int)):=by
  unfold edOf four be4
  simp only [List.getD_eq_getElem?_getD,List.getElem?_cons_zero,List.getElem?_cons_succ,Option.getD_some]
  rw [big4_num ((i:Int) / 16777216 % 256) ((i:Int) / 65536 % 256) ((i:Int) / 256 % 256) ((i:Int) % 256) (by omega) (by omega) (by omega) (by omega)]
  simp only [numL,List.foldl_cons,List.foldl_nil]
  omega
 rw [e,h9]
theorem Marks.one {q:Gens} {M:List Int} (h:Marks q 400 M) (i g:Nat) (hi:i<400):Marks (upf q i (some g)) 400 (putT M i 1 1):=by
 have e:putT M i 1 1=setBitL M i 1:=rfl
 rw [e]
 refine ⟨by rw [eQ,h.len],fi h.bytes _ (by decide),fun j hj=>?_⟩
 rw [mp (by rw [h.len];omega) (by decide),h.bit j hj]
 by_cases hji:j=i
 ·subst hji
  rw [if_pos rfl,b4,if_pos ⟨hj,rfl⟩]
 ·rw [if_neg hji,bj q _ hji]
theorem Marks.none:Marks (fun _=>none) 400 (List.replicate 50 0):=⟨by simp,Bytes.zeros 50,fun j _=>by rw [mB,if_neg (by simp)]⟩
theorem gone_done {kl:Nat→Lit} {left:Lit→Bool} {p:Sts} (h:∀k,left k=false):gone kl left p=p:=by
 funext i
 unfold gone
 rw [h]
 rfl
theorem tabL_none (l:List Int):∀n,tabL l (fun _=>none) n=l
 | 0=>rfl
 | n+1=>by rw [tabL];exact tabL_none l n
theorem wg_none (A:List Int):wg A (fun _=>none)=A:=by rw [wg,tabL_none,List.take_append_drop]
theorem row_keepB {w w':World} {g:Nat} {l:List Value} {t:TypeId} (h:Row w g l t) (hk:w'.heap[g]?=w.heap[g]?):Row w' g l t:=by
 unfold Row;rw [hk];exact h
theorem marks_map (m2:Nat) (p:Sts) (w:World) (h2:StM w m2 p) :
  Calls Tryz.prog 168 #[.map (some m2)] w fun e w'=>∃g,e=.returned (.slice (some ⟨g,0,none⟩) 50 50)∧w.heap.size≤g∧Row w' g (u8s (marksOf p)) 5∧Below w.heap.size w w':=by
 obtain ⟨kl,hkl⟩:=kl_ex
 have HKL:Hid (∀i,i<4294967296→IsK i (kl i)):=hkl
 obtain ⟨qn,D,ho,pm⟩:=h2
 have HO0:Hid (w.ownsMap Tryz.prog 115 rdV m2 qn D):=ho
 have HPM:Hid (SM D p):=pm
 have HGS:Hid (∀_:Unit,gone kl (Maps.has D) p=fun _=>none):=fun _=>mV hkl pm (fun i h=>h)
 have hm:=Mem.start w
 clear ho pm hkl
 have HZ0:Hid (List.replicate 50 (Value.int .u8 0)=u8s (List.replicate 50 0)):=by show _=_;simp [u8s]
 go_enter Tryz.func168,Tryz.ntmps168
 go_wp2_with (first
  | ((with_reducible refine aa (some 5) (.makeSlice 54 (.const (.int .i64 50)) (.const (.int .i64 50))) ?_);go_must (refine dg _ aq _ aU rfl 50 rfl (by first|rfl|omega) rfl (by first|rfl|omega) (by omega) hm ?_);clear hm;intro w1 gm hm;rw [HZ0.out] at hm;have HOW:Hid (w1.ownsMap Tryz.prog 115 rdV m2 qn D):=HO0.out.kept (br hm.below) (by simp);have HGM:Hid (Row w1 gm (u8s (List.replicate 50 0)) 5):=hm.get 0 rfl;have HGE:Hid (w.heap.size≤gm):=(by have h9:=hm.fresh _ (List.mem_cons_self ..);show _≤_;simpa using h9);have HGLT:Hid (gm<w1.heap.size):=(hm.get 0 rfl).lt;have HB1:Hid (Below w.heap.size w w1):=hm.below;have HGN2:Hid (gm≠m2):=(fun e=>by obtain ⟨es,c,hmp,_⟩:=HO0.out;have h1:=(Array.getElem?_eq_some_iff.1 hmp).1;have h2:=HGE.out;omega))
  | ((with_reducible refine aa (some 7) (.range 104 (.tmp 6)) ?_);go_must (refine wpList_range_own _ rfl _ _ rfl 115 162 de du rdV m2 qn D rfl HOW.out ?_);intro w2 hrg0 hg0 hs0))
 have hb2:Below w1.heap.size w1 w2:=⟨hg0.os,hg0.tape,hg0.output,hg0.size,fun k hk=>hg0.block k hk (by simp)⟩
 have HST:Hid (Row w2 gm (u8s (List.replicate 50 0)) 5∧UpdS [gm] w1 w2):=⟨Row.below' HGM.out hb2,UpdS.of_below hb2⟩
 have HRG:Hid (w2.ranges Tryz.prog 115 rdV m2 w1.heap.size qn D (Maps.has D) (Maps.size D)):=hrg0
 clear hrg0 hg0 hs0 hb2 HOW hm
 go_frame
 go_loopw [8] (fun _ wr=>∃(left:Lit→Bool) (cnt:Nat) (M:List Int),wr.ranges Tryz.prog 115 rdV m2 w1.heap.size qn D left cnt∧Row wr gm (u8s M) 5∧Marks (gone kl left p) 400 M∧UpdS [gm] w1 wr)
  (fun _ wr=>wr.rangeLeft m2 w1.heap.size)
 case atStart=>exact ⟨_,_,List.replicate 50 0,HRG.out,HST.out.1,by rw [HGS.out ()];exact Marks.none,HST.out.2⟩
 case round =>
  obtain ⟨left,cnt,M,hrg,hdr,hmk,hur⟩:=hrel
  have HR:Hid (Row wr gm (u8s M) 5):=hdr
  have HMK:Hid (Marks (gone kl left p) 400 M):=hmk
  have HUR:Hid (UpdS [gm] w1 wr):=hur
  have HRR:Hid (wr.ranges Tryz.prog 115 rdV m2 w1.heap.size qn D left cnt):=hrg
  clear hdr hur HRG HST hrg hmk
  go_wp2_with (first
   | (at_next;refine wpList_next_ranges _ rfl _ rfl 115 de rdV idxV id (fun key kl hk=>by obtain ⟨i,_,hi⟩:=IsK.of hk;exact ⟨i,hi⟩) (fun v _ _=>⟨v,rfl⟩) m2 w1.heap.size qn D _ _ rfl HRR.out ?_ ?_)
   | go_in)
  ·intro _ hl0
   have HL0:Hid (∀kl,left kl=false):=hl0
   clear hl0
   go_wp2_with fail
   go_ret
   have hk:=HMK.out
   rw [gone_done HL0.out] at hk
   have e:M=marksOf p:=hk.same (c8 p 400 (by decide))
   exact ⟨gm,rfl,HGE.out,by rw [←e];exact HR.out,dw HB1.out HUR.out (fun q hq=>by simp only [List.mem_cons,List.not_mem_nil,or_false] at hq;rw [hq];exact HGE.out)⟩
  ·intro x c k yd yp w3 cnt3 hkey hlk hv hat hrg3 hlt hg3 hs3 hen
   obtain ⟨i,hik,hxi⟩:=IsK.of hkey
   rw [hxi] at hen ⊢
   clear hxi hkey
   have hhas:Maps.has D k=true:=has_true_of_atKey hat
   rw [HPM.out.has i k hik] at hhas
   obtain ⟨s,hps⟩:=Option.isSome_iff_exists.1 hhas
   have hc:c=stV s:=by
    have h1:=HPM.out.val i k s hik hps (.held c)
    rw [hat] at h1
    have h2:=eZ hv
    rw [h2] at h1
    simpa using h1
   subst hc
   have hi4:=HPM.out.dom i s hps
   have HRG3:Hid (w3.ranges Tryz.prog 115 rdV m2 w1.heap.size qn D (fun z=>left z && !z.sameKey k) cnt3):=hrg3
   have HLT:Hid (cnt3<cnt):=hlt
   have HRL:Hid (wr.rangeLeft m2 w1.heap.size=cnt):=HRR.out.left_eq
   have HM3:Hid (Row w3 gm (u8s M) 5):=row_keepB HR.out (hg3.block gm HR.out.lt (fun e=>by have:=HGLT.out;simp only [Option.some.injEq] at e;omega))
   have HU3:Hid (UpdS [gm] w1 w3):=by
    refine ⟨hg3.os.trans HUR.out.os,hg3.tape.trans HUR.out.tape,hg3.output.trans HUR.out.output,Nat.le_trans HUR.out.size hg3.size,fun z hz hn=>?_⟩
    refine (hg3.block z (Nat.lt_of_lt_of_le hz HUR.out.size) (fun e=>?_)).trans (HUR.out.block z hz hn)
    simp only [Option.some.injEq] at e
    omega
   have HGO:Hid (∀_:Unit,upf (gone kl left p) i (some s)=gone kl (fun z=>left z && !z.sameKey k) p):=fun _=>km HKL.out HPM.out hik hps
   have HED:Hid (∀_:Unit,edOf (four (i:Int))=(i:Int)):=fun _=>edOf_four i (by omega)
   have HFB:Hid (Bytes (four (i:Int))):=fS _
   have hm:=Mem.start w3
   clear hlk hv hat hg3 hs3 hhas hps HR HUR hrg3 HRR hlt
   go_wp2_with (first
    | ((with_reducible refine aa (some 4) (.alloc 115) ?_);refine af _ eG hm ?_;clear hm;intro w4 ga hm)
    | ((with_reducible refine aa none (.store 115 (.tmp 4) (.tmp 11)) ?_);refine ag 0 (u8s (four (i:Int))) hm rfl rfl rfl 4 cF (by simp [ab]) (rfl) (ar _) ?_;clear hm;intro w6 hm)
    | ((with_reducible refine aa (some 13) (.slice 115 (.tmp 4) none none none) ?_);refine iO 4 cV av 0 4 (by omega) (by omega) rfl (Or.inr ⟨rfl,rfl⟩) (Or.inr ⟨rfl,rfl⟩) ?_)
    | (go_at_call 117;refine (bigN_any (four (i:Int)) _ (Nat.le_refl 4) HFB.out _ (aE (hm.get 0 rfl) rfl (Nat.le_refl _))).mono ?_;rintro e w7 ⟨he,hb⟩;rw [HED.out ()] at he;subst he;replace hm:=hm.call hb;clear hb)
    | (go_at_call 116;refine (lk gm 0 50 50 [] M i 1 1 rfl HMK.out.len HMK.out.bytes (by omega) (by omega) (by omega) _ (Row.below' HM3.out hm.below)).mono ?_;rintro e w8 ⟨rfl,hs8,hu8⟩;have HS8:Hid (Row w8 gm (u8s (putT M i 1 1)) 5):=hs8;have HU8:Hid (Upd gm w7 w8):=hu8;clear hs8 hu8))
   have hrg8:=World.ranges.kept (World.ranges.kept HRG3.out (br hm.below) (by simp) (by simp)) (dF HU8.out) (by intro e;exact HGN2.out (Option.some.inj e).symm) (by intro e;have h9:=Option.some.inj e;have:=HGLT.out;omega)
   have HRG8:Hid (w8.ranges Tryz.prog 115 rdV m2 w1.heap.size qn D (fun z=>left z && !z.sameKey k) cnt3):=hrg8
   have HRL8:Hid (w8.rangeLeft m2 w1.heap.size=cnt3):=hrg8.left_eq
   have HUF:Hid (UpdS [gm] w1 w8):=(HU3.out.trans (UpdS.of_below hm.below)).trans (UpdS.of_upd HU8.out (by simp))
   clear hrg8
   try go_frame
   go_roundw
   case rel=>exact ⟨_,_,_,HRG8.out,HS8.out,by rw [←HGO.out ()];exact HMK.out.one i s hi4,HUF.out⟩
   case measure=>rw [HRL8.out,HRL.out];exact HLT.out
theorem marks_nil (w:World) :
  Calls Tryz.prog 168 #[.map none] w fun e w'=>∃g,e=.returned (.slice (some ⟨g,0,none⟩) 50 50)∧w.heap.size≤g∧Row w' g (u8s (marksOf (fun _=>none))) 5∧Below w.heap.size w w':=by
 have hr:=fun W=>run_range_nilMap (P:=Tryz.prog) W 104 115 162 du
 have hm:=Mem.start w
 have HZ0:Hid (List.replicate 50 (Value.int .u8 0)=u8s (List.replicate 50 0)):=by show _=_;simp [u8s]
 go_enter Tryz.func168,Tryz.ntmps168
 go_wp2_with (first
  | ((with_reducible refine aa (some 5) (.makeSlice 54 (.const (.int .i64 50)) (.const (.int .i64 50))) ?_);go_must (refine dg _ aq _ aU rfl 50 rfl (by first|rfl|omega) rfl (by first|rfl|omega) (by omega) hm ?_);clear hm;intro w1 gm hm;rw [HZ0.out] at hm))
 have hnx:=fun ty=>run_next_nilMap (P:=Tryz.prog) w1 ty 0 0 #[]
 refine wp_loop_rounds 1 ?_
 rw [rounds_succ]
 go_wp2_with fail
 go_ret
 have hf:=hm.fresh _ (List.mem_cons_self ..)
 have hb:=hm.below
 have h0:=hm.get 0 rfl
 have e:List.replicate 50 (0:Int)=marksOf (fun _=>none):=Marks.none.same (c8 _ 400 (by decide))
 rw [e] at h0
 exact ⟨gm,rfl,by simpa using hf,Row.alloc h0 _,hb.trans (Below.mono ((Below.refl _ _).alloc (Nat.le_refl _) _) hb.size)⟩
theorem iU {P:Program} {a:Act} {w:World} {dst:Option Tmp} {typ:TypeId} {pos:String} {aft:Array Edge} {gd:Option (Nat×Bool)} {ty:TypeId} {x:Operand} {lo hi:Option Operand} (n:Nat) {elem:TypeId} (hu:P.underlying ty=some (.array n elem)) (hs:(P.info? elem).map (·.size)=some 1) {g o:Nat} (l m:Nat) (hlm:l+m≤n) (hln:l<n) (hx:a.eval x=.pointer (some ⟨g,o,none⟩))
  (hlo:lo.map a.eval=some (.int .i64 l)∨(lo.map a.eval=none∧l=0)) (hhi:hi.map a.eval=some (.int .i64 (l+m:Nat))∨(hi.map a.eval=none∧l+m=n)) :
  (execOp a.eval {dst:=dst,op:=.slice ty x lo hi none,type:=typ,pos:=pos,after:=aft,guard:=gd}).run P w=.ok (.value (.slice (some ⟨g,o+l,none⟩) m (n - l))) w:=by
 have hr:=run_sla (P:=P) w hu hs g o l m hlm hln (lo.map a.eval) (hi.map a.eval) hlo hhi
 unfold execOp
 simp only [hx,Option.map_none,hr,Sem.run_bind,Sem.run_pure,Result.andThen_ok]
theorem withGens_map (A:List Int) (u:Value) (m2:Nat) (p:Sts) (hal:A.length=2048) (hab:Bytes A) (w:World) (hu:SlOld w u A) (h2:StM w m2 p) :
  Calls Tryz.prog 77 #[u,.map (some m2)] w fun e w'=>∃g,e=.returned (.slice (some ⟨g,0,none⟩) 2048 2048)∧w.heap.size≤g∧Row w' g (u8s (wg A p)) 5∧Below w.heap.size w w':=by
 obtain ⟨kl,hkl⟩:=kl_ex
 have HKL:Hid (∀i,i<4294967296→IsK i (kl i)):=hkl
 obtain ⟨qn,D,ho,pm⟩:=h2
 have HO0:Hid (w.ownsMap Tryz.prog 115 rdV m2 qn D):=ho
 have HPM:Hid (SM D p):=pm
 have HGS:Hid (∀_:Unit,gone kl (Maps.has D) p=fun _=>none):=fun _=>mV hkl pm (fun i h=>h)
 have hm:=Mem.start w
 clear ho pm hkl
 have HU:Hid (SlOld w u A):=hu
 have HAL:Hid (A.length=2048):=hal
 have HAB:Hid (Bytes A):=hab
 have HFL:Hid (∀_:Unit,fillTo A 2048=A):=fun _=>by rw [fillTo,List.take_of_length_le (by omega),hal];simp
 clear hu hal hab
 go_enter Tryz.func77,Tryz.ntmps77
 go_wp2_with (first
  | (go_at_call 115;refine (aK A _ 2048 2048 HAL.out (by omega) _ HU.out).mono ?_;rintro e w1 ⟨gm,rfl,hge,hr0,hb⟩;rw [HFL.out ()] at hr0;replace hm:=hm.callNew hb hr0 hge;clear hge hr0 hb;have HOW:Hid (w1.ownsMap Tryz.prog 115 rdV m2 qn D):=HO0.out.kept (br hm.below) (by simp);have HGM:Hid (Row w1 gm (u8s A) 5):=hm.get 0 rfl;have HGE:Hid (w.heap.size≤gm):=(by have h9:=hm.fresh _ (List.mem_cons_self ..);show _≤_;simpa using h9);have HGLT:Hid (gm<w1.heap.size):=(hm.get 0 rfl).lt;have HB1:Hid (Below w.heap.size w w1):=hm.below;have HGN2:Hid (gm≠m2):=(fun e=>by obtain ⟨es,c,hmp,_⟩:=HO0.out;have h1:=(Array.getElem?_eq_some_iff.1 hmp).1;have h2:=HGE.out;omega))
  | ((with_reducible refine aa (some 11) (.range 104 (.tmp 10)) ?_);go_must (refine wpList_range_own _ rfl _ _ rfl 115 162 de du rdV m2 qn D rfl HOW.out ?_);intro w2 hrg0 hg0 hs0))
 have hb2:Below w1.heap.size w1 w2:=⟨hg0.os,hg0.tape,hg0.output,hg0.size,fun k hk=>hg0.block k hk (by simp)⟩
 have HST:Hid (Row w2 gm (u8s A) 5∧UpdS [gm] w1 w2):=⟨Row.below' HGM.out hb2,UpdS.of_below hb2⟩
 have HRG:Hid (w2.ranges Tryz.prog 115 rdV m2 w1.heap.size qn D (Maps.has D) (Maps.size D)):=hrg0
 clear hrg0 hg0 hs0 hb2 HOW hm
 go_frame
 go_loopw [12] (fun _ wr=>∃(left:Lit→Bool) (cnt:Nat) (M:List Int),wr.ranges Tryz.prog 115 rdV m2 w1.heap.size qn D left cnt∧Row wr gm (u8s (A.take 299++M)) 5∧GTab (A.drop 299) (gone kl left p) M∧UpdS [gm] w1 wr)
  (fun _ wr=>wr.rangeLeft m2 w1.heap.size)
 case atStart=>exact ⟨_,_,A.drop 299,HRG.out,by rw [List.take_append_drop];exact HST.out.1,by rw [HGS.out ()];exact GTab.start (Bytes.drop HAB.out 299),HST.out.2⟩
 case round =>
  obtain ⟨left,cnt,M,hrg,hdr,hmk,hur⟩:=hrel
  have HR:Hid (Row wr gm (u8s (A.take 299++M)) 5):=hdr
  have HMK:Hid (GTab (A.drop 299) (gone kl left p) M):=hmk
  have HUR:Hid (UpdS [gm] w1 wr):=hur
  have HRR:Hid (wr.ranges Tryz.prog 115 rdV m2 w1.heap.size qn D left cnt):=hrg
  clear hdr hur HRG HST hrg hmk
  go_wp2_with (first
   | (at_next;refine wpList_next_ranges _ rfl _ rfl 115 de rdV idxV id (fun key kl hk=>by obtain ⟨i,_,hi⟩:=IsK.of hk;exact ⟨i,hi⟩) (fun v _ _=>⟨v,rfl⟩) m2 w1.heap.size qn D _ _ rfl HRR.out ?_ ?_)
   | go_in)
  ·intro _ hl0
   have HL0:Hid (∀kl,left kl=false):=hl0
   clear hl0
   go_wp2_with fail
   go_ret
   have hk:=HMK.out
   rw [gone_done HL0.out] at hk
   have e:M=tabL (A.drop 299) p 400:=hk.same (wg_tab HAL.out HAB.out (fun i g h=>HPM.out.dom i g h))
   exact ⟨gm,rfl,HGE.out,by unfold wg;rw [←e];exact HR.out,dw HB1.out HUR.out (fun q hq=>by simp only [List.mem_cons,List.not_mem_nil,or_false] at hq;rw [hq];exact HGE.out)⟩
  ·intro x c k yd yp w3 cnt3 hkey hlk hv hat hrg3 hlt hg3 hs3 hen
   obtain ⟨i,hik,hxi⟩:=IsK.of hkey
   rw [hxi] at hen ⊢
   clear hxi hkey
   have hhas:Maps.has D k=true:=has_true_of_atKey hat
   rw [HPM.out.has i k hik] at hhas
   obtain ⟨s,hps⟩:=Option.isSome_iff_exists.1 hhas
   have hc:c=stV s:=by
    have h1:=HPM.out.val i k s hik hps (.held c)
    rw [hat] at h1
    have h2:=eZ hv
    rw [h2] at h1
    simpa using h1
   subst hc
   have hi4:=HPM.out.dom i s hps
   have HRG3:Hid (w3.ranges Tryz.prog 115 rdV m2 w1.heap.size qn D (fun z=>left z && !z.sameKey k) cnt3):=hrg3
   have HLT:Hid (cnt3<cnt):=hlt
   have HRL:Hid (wr.rangeLeft m2 w1.heap.size=cnt):=HRR.out.left_eq
   have HM3:Hid (Row w3 gm (u8s (A.take 299++M)) 5):=row_keepB HR.out (hg3.block gm HR.out.lt (fun e=>by have:=HGLT.out;simp only [Option.some.injEq] at e;omega))
   have HU3:Hid (UpdS [gm] w1 w3):=by
    refine ⟨hg3.os.trans HUR.out.os,hg3.tape.trans HUR.out.tape,hg3.output.trans HUR.out.output,Nat.le_trans HUR.out.size hg3.size,fun z hz hn=>?_⟩
    refine (hg3.block z (Nat.lt_of_lt_of_le hz HUR.out.size) (fun e=>?_)).trans (HUR.out.block z hz hn)
    simp only [Option.some.injEq] at e
    omega
   have HGO:Hid (∀_:Unit,upf (gone kl left p) i (some s)=gone kl (fun z=>left z && !z.sameKey k) p):=fun _=>km HKL.out HPM.out hik hps
   have HED:Hid (∀_:Unit,edOf (four (i:Int))=(i:Int)):=fun _=>edOf_four i (by omega)
   have HFB:Hid (Bytes (four (i:Int))):=fS _
   have hm:=Mem.start w3
   clear hlk hv hat hg3 hs3 hhas hps HR HUR hrg3 HRR hlt
   go_wp2_with (first
    | ((with_reducible refine aa (some 6) (.alloc 115) ?_);refine af _ eG hm ?_;clear hm;intro w4 ga hm)
    | ((with_reducible refine aa (some 7) (.alloc 162) ?_);refine af _ cC hm ?_;clear hm;intro w5 gb hm)
    | ((with_reducible refine aa none (.store 115 (.tmp 6) (.tmp 15)) ?_);refine ag 1 (u8s (four (i:Int))) hm rfl rfl rfl 4 cF (by simp [ab]) (rfl) (ar _) ?_;clear hm;intro w6a hm)
    | ((with_reducible refine aa none (.store 162 (.tmp 7) (.tmp 16)) ?_);refine ag 0 (stC s) hm rfl rfl rfl 1 dx rfl rfl (d4 _) ?_;clear hm;intro w7a hm))
   obtain ⟨at_,hat_⟩:∃z:Nat,z=29 * i:=⟨_,rfl⟩
   have HAT:Hid (∀_:Unit,at_=29 * i):=fun _=>hat_
   have hatb:at_+29≤11600:=by omega
   have HWA:IntKind.i64.wrap ((i:Int) * 29)=(at_:Int):=by rw [show (i:Int) * 29=(at_:Int) by omega];exact b7 at_ (by omega)
   have HWB:wrap64 ((i:Int) * 29)=(at_:Int):=by rw [show (i:Int) * 29=(at_:Int) by omega];exact eD _ (by omega)
   have HMI:(i:Int) * 29=(at_:Int):=by omega
   have HWI:IntKind.i64.wrap (i:Int)=(i:Int):=b7 i (by omega)
   have HWT:IntKind.i64.wrap (at_:Int)=(at_:Int):=b7 at_ (by omega)
   have HML:Hid (M.length=1749):=by show _=_;rw [HMK.out.len,List.length_drop,HAL.out]
   have HA0:Hid ((A.take 299).length=299):=by show _=_;rw [List.length_take,HAL.out];rfl
   clear hat_
   refine au ?_
   refine ap (T:=fun W=>Mem w3 [gm] W [(gb,stC s,162),(ga,u8s (four (i:Int)),115)]) (by kernel_rfl) hm ?_
   clear hm
   intro w7b hm
   refine aT 0 (v:=.slice (some ⟨gm,0,none⟩) 2048 2048) rfl (by kernel_rfl) rfl (fun W _=>by go_simp) hm.but ?_
   go_simp
   refine aT 1 (v:=.slice (some ⟨gm,299,none⟩) 1749 1749) rfl (by kernel_rfl) rfl (fun W _=>dI (g:=gm) (o:=0) (len:=2048) (cap:=2048) aq av 299 1749 (by omega) (by omega) rfl rfl rfl rfl) hm.but ?_
   go_simp
   refine aT 2 (v:=.slice (some ⟨ga,0,none⟩) 4 4) rfl (by kernel_rfl) rfl (fun W _=>iU 4 cV av 0 4 (by omega) (by omega) rfl (Or.inr ⟨rfl,rfl⟩) (Or.inr ⟨rfl,rfl⟩)) hm.but ?_
   go_simp
   refine aT 6 (v:=.pointer (some ⟨gb,0,none⟩)) rfl (by kernel_rfl) rfl (fun W _=>by go_simp) hm.but ?_
   go_simp
   refine aT 7 (v:=.int .u64 (s:Int)) rfl (by kernel_rfl) rfl (fun W hW=>aF (.int .u64 (s:Int)) (((Mem.get hW 0 rfl).cell 0).trans rfl) rfl aI) hm.but ?_
   go_simp
   refine aO 3 (by kernel_rfl) rfl rfl ?_
   intro K hK
   go_wp2_with (go_at_call 117;refine (bigN_any (four (i:Int)) _ (Nat.le_refl 4) HFB.out _ (aE (hm.get 1 rfl) rfl (Nat.le_refl _))).mono ?_;rintro e w7c ⟨he,hb⟩;rw [HED.out ()] at he;subst he;replace hm:=hm.call hb;clear hb)
   refine hK _ _ hm.but ?_
   clear hK K
   refine aT 4 (v:=.int .i64 (i:Int)) rfl (by kernel_rfl) rfl (fun W _=>by go_simp) hm.but ?_
   go_simp
   refine aT 5 (v:=.int .i64 (at_:Int)) rfl (by kernel_rfl) rfl (fun W _=>by go_simp) hm.but ?_
   go_simp
   refine aO 8 (by kernel_rfl) rfl rfl ?_
   intro K hK
   go_wp2_with (go_at_call 116;refine (lk gm 299 1749 1749 (A.take 299) M at_ 29 s HA0.out HML.out HMK.out.bytes (by omega) (by omega) (by omega) _ (Row.below' HM3.out hm.below)).mono ?_;rintro e w8 ⟨rfl,hs8,hu8⟩;have HS8:Hid (Row w8 gm (u8s (A.take 299++putT M at_ s 29)) 5):=hs8;have HU8:Hid (Upd gm w7c w8):=hu8;have HM8:Hid (Mem w3 [gm] w8 [(gb,stC s,162),(ga,u8s (four (i:Int)),115)]):=Mem.updOut (hm.but (S:=[gm])) (Row.below' HM3.out hm.below) (by intro r hr;simp only [List.mem_cons,List.not_mem_nil,or_false] at hr;rcases hr with rfl|rfl<;>simp) (by simp) hu8;clear hs8 hu8)
   refine hK _ _ HM8.out ?_
   clear hK K
   refine wpAnyH_done (by kernel_rfl) ?_ _
   simp only [endsIn]
   go_wp2_with fail
   have hrg8:=World.ranges.kept (World.ranges.kept HRG3.out (br hm.below) (by simp) (by simp)) (dF HU8.out) (by intro e;exact HGN2.out (Option.some.inj e).symm) (by intro e;have h9:=Option.some.inj e;have:=HGLT.out;omega)
   have HRG8:Hid (w8.ranges Tryz.prog 115 rdV m2 w1.heap.size qn D (fun z=>left z && !z.sameKey k) cnt3):=hrg8
   have HRL8:Hid (w8.rangeLeft m2 w1.heap.size=cnt3):=hrg8.left_eq
   have HUF:Hid (UpdS [gm] w1 w8):=(HU3.out.trans (UpdS.of_below hm.below)).trans (UpdS.of_upd HU8.out (by simp))
   clear hrg8
   try go_frame
   go_roundw
   case rel=>exact ⟨_,_,putT M at_ s 29,HRG8.out,HS8.out,by rw [←HGO.out ()];have h9:=HMK.out.one i s (by rw [List.length_drop,HAL.out];omega);rw [HAT.out ()];exact h9,HUF.out⟩
   case measure=>rw [HRL8.out,HRL.out];exact HLT.out
theorem withGens_nil (A:List Int) (u:Value) (hal:A.length=2048) (w:World) (hu:SlOld w u A) :
  Calls Tryz.prog 77 #[u,.map none] w fun e w'=>∃g,e=.returned (.slice (some ⟨g,0,none⟩) 2048 2048)∧w.heap.size≤g∧Row w' g (u8s (wg A (fun _=>none))) 5∧Below w.heap.size w w':=by
 have hr:=fun W=>run_range_nilMap (P:=Tryz.prog) W 104 115 162 du
 have hm:=Mem.start w
 have HU:Hid (SlOld w u A):=hu
 have HAL:Hid (A.length=2048):=hal
 have HFL:Hid (∀_:Unit,fillTo A 2048=A):=fun _=>by rw [fillTo,List.take_of_length_le (by omega),hal];simp
 clear hu hal
 go_enter Tryz.func77,Tryz.ntmps77
 go_wp2_with (first
  | (go_at_call 115;refine (aK A _ 2048 2048 HAL.out (by omega) _ HU.out).mono ?_;rintro e w1 ⟨gm,rfl,hge,hr0,hb⟩;rw [HFL.out ()] at hr0;replace hm:=hm.callNew hb hr0 hge;clear hge hr0 hb))
 have hnx:=fun ty=>run_next_nilMap (P:=Tryz.prog) w1 ty 0 0 #[]
 refine wp_loop_rounds 1 ?_
 rw [rounds_succ]
 go_wp2_with fail
 go_ret
 have hf:=hm.fresh _ (List.mem_cons_self ..)
 have hb:=hm.below
 have h0:=hm.get 0 rfl
 rw [wg_none]
 exact ⟨gm,rfl,by simpa using hf,Row.alloc h0 _,hb.trans (Below.mono ((Below.refl _ _).alloc (Nat.le_refl _) _) hb.size)⟩
def StV (w:World) (mv:Value) (p:Sts):Prop:=(mv=.map none∧p=fun _=>none)∨∃m,mv=.map (some m)∧StM w m p
theorem StV.below {w w':World} {mv:Value} {p:Sts} (h:StV w mv p) (hb:Below w.heap.size w w'):StV w' mv p:=by
 rcases h with h|⟨m,rfl,h⟩
 ·exact Or.inl h
 ·exact Or.inr ⟨m,rfl,h.below hb⟩
theorem lh {a:Act} {w:World} {dst:Option Tmp} {typ:TypeId} {pos:String} {aft:Array Edge} {gd:Option (Nat×Bool)} {x k:Operand} {mv:Value} {p:Sts} (h:StV w mv p) (i:Nat) (hi:i<4294967296) (hx:a.eval x=mv) (hk:a.eval k=idxV i) :
  (execOp a.eval {dst:=dst,op:=.lookup 104 x k true,type:=typ,pos:=pos,after:=aft,guard:=gd}).run Tryz.prog w=.ok (.value (.tuple #[stV ((p i).getD 0),.bool (p i).isSome])) w:=by
 rcases h with ⟨rfl,rfl⟩|⟨m,rfl,h⟩
 ·exact exec_nillook i hi hx hk
 ·exact ee h i hi hx hk
theorem marksOf_any (mv:Value) (p:Sts) (w:World) (h:StV w mv p) :
  Calls Tryz.prog 168 #[mv] w fun e w'=>∃g,e=.returned (.slice (some ⟨g,0,none⟩) 50 50)∧w.heap.size≤g∧Row w' g (u8s (marksOf p)) 5∧Below w.heap.size w w':=by
 rcases h with ⟨rfl,rfl⟩|⟨m,rfl,h⟩
 ·exact marks_nil w
 ·exact marks_map m p w h
theorem withGens_any (A:List Int) (u mv:Value) (p:Sts) (hal:A.length=2048) (hab:Bytes A) (w:World) (hu:SlOld w u A) (h:StV w mv p) :
  Calls Tryz.prog 77 #[u,mv] w fun e w'=>∃g,e=.returned (.slice (some ⟨g,0,none⟩) 2048 2048)∧w.heap.size≤g∧Row w' g (u8s (wg A p)) 5∧Below w.heap.size w w':=by
 rcases h with ⟨rfl,rfl⟩|⟨m,rfl,h⟩
 ·exact withGens_nil A u hal w hu
 ·exact withGens_map A u m p hal hab w hu h
open Go Go.RowKit
theorem my (s:ByteArray):Lib.byteCells s.data.toList=u8s (strB s):=by
 simp [Lib.byteCells,u8s,strB]
theorem fd {a:Act} {w:World} {dst:Option Tmp} {typ:TypeId} {pos:String} {aft:Array Edge} {gd:Option (Nat×Bool)} {x hi:Operand} (s:ByteArray) (n:Nat) (hn:s.size=n) (hx:a.eval x=.string s) (hh:a.eval hi=.int .i64 (n:Int)) :
  (execOp a.eval {dst:=dst,op:=.slice 9 x none (some hi) none,type:=typ,pos:=pos,after:=aft,guard:=gd}).run Tryz.prog w=.ok (.value (.string s)) w:=by
 have h1:(Instr.slice 9 (.string s) none (some (.int .i64 (n:Int))) none).run Tryz.prog w=.ok (.string s) w:=by
  have h2:=run_slice_string_h (P:=Tryz.prog) w 9 s er .i64 (n:Int) (by omega) (by omega)
  rw [h2,Int.toNat_natCast,←hn,ByteArray.extract_zero_size]
 unfold execOp
 simp only [hx,hh,Instr.sliceAt,run_underlying er,Option.map_some,Option.map_none,h1,Sem.run_bind,Sem.run_pure,Result.andThen_ok]
section
variable {P:Program} {ops:Array Oper} {rest:List Oper} {a:Act} {w w0:World} {Q:Exit→Act→World→Prop} {dst:Option Tmp} {typ:TypeId} {pos:String} {aft:Array Edge} {S:List Nat} {rows:List (Nat×List Value×TypeId)}
theorem iP {d x:Operand} {dT sT:TypeId} (i:Nat) {g:Nat} {l:List Value} {t:TypeId} (off dLen dCap:Nat) (s:ByteArray) (new:List Value) (hm:Mem w0 S w rows) (hi:rows[i]?=some (g,l,t))
  (hd:a.eval d=.slice (some ⟨g,off,none⟩) dLen dCap) (hs:a.eval x=.string s) (elem:TypeId) (hu:P.underlying dT=some (.slice elem)) (hsz:(P.info? elem).map (·.size)=some 1)
  (hle:s.size≤dLen) (hfit:off+s.size≤l.length) (hnew:splice l off (u8s (strB s))=new)
  (h:∀w',Mem w0 S w' (rows.set i (g,new,t))→wpList P ops Q rest (a.put dst (.int .i64 s.size)) w') :
  wpList P ops Q ({dst:=dst,op:=.call {callee:=.builtin .copy,args:=#[d,x],argTypes:=#[dT,sT]},type:=typ,pos:=pos,after:=aft,guard:=none}::rest) a w:=by
 have hr:=hm.get i hi
 have hrun:=Lib.run_copy_row_string (P:=P) w dT sT typ elem g off dLen dCap s l.toArray t hu hsz hr hle (by simpa using hfit)
 have e:(l.take off++Lib.byteCells s.data.toList++l.drop (off+s.size))=new:=by
  rw [←hnew,my]
  unfold splice
  rw [ab,a6,List.append_assoc]
 rw [e] at hrun
 refine wpList_plain rfl fun K hK=>?_
 have hh:=hK _ _ (h _ (hm.upd i hi (Upd.setRow g w new.toArray) (hr.setRow new)))
 unfold Oper.wp execOp
 simp only [resolve,invoke,builtin,Sem.run_bind,Sem.run_pure,Result.andThen_ok,List.map_toArray,List.map_cons,List.map_nil,hd,hs,hrun]
 exact hh
end
theorem text_pos (s:ByteArray) (n:Nat) (hn:s.size=n) (hl:n≤300) (h0:0<n) (w:World) :
  Calls Tryz.prog 54 #[.slice none 0 0,.string s] w fun e w'=>∃g,e=.returned (.slice (some ⟨g,0,none⟩) (2+n) (2+n))∧w.heap.size≤g∧Row w' g (u8s (be2 n++strB s)) 5∧Below w.heap.size w w':=by
 have hm:=Mem.start w
 have hex:s.extract 0 n=s:=by rw [←hn];exact ByteArray.extract_zero_size
 have HEX:Hid _:=hex
 have HSL:Hid ((strB s).length=n):=by show _=_;rw [a6,hn]
 have HW:IntKind.u64.wrap (n:Int)=(n:Int):=ec n (by omega)
 have HR0:Hid (List.replicate (2+n) (0:Int)=[0,0]++List.replicate n 0):=by
  show _=_
  rw [show [(0:Int),0]=List.replicate 2 0 from rfl,List.replicate_append_replicate]
 have HSP:Hid (splice (u8s ([]++(be2 n++List.replicate n 0))) 2 (u8s (strB s))=u8s (be2 n++strB s)):=by
  show _=_
  unfold splice u8s
  rw [←List.map_take,←List.map_drop,←List.map_append,←List.map_append]
  congr 1
  rw [List.nil_append,List.take_append_of_le_length (by simp [aH]),List.take_of_length_le (by simp [aH]),List.length_map,HSL.out,List.drop_of_length_le (by simp [aH]),List.append_nil]
 clear hex
 go_enter Tryz.func54,Tryz.ntmps54
 go_wp2_with (first
  | ((with_reducible refine aa (some 11) (.slice 9 (.tmp 7) none (some (.tmp 10)) none) ?_);go_must (refine ae (.string s) rfl (fd s n hn rfl rfl) ?_))
  | (go_at_call 90;refine (bm [] _ (2+n) (by simp) (by omega) _ ⟨none,0,rfl,Nat.le_refl _,fun h=>absurd h (by simp)⟩).mono ?_;rintro e w2 ⟨g,he,hge,hr,hb⟩;rw [show ([]:List Int).length+(2+n)=2+n from Nat.zero_add _] at he;subst he;rw [List.nil_append,HR0.out] at hr;replace hm:=hm.callNew hb hr hge;clear hb hr hge)
  | (go_at_call 91;refine (dl g [] (List.replicate n 0) n _ _ (hm.get 0 rfl)).mono ?_;rintro e w3 ⟨rfl,hr2,hu⟩;replace hm:=hm.upd 0 rfl hu hr2;clear hr2 hu)
  | ((with_reducible refine aa (some 28) (.slice 54 (.tmp 27) (some (.const (.int .i64 2))) none none) ?_);go_must (refine wpl_slo2 aq av 2 (by omega) (by omega) rfl rfl (by first|rfl|omega) ?_))
  | ((with_reducible refine aa (some 30) (.call {callee:=.builtin .copy,args:=#[.tmp 28,.tmp 29],argTypes:=#[54,9]}) ?_);go_must (refine iP 0 2 n n s (u8s (be2 n++strB s)) hm rfl rfl rfl _ aq av (by omega) (by simp [ab,aH];omega) HSP.out ?_);clear hm;intro w4 hm))
 go_ret
 have hf:=hm.fresh _ (List.mem_cons_self ..)
 exact ⟨g,rfl,by simpa using hf,hm.get 0 rfl,hm.below⟩
end Go.Proofs.YtmlbjfklaehjnaaGreatDoor
