import Derived.Test.YtnllomcajijbjaaGreatDoorQp01
import Derived.Test.YtnllomcajijbjaaGreatDoorQp00
import Derived.OrdersHeld
set_option maxRecDepth 100000
set_option maxHeartbeats 4000000
namespace Go.Proofs.YtnllomcajijbjaaGreatDoor
open Go Go.RowKit
theorem info_hash:(Tryz.prog.info? 168).map (fun i=>(i.zero,i.size))=some (some (.agg (hrow (List.replicate 8 0) (List.replicate 64 0) 0).toArray),73):=by kernel_rfl
theorem sz_hash:(Tryz.prog.info? 168).map (·.size)=some 73:=(zero_of_info info_hash).2
theorem zero_hash:∀w,(zeroValue 168).run Tryz.prog w=.ok (.agg (hrow (List.replicate 8 0) (List.replicate 64 0) 0).toArray) w:=(zero_of_info info_hash).1
theorem fo:(Tryz.prog.info? 3).map (·.size)=some 1:=by kernel_rfl
theorem gL:∀w,(isAgg 3).run Tryz.prog w=.ok false w:=by intro w;simp [go_sem]
theorem bZ:(Tryz.prog.info? 5).map (fun i=>(i.zero,i.size,i.bytes))=some (some (.int .u8 0),1,1):=by kernel_rfl
theorem built_new:Tryz.prog.built 168 [(0,.agg (u32s firstW).toArray)]=some (hrow firstW (List.replicate 64 0) 0).toArray:=by kernel_rfl
theorem built_b64:Tryz.prog.built 63 []=some (u8s (List.replicate 64 0)).toArray:=by kernel_rfl
theorem jk (w:World) :
  Calls Tryz.prog 111 #[] w fun e w'=>e=.returned (.agg (u32s firstW).toArray)∧Below w.heap.size w w':=by
 go_enter Tryz.func111,Tryz.ntmps111
 go_wp2
 refine bodyPost_ret (v:=.agg (u32s firstW).toArray) (by simp [results,Tryz.results111,go_sem,u32s,firstW]) rfl ⟨rfl,?_⟩
 exact (Below.refl _ _).alloc (Nat.le_refl _) _
theorem begun_first (g:Nat) (rs:List Int) (n:Int) (hrs:rs.length=64) (hn:n<64) (w:World) (hr:Row w g (hrow firstW rs n) 168) :
  Calls Tryz.prog 104 #[.pointer (some ⟨g,0,none⟩)] w fun e w'=>e=.returned (.agg (u32s firstW).toArray)∧Below w.heap.size w w':=by
 have hc:w.cell? ⟨g,72,none⟩=some (.int .i64 n):=by rw [hr.cell,fE firstW rs n rfl hrs]
 have hg:g<w.heap.size:=hr.lt
 have c0:w.cell? ⟨g,0,none⟩=some (.int .u32 1779033703):=hr.cell 0
 have c1:w.cell? ⟨g,1,none⟩=some (.int .u32 3144134277):=hr.cell 1
 have c2:w.cell? ⟨g,2,none⟩=some (.int .u32 1013904242):=hr.cell 2
 have c3:w.cell? ⟨g,3,none⟩=some (.int .u32 2773480762):=hr.cell 3
 have c4:w.cell? ⟨g,4,none⟩=some (.int .u32 1359893119):=hr.cell 4
 have c5:w.cell? ⟨g,5,none⟩=some (.int .u32 2600822924):=hr.cell 5
 have c6:w.cell? ⟨g,6,none⟩=some (.int .u32 528734635):=hr.cell 6
 have c7:w.cell? ⟨g,7,none⟩=some (.int .u32 1541459225):=hr.cell 7
 clear hr
 have heq:∀W,(Op.equalIn 10000 166 (.agg #[.int .u32 1779033703,.int .u32 3144134277,.int .u32 1013904242,.int .u32 2773480762,.int .u32 1359893119,.int .u32 2600822924,.int .u32 528734635,.int .u32 1541459225]) (.agg #[.int .u32 0,.int .u32 0,.int .u32 0,.int .u32 0,.int .u32 0,.int .u32 0,.int .u32 0,.int .u32 0])).run Tryz.prog W=.ok false W:=by
  intro W
  have:=iH (P:=Tryz.prog) W 9998 166 72 8 .u32 eY Tryz.underlying72 dr firstW (List.replicate 8 0) rfl rfl
  exact this
 go_enter Tryz.func104,Tryz.ntmps104
 go_wp2
 refine bodyPost_ret (v:=.agg (u32s firstW).toArray) (by simp [results,Tryz.results104,go_sem,u32s,firstW]) rfl ⟨rfl,?_⟩
 exact (Below.refl _ _).alloc (Nat.le_refl _) _
theorem begun_later (g:Nat) (ws rs:List Int) (n:Int) (hws:ws.length=8) (hrs:rs.length=64) (hn:64≤n) (w:World) (hr:Row w g (hrow ws rs n) 168) :
  Calls Tryz.prog 104 #[.pointer (some ⟨g,0,none⟩)] w fun e w'=>e=.returned (.agg (u32s ws).toArray)∧Below w.heap.size w w':=by
 have hc:w.cell? ⟨g,72,none⟩=some (.int .i64 n):=by rw [hr.cell,fE ws rs n hws hrs]
 match ws,hws with
 | [x0,x1,x2,x3,x4,x5,x6,x7],_ =>
 have hg:g<w.heap.size:=hr.lt
 have c0:w.cell? ⟨g,0,none⟩=some (.int .u32 x0):=hr.cell 0
 have c1:w.cell? ⟨g,1,none⟩=some (.int .u32 x1):=hr.cell 1
 have c2:w.cell? ⟨g,2,none⟩=some (.int .u32 x2):=hr.cell 2
 have c3:w.cell? ⟨g,3,none⟩=some (.int .u32 x3):=hr.cell 3
 have c4:w.cell? ⟨g,4,none⟩=some (.int .u32 x4):=hr.cell 4
 have c5:w.cell? ⟨g,5,none⟩=some (.int .u32 x5):=hr.cell 5
 have c6:w.cell? ⟨g,6,none⟩=some (.int .u32 x6):=hr.cell 6
 have c7:w.cell? ⟨g,7,none⟩=some (.int .u32 x7):=hr.cell 7
 clear hr
 go_enter Tryz.func104,Tryz.ntmps104
 go_wp2
 refine bodyPost_ret (v:=.agg (u32s [x0,x1,x2,x3,x4,x5,x6,x7]).toArray) (by simp [results,Tryz.results104,go_sem,u32s]) rfl ⟨rfl,?_⟩
 exact (Below.refl _ _).alloc (Nat.le_refl _) _
theorem dQ (g:Nat) (ws rs:List Int) (n:Int) (hws:ws.length=8) (hrs:rs.length=64) (hn:n<64→ws=firstW) (w:World) (hr:Row w g (hrow ws rs n) 168) :
  Calls Tryz.prog 104 #[.pointer (some ⟨g,0,none⟩)] w fun e w'=>e=.returned (.agg (u32s ws).toArray)∧Below w.heap.size w w':=by
 by_cases h:n<64
 ·have:=hn h
  subst this
  exact begun_first g rs n hrs h w hr
 ·exact begun_later g ws rs n hws hrs (by omega) w hr
theorem new_any (w:World) :
  Calls Tryz.prog 103 #[] w fun e w'=>∃g,e=.returned (.pointer (some ⟨g,0,none⟩))∧w.heap.size≤g∧Row w' g (hrow firstW (List.replicate 64 0) 0) 168∧Below w.heap.size w w':=by
 have hm:=Mem.start w
 go_enter Tryz.func103,Tryz.ntmps103
 go_wp2_with (first
  | (go_at_call 111;refine (jk _).mono ?_;rintro e w1 ⟨rfl,hb⟩;replace hm:=hm.call hb;clear hb)
  | ((with_reducible refine aa (some 2) (.build 168 #[(0,.tmp 1)]) ?_);go_must (refine aM (hrow firstW (List.replicate 64 0) 0) [(0,.agg (u32s firstW).toArray)] rfl built_new ?_))
  | ((with_reducible refine aa (some 3) (.box 168 (.tmp 2)) ?_);refine aB (hrow firstW (List.replicate 64 0) 0) rfl hm ?_;clear hm;intro w2 g hm))
 go_ret
 have hf:=hm.fresh _ (List.mem_cons_self ..)
 exact ⟨g,rfl,by simpa using hf,hm.get 0 rfl,hm.below⟩
theorem fW (w:World) :
  Calls Tryz.prog 66 #[.int .i64 8] w fun e w'=>e=.returned (.int .i64 8)∧w'=w:=by
 go_enter Tryz.func66,Tryz.ntmps66
 go_wp2
 go_ret
 exact ⟨rfl,rfl⟩
theorem longer_nil (w:World) :
  Calls Tryz.prog 67 #[.slice none 0 0,.int .i64 8] w fun e w'=>∃g,e=.returned (.slice (some ⟨g,0,none⟩) 8 8)∧w.heap.size≤g∧Row w' g (u8s (List.replicate 8 0)) 5∧Below w.heap.size w w':=by
 have hm:=Mem.start w
 have hcp:∀(g:Nat) (W:World),(Builtin.copy_ #[33,33] 3 #[.slice (some ⟨g,0,none⟩) 8 8,.slice none 0 0]).run Tryz.prog W=.ok (goInt 0) W:=fun g W=>run_copy_nil (P:=Tryz.prog) W _ _ _ _ _ 8 8 aU (by rw [be];rfl)
 go_enter Tryz.func67,Tryz.ntmps67
 go_wp2_with (first
  | ((with_reducible refine aa (some 10) (.makeSlice 33 (.tmp 9) (.tmp 9)) ?_);refine eE _ aU _ bZ rfl 8 rfl rfl rfl rfl (by omega) hm ?_;clear hm;intro w1 g hm))
 go_ret
 have hf:=hm.fresh _ (List.mem_cons_self ..)
 exact ⟨g,rfl,by simpa using hf,hm.get 0 rfl,hm.below⟩
end Go.Proofs.YtnllomcajijbjaaGreatDoor
namespace Go.Proofs.YtnllomcajijbjaaGreatDoor
open Go Go.RowKit
theorem iB (g:Nat) (n:Int) (w:World) (hr:Row w g (u8s (List.replicate 8 0)) 5) :
  Calls Tryz.prog 68 #[.slice (some ⟨g,0,none⟩) 8 8,.int .u64 n] w fun e w'=>e=.returned (.tuple #[])∧Row w' g (u8s (be8 n)) 5∧Upd g w w':=by
 have hm:=Mem.enter hr
 clear hr
 go_enter Tryz.func68,Tryz.ntmps68
 go_wp2_with fail
 refine wp_loop_rounds 9 ?_
 iterate 9 (rw [rounds_succ];go_wp2_with (first
  | (((with_reducible refine aa none (.store 5 (.tmp 16) (.tmp 15)) ?_);refine bm 0 _ _ hm rfl (rfl) rfl be (by simp [u8s]) rfl rfl ?_;clear hm;intro w9 hm))))
 go_end0
 exact ⟨rfl,hm.get 0 rfl,hm.toUpd⟩
theorem fG (n:Int) (w:World) :
  Calls Tryz.prog 55 #[.slice none 0 0,.int .u64 n,.int .i64 8] w fun e w'=>∃g,e=.returned (.slice (some ⟨g,0,none⟩) 8 8)∧w.heap.size≤g∧Row w' g (u8s (be8 n)) 5∧Below w.heap.size w w':=by
 have hm:=Mem.start w
 go_enter Tryz.func55,Tryz.ntmps55
 go_wp2_with (first
  | (go_at_call 66;refine (fW _).mono ?_;rintro e w1 ⟨rfl,rfl⟩)
  | (go_at_call 67;refine (longer_nil _).mono ?_;rintro e w2 ⟨g,rfl,hge,hr,hb⟩)
  | (go_at_call 68;refine (iB g n _ hr).mono ?_;rintro e w3 ⟨rfl,hr2,hu⟩))
 go_ret
 exact ⟨g,rfl,hge,hr2,fv hb hu hge hb.size⟩
theorem iy (ws:List Int) (hws:ws.length=8) (w:World) :
  Calls Tryz.prog 106 #[.agg (u32s ws).toArray] w fun e w'=>e=.returned (.agg (u8s (asB ws)).toArray)∧Below w.heap.size w w':=by
 have hm:=Mem.start w
 go_enter Tryz.func106,Tryz.ntmps106
 go_wp2_with (first
  | ((with_reducible refine aa (some 1) (.box 166 (.tmp 0)) ?_);refine aB (u32s ws) rfl hm ?_;clear hm;intro w1 g1 hm)
  | ((with_reducible refine aa (some 2) (.alloc 38) ?_);refine aj _ cd hm ?_;clear hm;intro w2 g2 hm)
  | ((with_reducible refine aa (some 3) (.alloc 38) ?_);refine aj _ cd hm ?_;clear hm;intro w3 g3 hm)
  | ((with_reducible refine aa (some 7) (.load 166 (.tmp 1)) ?_);refine ay 2 hm rfl rfl _ eY rfl 8 co (by rw [ar];exact hws) ?_))

 go_loopw [8] (fun vi wr=>∃k:Nat,k≤8∧vi=.int .i64 k∧Mem w [] wr [(g3,u8s (asRow ws k),38),(g2,u8s (List.replicate 32 0),38),(g1,u32s ws,166)]) (fun vi _=>8 - (intOf vi).toNat)
 case atStart=>exact ⟨0,by omega,rfl,hm⟩
 case round =>
  clear hm
  obtain ⟨k,hk,rfl,hm⟩:=hrel
  by_cases hlt:k<8
  ·obtain ⟨x,hx⟩:∃x,x=ws.getD k 0:=⟨_,rfl⟩
   have hvx:(u32s ws)[k]?=some (.int .u32 x):=by rw [bQ _ _ (by omega),hx]
   have e4:IntKind.i64.wrap (4 * (k:Int))=((4 * k:Nat):Int):=by rw [show 4 * (k:Int)=((4 * k:Nat):Int) by omega,jj _ (by omega)]
   have hst:splice (u8s (asRow ws k)) (4 * k) (u8s (four x))=u8s (asRow ws (k+1)):=by
    rw [hx,←asRow_step ws hws k hlt];simp [splice,u8s]
   have hln:4 * k+4≤(u8s (asRow ws k)).length:=by rw [ab,asRow_length ws hws k hk];omega
   have HV:Hid _:=hvx
   have HE:Hid _:=e4
   have HS:Hid _:=hst
   have HL:Hid _:=hln
   clear hvx e4 hst hln hx
   go_wp2_with (first
    | ((with_reducible refine aa (some 11) (.index 166 (.tmp 7) (.tmp 8)) ?_);refine wpl_ixa 8 eY dr er (u32s ws) k (.int .u32 x) (hlt) rfl rfl (rfl) (HV.out) ?_)
    | (go_at_call 114;refine (putBig_any _ _).mono ?_;rintro e w4 ⟨rfl,hb⟩;replace hm:=hm.call hb;clear hb)
    | ((with_reducible refine aa (some 6) (.alloc 181) ?_);refine aj _ eg hm ?_;clear hm;intro w5 g5 hm)
    | ((with_reducible refine aa none (.store 181 (.tmp 6) (.tmp 13)) ?_);refine ap 0 (u8s (four x)) hm rfl rfl rfl 4 fT (by simp [ab]) (rfl) (aq _) ?_;clear hm;intro w6 hm))

   refine cG 4 (by kernel_rfl) (by kernel_rfl) hm ?_
   clear hm
   intro w7 hm
   simp only [List.take_succ_cons,List.take_zero,List.drop_succ_cons,List.drop_zero]
   still_step
   still_step
   refine fN 32 fc be (4 * k) (32 - 4 * k) (by omega) (by omega) rfl (Or.inl (eq _ rfl HE.out)) (Or.inr ⟨rfl,by omega⟩) ?_
   still_step
   refine wpStill_nil ?_
   go_wp2_with (first
    | ((with_reducible refine aa (some 18) (.call {callee:=.builtin .copy,args:=#[.tmp 16,.tmp 17],argTypes:=#[33,33]}) ?_);go_must (refine gr 1 (4 * k) (32 - 4 * k) (32 - 4 * k) ⟨g5,0,none⟩ 4 4 (u8s (four x)) hm rfl rfl rfl _ aU be (by have h4:(u8s (four x)).length=4:=rfl;rw [h4];show 4=min 4 (32 - 4 * k);omega) (by exact (Seg.row (hm.get 0 rfl)).src) (by exact HL.out) (aq _) ?_);clear hm;intro w8 hm))

   have hn:Mem w [] w8 [(g3,u8s (asRow ws (k+1)),38),(g2,u8s (List.replicate 32 0),38),(g1,u32s ws,166)]:=by
    rw [HS.out] at hm
    exact hm.tail
   clear hm
   go_roundw
   case rel=>exact ⟨k+1,by omega,by go_num,hn⟩
   case measure=>simp [intOf];omega
  ·have hk8:k=8:=by omega
   subst hk8
   rw [asRow_full ws hws] at hm
   have hln:(u8s (asB ws)).length=32:=by rw [ab,dv ws hws]
   have HL:Hid _:=hln
   clear hln
   go_wp2_with (first
    | ((with_reducible refine aa (some 20) (.load 38 (.tmp 3)) ?_);refine ay 0 hm rfl rfl _ fc rfl 32 b8 (HL.out) ?_)
    | ((with_reducible refine aa none (.store 38 (.tmp 2) (.tmp 20)) ?_);refine ap 1 (u8s (asB ws)) hm rfl rfl rfl 32 b8 (by simp [ab]) (HL.out) (aq _) ?_;clear hm;intro w8 hm))
   exact aJ 1 hm rfl Tryz.results106 rfl _ fc rfl 32 b8 HL.out rfl ⟨rfl,hm.below⟩
end Go.Proofs.YtnllomcajijbjaaGreatDoor
namespace Go.Proofs.YtnllomcajijbjaaGreatDoor
open Go Go.RowKit
theorem Tab.mem {w0 w:World} {S:List Nat} {rows:List (Nat×List Value×TypeId)} (h:Tab w0) (hm:Mem w0 S w rows) (hS:1 ∉ S):Tab w:=by
 intro j hj
 rw [hm.old (p:=⟨1,j,none⟩) h.lt hS]
 exact h j hj
theorem Tab.below {w w':World} (h:Tab w) (hb:Below w.heap.size w w'):Tab w':=by
 intro j hj
 rw [hb.cell (p:=⟨1,j,none⟩) h.lt]
 exact h j hj
theorem Tab.upd {w w':World} {g:Nat} (h:Tab w) (hu:Upd g w w') (hg:1≠g):Tab w':=by
 intro j hj
 rw [hu.cell (p:=⟨1,j,none⟩) h.lt hg]
 exact h j hj
theorem le_of_cut {j n r l:Nat} (h:n≤r) (hr:r=l - j) (hj:j≤l):j+n≤l:=by omega
theorem fK (g:Nat) (m cs:List Int) (v:Value) (hbm:Bytes m) (hbc:Bytes cs) (hlen:m.length+cs.length≤1099511627776) (w:World) (ht:Tab w) (hg0:1≠g) (hr:Row w g (hrow (wsOf m) (restOf m) m.length) 168) (hv:Sl w g v cs) :
  Calls Tryz.prog 91 #[.pointer (some ⟨g,0,none⟩),v] w fun e w'=>e=.returned (.tuple #[])∧Row w' g (hrow (wsOf (m++cs)) (restOf (m++cs)) (m++cs).length) 168∧Upd g w w':=by
 obtain ⟨p,cap,rfl,hcap,hseg⟩:=hv
 have hS:1 ∉ [g]:=by simpa using hg0
 have hm:=Mem.enter hr
 have hw8:=bA m
 have hr64:=bH m
 have hsm:(m.length:Int)<64→wsOf m=firstW:=fun h=>jr m (by omega)
 have hsz:(hrow (wsOf m) (restOf m) m.length)[72]?=some (.int .i64 m.length):=fE _ _ _ hw8 hr64
 have hln:(hrow (wsOf m) (restOf m) m.length).length=73:=cT _ _ _ hw8 hr64
 have HT:Hid _:=ht
 have HBM:Hid _:=hbm
 have HBC:Hid _:=hbc
 have HW8:Hid _:=hw8
 have HR64:Hid _:=hr64
 have HSM:Hid _:=hsm
 have HSZ:Hid _:=hsz
 have HLN:Hid _:=hln
 have HSEG:Hid _:=hseg
 have HS:Hid _:=hS
 clear ht hbm hbc hw8 hr64 hsm hsz hln hseg hS hr hg0
 go_enter Tryz.func91,Tryz.ntmps91
 go_wp2_with (first
  | (go_at_call 104;refine (dQ g _ _ _ HW8.out HR64.out HSM.out _ (hm.get 0 rfl)).mono ?_;rintro e w1 ⟨rfl,hb⟩;replace hm:=hm.call hb;clear hb)
  | ((with_reducible refine aa (some 4) (.alloc 166) ?_);refine aj _ eG hm ?_;clear hm;intro w2 g4 hm)
  | ((with_reducible refine aa none (.store 166 (.tmp 4) (.tmp 8)) ?_);refine ap 0 (u32s (wsOf m)) hm rfl rfl rfl 8 co (by simp [ar]) (by rw [ar];exact HW8.out) (bk _) ?_;clear hm;intro w3 hm)
  | ((with_reducible refine aa (some 12) (.load 3 (.tmp 11)) ?_);refine bi 1 72 (.int .i64 m.length) hm rfl rfl gL (HSZ.out) ?_)
  | ((with_reducible refine aa (some 17) (.load 3 (.tmp 16)) ?_);refine bi 1 72 (.int .i64 m.length) hm rfl rfl gL (HSZ.out) ?_)
  | ((with_reducible refine aa none (.store 3 (.tmp 22) (.tmp 20)) ?_);refine bm 1 72 (.int .i64 (m.length+cs.length)) hm rfl (rfl) rfl fo (by rw [HLN.out];omega) rfl rfl ?_;clear hm;intro w4 hm))

 rw [hrow_setSize _ _ _ _ HW8.out HR64.out] at hm
 replace hm:Mem w [g] w4 [(g4,u32s (wsOf m),166),(g,hrow (wsOf m) (restOf m) (m.length+cs.length),168)]:=hm
 clear HSM HSZ HLN HR64
 go_loopw [1,5] (fun vb vh wr=>∃j:Nat,j≤cs.length∧vh=.int .i64 ((m.length+j) % 64:Nat)∧Sl w g vb (cs.drop j)∧Mem w [g] wr [(g4,u32s (wsOf (m++cs.take j)),166),(g,hrow (wsOf m) (restOf (m++cs.take j)) (m.length+cs.length),168)])
  (fun vb _ _=>slLen vb)
 case atStart=>exact ⟨0,by omega,by go_num,⟨p,cap,rfl,hcap,HSEG.out⟩,by simpa using hm⟩
 case round =>
  clear hm HSEG hcap
  obtain ⟨j,hj,rfl,⟨p',cap',rfl,hcap',hseg'⟩,hm⟩:=hrel
  have hdl:(cs.drop j).length=cs.length - j:=by simp
  rw [hdl] at hcap' hseg'
  rw [hdl]
  obtain ⟨q,hq⟩:∃q,q=(m.length+j) % 64:=⟨_,rfl⟩
  obtain ⟨r,hrr⟩:∃r,r=cs.length - j:=⟨_,rfl⟩
  rw [←hq,←hrr]
  rw [←hrr] at hcap' hseg' hdl
  by_cases hpos:0<r
  ·obtain ⟨b,off,rfl,hne,hsg⟩:=hseg' hpos
   obtain ⟨n,hn⟩:∃n,n=Nat.min r (64 - q):=⟨_,rfl⟩
   have hq64:q<64:=by omega
   have hnr:n≤r:=by rw [hn];exact Nat.min_le_left _ _
   have hnq:n≤64 - q:=by rw [hn];exact Nat.min_le_right _ _
   have hjn:j+n≤cs.length:=le_of_cut hnr hrr hj
   obtain ⟨d,hd⟩:∃d,d=(cs.drop j).take n:=⟨_,rfl⟩
   have hdn:d.length=n:=by rw [hd];simp [hdl];omega
   have hM:(m++cs.take j).length=m.length+j:=by simp;omega
   have hMq:(m++cs.take j).length % 64=q:=by rw [hM,hq]
   have hM':m++cs.take (j+n)=(m++cs.take j)++d:=by rw [hd,List.append_assoc,List.take_add]
   have hsd:Seg w b off d:=by rw [hd];exact hsg.take n
   have hbd:Bytes d:=by rw [hd];exact (Bytes.drop HBC.out j).take n
   have hbM:Bytes (m++cs.take j):=Bytes.append HBM.out (Bytes.take HBC.out j)
   have hsl:∀p',p'=(if cap'=n then some ⟨b,off,none⟩ else (some (⟨b,off,none⟩:Addr)).map (·.add n))→Sl w g (.slice p' (r - n) (cap' - n)) (cs.drop (j+n)):=by
    intro p' hp
    have:=sl_drop (p:=p') (n:=n) (by rw [hdl];exact hcap') (by rw [hdl];exact hnr) hne hsg hp
    rw [hdl,List.drop_drop] at this
    exact this
   have hlr:(hrow (wsOf m) (restOf (m++cs.take j)) (m.length+cs.length)).length=73:=cT _ _ _ HW8.out (bH _)
   have hnew:splice (hrow (wsOf m) (restOf (m++cs.take j)) (m.length+cs.length)) (8+q) (u8s d)=hrow (wsOf m) (splice (restOf (m++cs.take j)) q d) (m.length+cs.length):=gq _ _ _ _ _ HW8.out (bH _) (by omega)
   have hnp:0<n:=by rw [hn];exact Nat.lt_min.2 ⟨hpos,by omega⟩
   have hne':b ∉ [g]:=by simpa using hne
   have HNE:Hid _:=hne'
   have HSL:Hid _:=hsl
   have HLR:Hid _:=hlr
   have HNEW:Hid _:=hnew
   have HN:Hid _:=hn
   have HDN:Hid _:=hdn
   have HMQ:Hid _:=hMq
   have HM':Hid _:=hM'
   have HSD:Hid (Seg w b off d):=hsd
   have HBD:Hid _:=hbd
   have HBJ:Hid _:=hbM
   have HQ:Hid _:=hq
   have HRR:Hid _:=hrr
   clear hseg' hsl hlr hnew hn hdn hMq hM' hsd hbd hbM hq hd hM hne hsg hdl hne' hrr
   by_cases hfull:q+n=64
   ·have hb1:((q:Int)+(n:Int)==64)=true:=beq_iff_eq.2 (by omega)
    have HF:Hid _:=hfull
    clear hfull
    go_wp2_with (first
     | ((with_reducible refine aa (some 30) (.slice 63 (.tmp 28) (some (.tmp 29)) none none) ?_);refine gA 64 cf be q (64 - q) (by omega) (by omega) rfl (Or.inl (eq _ rfl rfl)) (Or.inr ⟨rfl,by omega⟩) ?_)
     | ((with_reducible refine aa (some 32) (.call {callee:=.builtin .copy,args:=#[.tmp 30,.tmp 31],argTypes:=#[33,33]}) ?_);refine cU 1 (8+q) (64 - q) (64 - q) ⟨b,off,none⟩ r cap' (u8s d) n (hrow (wsOf m) (splice (restOf (m++cs.take j)) q d) (m.length+cs.length)) hm rfl rfl rfl _ aU be (by rw [ab];exact HDN.out) HN.out (by exact (HSD.out.mem hm HNE.out).src) (by rw [HLR.out];omega) (aq _) (by exact HNEW.out) ?_;clear hm;intro w5 hm)
     | ((with_reducible refine aa (some 35) (.slice 33 (.tmp 33) (some (.tmp 34)) none none) ?_);refine iN _ aU be n rfl rfl rfl hnr ?_;intro p2 hp2;have HS2:Hid _:=HSL.out p2 hp2;clear hp2))

    have hspl:(splice (restOf (m++cs.take j)) q d).length=64:=by rw [length_splice _ _ _ (by rw [bH,HDN.out];omega),bH]
    have hbs:Bytes (splice (restOf (m++cs.take j)) q d):=(gt HBJ.out).splice HBD.out q
    have hnz:splice (hrow (wsOf m) (splice (restOf (m++cs.take j)) q d) (m.length+cs.length)) 8 (u8s (List.replicate 64 0))=hrow (wsOf m) (List.replicate 64 0) (m.length+cs.length):=by
     have:=gq (wsOf m) (splice (restOf (m++cs.take j)) q d) (m.length+cs.length) 0 (List.replicate 64 0) HW8.out hspl (by simp)
     rw [eU _ _ (by rw [hspl];simp)] at this
     exact this
    have hl73:(hrow (wsOf m) (splice (restOf (m++cs.take j)) q d) (m.length+cs.length)).length=73:=cT _ _ _ HW8.out hspl
    have HSP:Hid _:=hspl
    have HBS:Hid _:=hbs
    have HNZ:Hid _:=hnz
    have H73:Hid _:=hl73
    clear hspl hbs hnz hl73
    refine cG 5 (by kernel_rfl) (by kernel_rfl) hm ?_
    clear hm
    intro w6 hm
    simp only [List.take_succ_cons,List.take_zero,List.drop_succ_cons,List.drop_zero]
    refine iE 0 0 (u32s (wsOf (m++cs.take j))) hm rfl rfl _ eY rfl 8 co (by simp [ar,bA]) (by rw [List.drop_zero,List.take_of_length_le (by simp [ar,bA])]) ?_
    still_step
    still_step
    still_step
    refine iE 1 8 (u8s (splice (restOf (m++cs.take j)) q d)) hm rfl rfl _ cf rfl 64 bq (by rw [H73.out];omega) (hrow_rest _ _ _ HW8.out HSP.out) ?_
    refine wpStill_nil ?_
    go_wp2_with (first
     | (go_at_call 105;refine (fC (wsOf (m++cs.take j)) (splice (restOf (m++cs.take j)) q d) (bA _) HSP.out (Bytes.get HBS.out) _ (Tab.mem HT.out hm HS.out)).mono ?_;rintro e w7 ⟨rfl,hb⟩;replace hm:=hm.call hb;clear hb)
     | ((with_reducible refine aa none (.store 166 (.tmp 4) (.tmp 46)) ?_);refine ap 0 (u32s (mix (wsOf (m++cs.take j)) (splice (restOf (m++cs.take j)) q d))) hm rfl rfl rfl 8 co (by simp [ar,bA]) (by rw [ar];exact bn _ _ (bA _)) (bk _) ?_;clear hm;intro w8 hm)
     | ((with_reducible refine aa (some 48) (.build 63 #[]) ?_);refine aM (u8s (List.replicate 64 0)) [] rfl built_b64 ?_)
     | ((with_reducible refine aa none (.store 63 (.tmp 50) (.tmp 48)) ?_);refine wpl_sts 1 8 (u8s (List.replicate 64 0)) (hrow (wsOf m) (List.replicate 64 0) (m.length+cs.length)) hm rfl rfl rfl 64 bq (by simp [ab]) (by rw [H73.out];omega) (aq _) (HNZ.out) ?_;clear hm;intro w9 hm))

    have hmm:Mem w [g] w9 [(g4,u32s (wsOf (m++cs.take (j+n))),166),(g,hrow (wsOf m) (restOf (m++cs.take (j+n))) (m.length+cs.length),168)]:=by
     rw [HM'.out,full_ws (m++cs.take j) d (by rw [HMQ.out,HDN.out];exact HF.out),full_rest (m++cs.take j) d (by rw [HMQ.out,HDN.out];exact HF.out),HMQ.out]
     exact hm
    clear hm
    go_roundw
    case rel=>exact ⟨j+n,hjn,by have h1:=HQ.out;have h2:=HF.out;go_num,HS2.out,hmm⟩
    case measure=>simp [slLen];omega
   ·have hb1:((q:Int)+(n:Int)==64)=false:=beq_eq_false_iff_ne.2 (by omega)
    have hlt64:q+n<64:=by omega
    go_wp2_with (first
     | ((with_reducible refine aa (some 30) (.slice 63 (.tmp 28) (some (.tmp 29)) none none) ?_);refine gA 64 cf be q (64 - q) (by omega) (by omega) rfl (Or.inl (eq _ rfl rfl)) (Or.inr ⟨rfl,by omega⟩) ?_)
     | ((with_reducible refine aa (some 32) (.call {callee:=.builtin .copy,args:=#[.tmp 30,.tmp 31],argTypes:=#[33,33]}) ?_);refine cU 1 (8+q) (64 - q) (64 - q) ⟨b,off,none⟩ r cap' (u8s d) n (hrow (wsOf m) (splice (restOf (m++cs.take j)) q d) (m.length+cs.length)) hm rfl rfl rfl _ aU be (by rw [ab];exact HDN.out) HN.out (by exact (HSD.out.mem hm HNE.out).src) (by rw [HLR.out];omega) (aq _) (by exact HNEW.out) ?_;clear hm;intro w5 hm)
     | ((with_reducible refine aa (some 35) (.slice 33 (.tmp 33) (some (.tmp 34)) none none) ?_);refine iN _ aU be n rfl rfl rfl hnr ?_;intro p2 hp2;have HS2:Hid _:=HSL.out p2 hp2;clear hp2))

    have hmm:Mem w [g] w5 [(g4,u32s (wsOf (m++cs.take (j+n))),166),(g,hrow (wsOf m) (restOf (m++cs.take (j+n))) (m.length+cs.length),168)]:=by
     rw [HM'.out,more_ws (m++cs.take j) d (by rw [HMQ.out,HDN.out];exact hlt64),more_rest (m++cs.take j) d (by rw [HMQ.out,HDN.out];exact hlt64),HMQ.out]
     exact hm
    clear hm
    go_roundw
    case rel=>exact ⟨j+n,hjn,by have:=HQ.out;go_num,HS2.out,hmm⟩
    case measure=>simp [slLen];omega
  ·have hjl:j=cs.length:=by clear hseg';omega
   have hr0:r=0:=by omega
   subst hr0
   subst hjl
   rw [List.take_length] at hm
   have h73:(hrow (wsOf m) (restOf (m++cs)) (m.length+cs.length)).length=73:=cT _ _ _ HW8.out (bH _)
   have hsw:splice (hrow (wsOf m) (restOf (m++cs)) (m.length+cs.length)) 0 (u32s (wsOf (m++cs)))=hrow (wsOf (m++cs)) (restOf (m++cs)) (m.length+cs.length):=jD _ _ _ _ HW8.out (bA _)
   have H73:Hid _:=h73
   have HSW:Hid _:=hsw
   clear h73 hsw hseg' hdl hrr hq
   go_wp2_with (first
    | ((with_reducible refine aa (some 52) (.load 166 (.tmp 4)) ?_);refine ay 0 hm rfl rfl _ eY rfl 8 co (by rw [ar];exact bA _) ?_)
    | ((with_reducible refine aa none (.store 166 (.tmp 54) (.tmp 52)) ?_);refine wpl_sts 1 0 (u32s (wsOf (m++cs))) (hrow (wsOf (m++cs)) (restOf (m++cs)) (m.length+cs.length)) hm rfl rfl rfl 8 co (by rw [ar];exact bA _) (by rw [H73.out];omega) (bk _) (HSW.out) ?_;clear hm;intro w9 hm))

   go_end0
   refine ⟨rfl,?_,hm.toUpd⟩
   have:=hm.get 1 rfl
   rw [List.length_append]
   simpa using this
open Go Go.RowKit
def endsIn (R:Act→World→Prop):Exit→Act→World→Prop
 | .normal,a,w=>R a w
 | _,_,_=>False
theorem wp_ends {P:Program} {c:Code} {Q:Exit→Act→World→Prop} {a:Act} {w:World} (R:Act→World→Prop) (h:c.wp P (endsIn R) a w) (hq:∀a w,R a w→Q .normal a w):c.wp P Q a w :=
 Code.wp_mono (fun e a w q=>by
  cases e with
  | normal=>exact hq a w q
  | _=>exact q.elim) h
theorem au {P:Program} {c:Code} {Q:Exit→Act→World→Prop} {a:Act} {w:World} (h:c.wp P (endsIn (fun a w=>Q .normal a w)) a w):c.wp P Q a w:=wp_ends _ h (fun _ _ h=>h)
theorem fM (n:Nat) (h:n<4611686018427387904):IntKind.u64.wrap (n:Int)=(n:Int):=by
 simp [IntKind.wrap,IntKind.bits,IntKind.signed]
 omega
section
variable {P:Program} {md:Region.Mode} {ops:Array Oper} {R:Act→World→Prop} {T:World→Prop} {fuel:Nat} {listed:Array Bool} {a:Act} {w w0:World} {S:List Nat} {rows:List (Nat×List Value×TypeId)}
theorem a6 {id:Nat} {l:List Oper} (hmix:P.follows .mixedOrders=true) (hm:Mem w0 S w rows)
  (h:∀w',Mem w0 S w' rows→wpAnyH P .any l.toArray (endsIn R) T l.toArray.size (Array.replicate l.toArray.size false) a w'):(Code.region id l.toArray true).wp P (endsIn R) a w :=
 wp_region_held hmix (h _ hm.drew)
theorem anyH_take (i:Nat) {o:Oper} {v:Value} (hi:ops[i]?=some o) (hs:Region.noSelect ops=true) (hf:Region.free md ops listed i=true) (hr:(Region.ready md ops listed).contains i=true) (hg:o.guard=none)
  (hy:∀w,T w→(execOp a.eval o).run P w=.ok (.value v) w) (hT:T w) (h:wpAnyH P md ops (endsIn R) T fuel (listed.setIfInBounds i true) (a.put o.dst v) w):wpAnyH P md ops (endsIn R) T (fuel+1) listed a w :=
 wpAnyH_take hi hs hf hr (fun _ _ _ h=>h) (Or.inl ⟨by simp [Region.wanted,hg],hy⟩) hT h
theorem aT (i:Nat) {o:Oper} {v:Value} (hi:ops[i]?=some o) (hb:(Region.noSelect ops&&Region.free md ops listed i&&(Region.ready md ops listed).contains i)=true) (hg:o.guard=none)
  (hy:∀w,T w→(execOp a.eval o).run P w=.ok (.value v) w) (hT:T w) (h:wpAnyH P md ops (endsIn R) T fuel (listed.setIfInBounds i true) (a.put o.dst v) w):wpAnyH P md ops (endsIn R) T (fuel+1) listed a w:=by
 simp only [Bool.and_eq_true] at hb
 exact anyH_take i hi hb.1.1 hb.1.2 hb.2 hg hy hT h
theorem bJ {ty:TypeId} {x:Operand} {dst:Option Tmp} {typ:TypeId} {pos:String} {aft:Array Edge} {g:Nat} {l:List Value} {t:TypeId} (off:Nat) (sub:List Value) (hr:Row w g l t) (hx:a.eval x=.pointer (some ⟨g,off,none⟩))
  (d:TypeDesc) (hu:P.underlying ty=some d) (hd:(match d with | .struct _ | .array _ _=>true|_=>false)=true) (n:Nat) (hs:(P.info? ty).map (·.size)=some n) (hn:off+n≤l.length) (hsub:(l.drop off).take n=sub) :
  (execOp a.eval {dst:=dst,op:=.load ty x,type:=typ,pos:=pos,after:=aft,guard:=none}).run P w=.ok (.value (.agg sub.toArray)) w:=by
 unfold execOp
 simp only [hx,Instr.loadAt,Instr.sureAddr,Sem.run_bind,Sem.run_pure,Result.andThen_ok,cL w g off n ty t l d hr hu hd hs hn,hsub]
theorem anyH_takeG (i:Nat) {o:Oper} {v:Value} (hi:ops[i]?=some o) (hs:Region.noSelect ops=true) (hf:Region.free md ops listed i=true) (hr:(Region.ready md ops listed).contains i=true) (hw:Region.wanted o (yielded ops a.tmps)=true)
  (hy:∀w,T w→(execOp a.eval o).run P w=.ok (.value v) w) (hT:T w) (h:wpAnyH P md ops (endsIn R) T fuel (listed.setIfInBounds i true) (a.put o.dst v) w):wpAnyH P md ops (endsIn R) T (fuel+1) listed a w :=
 wpAnyH_take hi hs hf hr (fun _ _ _ h=>h) (Or.inl ⟨hw,hy⟩) hT h
theorem aG (i:Nat) {o:Oper} {v:Value} (hi:ops[i]?=some o) (hb:(Region.noSelect ops&&Region.free md ops listed i&&(Region.ready md ops listed).contains i)=true) (hw:Region.wanted o (yielded ops a.tmps)=true)
  (hy:∀w,T w→(execOp a.eval o).run P w=.ok (.value v) w) (hT:T w) (h:wpAnyH P md ops (endsIn R) T fuel (listed.setIfInBounds i true) (a.put o.dst v) w):wpAnyH P md ops (endsIn R) T (fuel+1) listed a w:=by
 simp only [Bool.and_eq_true] at hb
 exact anyH_takeG i hi hb.1.1 hb.1.2 hb.2 hw hy hT h
theorem aF (i:Nat) {o:Oper} (hi:ops[i]?=some o) (hg:o.guard=none)
  (h:∀K:Act→World→Prop,(∀a' w',T w'→wpAnyH P md ops (endsIn R) T fuel (listed.setIfInBounds i true) a' w'→K a' w')→wpList P ops (endsIn K) [o] a w) :
  wpOp P ops (endsIn R) i (fun a' w'=>T w'∧wpAnyH P md ops (endsIn R) T fuel (listed.setIfInBounds i true) a' w') a w:=by
 have hh:=h (fun a' w'=>T w'∧wpAnyH P md ops (endsIn R) T fuel (listed.setIfInBounds i true) a' w') (fun _ _ h1 h2=>⟨h1,h2⟩)
 unfold wpOp
 simp only [hi]
 have hw:Region.wanted o (yielded ops a.tmps)=true:=by simp [Region.wanted,hg]
 unfold wpList at hh
 rw [if_pos hw] at hh
 rw [if_pos hw]
 exact hh
theorem aP (i:Nat) {o:Oper} (hr:Region.ready md ops listed=[i]) (hi:ops[i]?=some o) (hg:o.guard=none)
  (h:∀K:Act→World→Prop,(∀a' w',T w'→wpAnyH P md ops (endsIn R) T fuel (listed.setIfInBounds i true) a' w'→K a' w')→wpList P ops (endsIn K) [o] a w):wpAnyH P md ops (endsIn R) T (fuel+1) listed a w :=
 wpAnyH_all hr (by simp) (fun j hj=>by
  simp only [List.mem_cons,List.not_mem_nil,or_false] at hj
  subst hj
  exact aF j hi hg h)
end
section
variable {P:Program} {ops:Array Oper} {rest:List Oper} {a:Act} {w:World} {dst:Option Tmp} {typ:TypeId} {pos:String} {aft:Array Edge}
theorem iM {ty:TypeId} {g:Nat} {l:List Value} {t:TypeId} (j:Nat) (v:Value) (hr:Row w g l t) (ha:∀w,(isAgg ty).run P w=.ok false w) (hv:l[j]?=some v):(loadVar ty ⟨g,j,none⟩).run P w=.ok v w:=by
 have hc:w.cell? ⟨g,j,none⟩=some v:=by rw [hr.cell,hv]
 simp [loadVar,ha,go_sem,hc]
theorem dX {ty:TypeId} {x:Operand} {g:Nat} {l:List Value} {t:TypeId} (j:Nat) (v:Value) (hr:Row w g l t) (hx:a.eval x=.pointer (some ⟨g,j,none⟩)) (ha:∀w,(isAgg ty).run P w=.ok false w) (hv:l[j]?=some v) :
  (execOp a.eval {dst:=dst,op:=.load ty x,type:=typ,pos:=pos,after:=aft,guard:=none}).run P w=.ok (.value v) w:=by
 unfold execOp
 simp only [hx,Instr.loadAt,Instr.sureAddr,Sem.run_bind,Sem.run_pure,Result.andThen_ok,iM j v hr ha hv]
theorem el {Q:Exit→Act→World→Prop} {ty:TypeId} {x:Operand} {g:Nat} {l:List Value} {t:TypeId} (j:Nat) (v:Value) (hr:Row w g l t) (hx:a.eval x=.pointer (some ⟨g,j,none⟩)) (ha:∀w,(isAgg ty).run P w=.ok false w) (hv:l[j]?=some v)
  (h:wpList P ops Q rest (a.put dst v) w):wpList P ops Q ({dst:=dst,op:=.load ty x,type:=typ,pos:=pos,after:=aft,guard:=none}::rest) a w:=by
 refine wpList_plain rfl fun K hK=>?_
 have hh:=hK _ _ h
 unfold Oper.wp execOp
 simp only [hx,Instr.loadAt,Instr.sureAddr,Sem.run_bind,Sem.run_pure,Result.andThen_ok,iM j v hr ha hv]
 exact hh
theorem fB {Q:Act→Prop} {ty:TypeId} {x:Operand} {g:Nat} {l:List Value} {t:TypeId} (j:Nat) (v:Value) (hr:Row w g l t) (hx:a.eval x=.pointer (some ⟨g,j,none⟩)) (ha:∀w,(isAgg ty).run P w=.ok false w) (hv:l[j]?=some v)
  (h:wpStill P ops w Q rest (a.put dst v)):wpStill P ops w Q ({dst:=dst,op:=.load ty x,type:=typ,pos:=pos,after:=aft,guard:=none}::rest) a:=by
 refine gF rfl _ ?_ h
 unfold execOp
 simp only [hx,Instr.loadAt,Instr.sureAddr,Sem.run_bind,Sem.run_pure,Result.andThen_ok,iM j v hr ha hv]
end
theorem Mem.allocO {w0 w:World} {S:List Nat} {rows:List (Nat×List Value×TypeId)} (hm:Mem w0 S w rows) (o:Obj):Mem w0 S (w.alloc o) rows :=
 hm.call ⟨rfl,rfl,rfl,by simp,fun _ hk=>Below.heap_alloc _ _ _ hk⟩
theorem Seg.newO (w:World) (cs:List Int) (t:TypeId) (fr:Nat×Nat):Seg (w.alloc (.cells (u8s cs).toArray t fr)) w.heap.size 0 cs:=by
 intro j hj
 have h:(w.alloc (.cells (u8s cs).toArray t fr)).heap[w.heap.size]?=some (.cells (u8s cs).toArray t fr):=heap_alloc_new w _
 rw [cell_of_row _ _ _ _ _ _ h,Nat.zero_add]
 simpa using cP cs j hj
section
variable {P:Program} {a:Act} {w:World} {dst:Option Tmp} {typ:TypeId} {pos:String} {aft:Array Edge} {gd:Option (Nat×Bool)}
theorem ao {ty:TypeId} {x:Operand} {g:Nat} {l:List Value} {t:TypeId} (off:Nat) (sub:List Value) (hr:Row w g l t) (hx:a.eval x=.pointer (some ⟨g,off,none⟩))
  (d:TypeDesc) (hu:P.underlying ty=some d) (hd:(match d with | .struct _ | .array _ _=>true|_=>false)=true) (n:Nat) (hs:(P.info? ty).map (·.size)=some n) (hn:off+n≤l.length) (hsub:(l.drop off).take n=sub) :
  (execOp a.eval {dst:=dst,op:=.load ty x,type:=typ,pos:=pos,after:=aft,guard:=gd}).run P w=.ok (.value (.agg sub.toArray)) w:=by
 unfold execOp
 simp only [hx,Instr.loadAt,Instr.sureAddr,Sem.run_bind,Sem.run_pure,Result.andThen_ok,cL w g off n ty t l d hr hu hd hs hn,hsub]
theorem ah {ty:TypeId} {x:Operand} {g:Nat} {l:List Value} {t:TypeId} (j:Nat) (v:Value) (hr:Row w g l t) (hx:a.eval x=.pointer (some ⟨g,j,none⟩)) (ha:∀w,(isAgg ty).run P w=.ok false w) (hv:l[j]?=some v) :
  (execOp a.eval {dst:=dst,op:=.load ty x,type:=typ,pos:=pos,after:=aft,guard:=gd}).run P w=.ok (.value v) w:=by
 unfold execOp
 simp only [hx,Instr.loadAt,Instr.sureAddr,Sem.run_bind,Sem.run_pure,Result.andThen_ok,iM j v hr ha hv]
theorem exec_eqa {t:TypeId} {x y:Operand} {rt:TypeId} (e:TypeId) (n:Nat) (k:IntKind) (xs ys:List Int) (hx:a.eval x=.agg (xs.map (Value.int k)).toArray) (hy:a.eval y=.agg (ys.map (Value.int k)).toArray) (ht:P.underlying t=some (.array n e)) (he:P.underlying e=some (.int k)) (hs:(P.info? e).map (·.size)=some 1) (hm:P.eqGuardType P.depth t=false) (h1:xs.length=n) (h2:ys.length=n) :
  (execOp a.eval {dst:=dst,op:=.binOp .eql t x y rt,type:=typ,pos:=pos,after:=aft,guard:=gd}).run P w=.ok (.value (.bool (decide (xs=ys)))) w:=by
 unfold execOp
 simp only [hx,hy,Sem.run_bind,run_eqGuard_agg w .eql t x y _ _ hm,Sem.run_pure,Result.andThen_ok,run_eqla w t e n k ht he hs xs ys h1 h2]
end
end Go.Proofs.YtnllomcajijbjaaGreatDoor
namespace Go.Proofs.YtnllomcajijbjaaGreatDoor
open Go Go.RowKit
section
variable {P:Program} {ops:Array Oper} {rest:List Oper} {a:Act} {w:World} {Q:Exit→Act→World→Prop} {dst:Option Tmp} {typ:TypeId} {pos:String} {aft:Array Edge}
end
end Go.Proofs.YtnllomcajijbjaaGreatDoor
namespace Go.Proofs.YtnllomcajijbjaaGreatDoor
open Go Go.RowKit
section
variable {P:Program} {ops:Array Oper} {rest:List Oper} {a:Act} {w:World} {Q:Exit→Act→World→Prop}
theorem bL {typ:TypeId} {pos:String} {aft:Array Edge} (dst:Option Tmp) (op:Op) (gd:Option (Nat×Bool)) (h:wpList P ops Q ({dst:=dst,op:=op,type:=typ,pos:=pos,after:=aft,guard:=gd}::rest) a w) :
  wpList P ops Q ({dst:=dst,op:=op,type:=typ,pos:=pos,after:=aft,guard:=gd}::rest) a w:=h
theorem ae {o:Oper} (v:Value) (hw:Region.wanted o (yielded ops a.tmps)=true) (hr:(execOp a.eval o).run P w=.ok (.value v) w) (h:wpList P ops Q rest (a.put o.dst v) w):wpList P ops Q (o::rest) a w:=by
 refine wpList_step fun K hK=>?_
 rw [if_pos hw]
 unfold Oper.wp
 rw [hr]
 exact hK _ _ h
end
end Go.Proofs.YtnllomcajijbjaaGreatDoor
