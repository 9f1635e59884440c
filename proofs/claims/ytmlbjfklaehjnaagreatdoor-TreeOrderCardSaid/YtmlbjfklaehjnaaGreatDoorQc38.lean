import Derived.Test.YtmlbjfklaehjnaaGreatDoorQc37
import Derived.Test.YtmlbjfklaehjnaaGreatDoorQc07
import Derived.Deep.Slices
set_option maxRecDepth 100000
set_option maxHeartbeats 4000000
namespace Go.Proofs.YtmlbjfklaehjnaaGreatDoor
open Go Go.RowKit Go.Maps
theorem zero_now (n:Nat):(Dk.new n).now=fun _=>zeroK:=rfl
theorem zero_area (n:Nat):secs (Dk.new n).now 0 32=List.replicate 2048 0:=by rw [zero_now];kernel_rfl
theorem zero_lim0:limitAt (place (List.replicate 2048 0) 0)=0:=by kernel_rfl
theorem zero_lim1:limitAt (place (List.replicate 2048 0) 1)=0:=by kernel_rfl
theorem On.new (n:Nat):On (Dk.new n) 0:=⟨rfl,rfl,Int.le_refl _,Int.le_refl _⟩
def kZ:List Int:=[0,0,0,0,0,0,0,0,0,0,0,0,0,0,0,0,0,0,0,0,0,0,0,0,0,0,0,0,0,0,0,0]
theorem kZ_bytes:Bytes kZ:=by unfold Bytes kZ;decide
theorem built_kz:Tryz.prog.built 72 []=some (u8s kZ).toArray:=by kernel_rfl
def uR (R:List (List Pr)) (j:Nat):Option (Option (List Int)):=(R[j]?).map fun l=>some (leafB l)
def GL (l:List Pr):Prop:=Srt l∧Fit l∧szP l≤480∧l.length≤400
structure Tr (w0 w:World) (gp pg:Nat) (R:List (List Pr)):Prop where
 s:∃g mb kv kP,PgS w0 w gp g mb kv kP pg (132+74 * R.length) (uR R) (fun _=>none) 0 {data:=#[]}
 pg4:pg≤400
 le:R.length≤pg
 gl:∀l∈R,GL l
theorem upf_upf {U:Nat→Option (Option (List Int))} {i:Nat} {x y:Option (Option (List Int))}:upf (upf U i x) i y=upf U i y:=by
 funext j
 unfold upf
 split<;>rfl
theorem uR_next (R:List (List Pr)) (l:List Pr):upf (upf (uR R) R.length (some none)) R.length (some (some (leafB l)))=uR (R++[l]):=by
 rw [upf_upf]
 funext j
 unfold upf uR
 by_cases h:j=R.length
 ·rw [if_pos h,h,List.getElem?_append_right (Nat.le_refl _),Nat.sub_self];rfl
 ·rw [if_neg h]
  rcases Nat.lt_or_ge j R.length with h2|h2
  ·rw [List.getElem?_append_left h2]
  ·rw [List.getElem?_append_right h2,List.getElem?_eq_none h2,List.getElem?_eq_none (by simp;omega)]
theorem uR_free (R:List (List Pr)):((uR R R.length).isSome||((fun _=>none:Nat→Option (List Int)) R.length).isSome)=false:=by
 unfold uR
 rw [List.getElem?_eq_none (Nat.le_refl _)]
 rfl
theorem uR_low (R:List (List Pr)):∀j,j<R.length→((uR R j).isSome||((fun _=>none:Nat→Option (List Int)) j).isSome)=true:=by
 intro j hj
 unfold uR
 rw [List.getElem?_eq_getElem hj]
 rfl
theorem uR_at {R:List (List Pr)} {r:Nat} {l:List Pr} (h:R[r]?=some l):uR R r=some (some (leafB l)):=by
 unfold uR
 rw [h]
 rfl
theorem Tr.below {w0 w w':World} {gp pg:Nat} {R:List (List Pr)} (h:Tr w0 w gp pg R) (hb:Below w.heap.size w w'):Tr w0 w' gp pg R:=by
 obtain ⟨⟨g,mb,kv,kP,hs⟩,h1,h2,h3⟩:=h
 exact ⟨⟨g,mb,kv,kP,PgS.below hs hb⟩,h1,h2,h3⟩
theorem Tr.bl {w0 w:World} {gp pg:Nat} {R:List (List Pr)} (h:Tr w0 w gp pg R):Below w0.heap.size w0 w:=by
 obtain ⟨⟨g,mb,kv,kP,hs⟩,_⟩:=h
 exact PgS.bl hs
theorem Tr.lt {w0 w:World} {gp pg:Nat} {R:List (List Pr)} (h:Tr w0 w gp pg R) {r:Nat} {l:List Pr} (hl:R[r]?=some l):r<400∧GL l:=by
 have h1:=(List.getElem?_eq_some_iff.1 hl).1
 have h2:=h.le
 have h3:=h.pg4
 exact ⟨by omega,h.gl l (List.mem_of_getElem? hl)⟩
theorem gl_nil:GL []:=⟨List.Pairwise.nil,fun p hp=>(by cases hp),by decide,by decide⟩
theorem Tr.more {w0 w':World} {gp pg g mb:Nat} {kv:Value} {kP:List Int} {R:List (List Pr)} {l:List Pr} (hp:pg≤400) (hg:∀l∈R,GL l) (hlt:R.length<pg) (hl:GL l) (hs:PgS w0 w' gp g mb kv kP pg (132+74 * R.length+74) (upf (upf (uR R) R.length (some none)) R.length (some (some (leafB l)))) (fun _=>none) 0 {data:=#[]}):Tr w0 w' gp pg (R++[l]):=by
 refine ⟨⟨g,mb,kv,kP,?_⟩,hp,by rw [List.length_append];simp;omega,fun m hm=>?_⟩
 ·rw [←uR_next,List.length_append]
  exact hs
 ·rcases List.mem_append.1 hm with h1|h1
  ·exact hg m h1
  ·simp only [List.mem_cons,List.not_mem_nil,or_false] at h1
   subst h1
   exact hl
theorem had_of {l:List Pr} {k v:ByteArray} (hs:Srt l) (h:(k,v)∈l):hadP l k=true∧(l.getD (posP l k) (noStr,noStr)).2=v:=by
 have h1:hadP l k=true:=List.any_eq_true.2 ⟨(k,v),h,decide_eq_true rfl⟩
 have h2:=lr (k:=k) hs
 rw [h1] at h2
 have h3:=(Bool.and_eq_true _ _▸h2.symm:_∧_)
 have h4:=of_decide_eq_true h3.1
 have h5:=of_decide_eq_true h3.2
 refine ⟨h1,?_⟩
 have h6:l.getD (posP l k) (noStr,noStr)∈l:=by
  rw [List.getD_eq_getElem?_getD,List.getElem?_eq_getElem h4]
  exact List.getElem_mem h4
 obtain ⟨i,hi,hei⟩:=List.getElem_of_mem h6
 obtain ⟨j,hj,hej⟩:=List.getElem_of_mem h
 rcases Nat.lt_trichotomy i j with h7|h7|h7
 ·have h8:=List.pairwise_iff_getElem.1 hs i j hi hj h7
  rw [hei,hej,h5,bh] at h8
  cases h8
 ·subst h7
  rw [hei] at hej
  rw [hej]
 ·have h8:=List.pairwise_iff_getElem.1 hs j i hj hi h7
  rw [hei,hej,h5,bh] at h8
  cases h8
theorem had_not {l:List Pr} {k:ByteArray} (h:∀p∈l,p.1≠k):hadP l k=false:=List.any_eq_false.2 fun p hp e=>h p hp (of_decide_eq_true e)
theorem put_T {w0 w:World} {gp pg:Nat} {R:List (List Pr)} (h:Tr w0 w gp pg R) {r:Nat} {l:List Pr} (hl:R[r]?=some l) (key val:ByteArray) (hk:fitK key=true) (hv:val.size≤150) (hg:GL (insP l key val)) (hlt:R.length<pg) :
  Calls Tryz.prog 11 #[.pointer (some ⟨gp,0,none⟩),.int .u32 (r:Int),.string key,.string val] w fun e w'=>e=.returned (.tuple #[.int .u32 (R.length:Int),.int .i64 0])∧Tr w0 w' gp pg (R++[insP l key val])∧Fr w w':=by
 obtain ⟨hr,hgl⟩:=h.lt hl
 obtain ⟨⟨g,mb,kv,kP,hs⟩,h1,h2,h3⟩:=h
 refine (put_leaf h1 (by omega) R.length r l key val hlt (uR_free R) (uR_low R) (uR_at hl) (by omega) hgl.1 hgl.2.1 hgl.2.2.1 hgl.2.2.2 hk hv hg.2.2.1 w hs).mono ?_
 rintro e w' ⟨he,hs',hf⟩
 exact ⟨he,Tr.more h1 h3 hlt hg hs',hf⟩
theorem delHad_T {w0 w:World} {gp pg:Nat} {R:List (List Pr)} (h:Tr w0 w gp pg R) {r:Nat} {l:List Pr} (hl:R[r]?=some l) (key:ByteArray) (hh:hadP l key=true) (hg:GL (delP l key)) (hlt:R.length<pg) :
  Calls Tryz.prog 14 #[.pointer (some ⟨gp,0,none⟩),.int .u32 (r:Int),.string key] w fun e w'=>e=.returned (.tuple #[.int .u32 (R.length:Int),.bool true,.int .i64 0])∧Tr w0 w' gp pg (R++[delP l key])∧Fr w w':=by
 obtain ⟨hr,hgl⟩:=h.lt hl
 obtain ⟨⟨g,mb,kv,kP,hs⟩,h1,h2,h3⟩:=h
 refine (delete_had key h1 r l (uR_at hl) (by omega) hgl.1 hgl.2.1 hgl.2.2.1 hgl.2.2.2 (by omega) R.length hlt (uR_free R) (uR_low R) hg.2.2.1 hh w hs).mono ?_
 rintro e w' ⟨he,hs',hf⟩
 exact ⟨he,Tr.more h1 h3 hlt hg hs',hf⟩
theorem delNot_T {w0 w:World} {gp pg:Nat} {R:List (List Pr)} (h:Tr w0 w gp pg R) {r:Nat} {l:List Pr} (hl:R[r]?=some l) (key:ByteArray) (hh:hadP l key=false) :
  Calls Tryz.prog 14 #[.pointer (some ⟨gp,0,none⟩),.int .u32 (r:Int),.string key] w fun e w'=>e=.returned (.tuple #[.int .u32 (r:Int),.bool false,.int .i64 0])∧Below w.heap.size w w':=by
 obtain ⟨hr,hgl⟩:=h.lt hl
 obtain ⟨⟨g,mb,kv,kP,hs⟩,h1,h2,h3⟩:=h
 exact delete_not key h1 r l (uR_at hl) (by omega) hgl.1 hgl.2.1 hgl.2.2.1 hgl.2.2.2 hh w hs
theorem getHad_T {w0 w:World} {gp pg:Nat} {R:List (List Pr)} (h:Tr w0 w gp pg R) {r:Nat} {l:List Pr} (hl:R[r]?=some l) (key val:ByteArray) (hh:(key,val)∈l) :
  Calls Tryz.prog 16 #[.pointer (some ⟨gp,0,none⟩),.int .u32 (r:Int),.string key] w fun e w'=>e=.returned (.tuple #[.string val,.bool true,.int .i64 0])∧Below w.heap.size w w':=by
 obtain ⟨hr,hgl⟩:=h.lt hl
 obtain ⟨⟨g,mb,kv,kP,hs⟩,h1,h2,h3⟩:=h
 have h4:=had_of hgl.1 hh
 have h5:=get_had key h1 r l (uR_at hl) (by omega) hgl.1 hgl.2.1 hgl.2.2.1 hgl.2.2.2 h4.1 w hs
 rw [h4.2] at h5
 exact h5
theorem getNot_T {w0 w:World} {gp pg:Nat} {R:List (List Pr)} (h:Tr w0 w gp pg R) {r:Nat} {l:List Pr} (hl:R[r]?=some l) (key:ByteArray) (hh:∀p∈l,p.1≠key) :
  Calls Tryz.prog 16 #[.pointer (some ⟨gp,0,none⟩),.int .u32 (r:Int),.string key] w fun e w'=>e=.returned (.tuple #[.string {data:=#[]},.bool false,.int .i64 0])∧Below w.heap.size w w':=by
 obtain ⟨hr,hgl⟩:=h.lt hl
 obtain ⟨⟨g,mb,kv,kP,hs⟩,h1,h2,h3⟩:=h
 exact get_not key h1 r l (uR_at hl) (by omega) hgl.1 hgl.2.1 hgl.2.2.1 hgl.2.2.2 (had_not hh) w hs
theorem len_T {w0 w:World} {gp pg:Nat} {R:List (List Pr)} (h:Tr w0 w gp pg R) {r:Nat} {l:List Pr} (hl:R[r]?=some l) :
  Calls Tryz.prog 23 #[.pointer (some ⟨gp,0,none⟩),.int .u32 (r:Int)] w fun e w'=>e=.returned (.tuple #[.int .i64 (l.length:Int),.int .i64 0])∧Below w.heap.size w w':=by
 obtain ⟨hr,hgl⟩:=h.lt hl
 obtain ⟨⟨g,mb,kv,kP,hs⟩,h1,h2,h3⟩:=h
 exact len_leaf h1 r l (uR_at hl) (by omega) hgl.1 hgl.2.1 hgl.2.2.1 w hs
theorem check_T {w0 w:World} {gp pg:Nat} {R:List (List Pr)} (h:Tr w0 w gp pg R) {r:Nat} {l:List Pr} (hl:R[r]?=some l) :
  Calls Tryz.prog 22 #[.pointer (some ⟨gp,0,none⟩),.int .u32 (r:Int)] w fun e w'=>e=.returned (.int .i64 0)∧Below w.heap.size w w':=by
 obtain ⟨hr,hgl⟩:=h.lt hl
 obtain ⟨⟨g,mb,kv,kP,hs⟩,h1,h2,h3⟩:=h
 exact check_leaf h1 r l (uR_at hl) (by omega) hgl.1 hgl.2.1 hgl.2.2.1 hgl.2.2.2 w hs
theorem scan_T {w0 w:World} {gp pg:Nat} {R:List (List Pr)} (h:Tr w0 w gp pg R) {r:Nat} {l:List Pr} (hl:R[r]?=some l) (fr to:ByteArray) (M:Int) :
  Calls Tryz.prog 18 #[.pointer (some ⟨gp,0,none⟩),.int .u32 (r:Int),.string fr,.string to,.int .i64 M] w fun e w'=>∃v',e=.returned (.tuple #[v',.int .i64 0])∧w'.ownsRow w.heap.size 44 2 v' (scanK l fr to M l.length).length (prs (scanK l fr to M l.length))∧Below w.heap.size w w':=by
 obtain ⟨hr,hgl⟩:=h.lt hl
 obtain ⟨⟨g,mb,kv,kP,hs⟩,h1,h2,h3⟩:=h
 exact scan_leaf fr to M h1 r l (uR_at hl) (by omega) hgl.1 hgl.2.1 hgl.2.2.1 hgl.2.2.2 w hs
theorem lx (n:Nat) (h4:4≤n) (hn:n≤400) (w:World) (ht:Tab w) (hq:QTab w) (hw2:2≤w.heap.size) :
  Calls Tryz.prog 10 #[.int .i64 (n:Int)] w fun e w'=>∃gp,e=.returned (.tuple #[.pointer (some ⟨gp,0,none⟩),.int .u32 0,.bool true])∧Tr w w' gp n [[]]:=by
 have HT:Hid (Tab w):=ht
 have HQ:Hid (QTab w):=hq
 have HCL:Hid (clampK (32+8 * (n:Int))=32+8 * n):=by
  show _=_
  unfold clampK
  rw [if_neg (by omega)]
  first|omega|(rw [if_neg (by omega)];omega)
 obtain ⟨kP,hkP⟩:∃x,x=deriveOf kZ labPage 0:=⟨_,rfl⟩
 obtain ⟨kS,hkS⟩:∃x,x=deriveOf kZ labSuper 0:=⟨_,rfl⟩
 obtain ⟨kN,hkN⟩:∃x,x=deriveOf kZ labSuper 1:=⟨_,rfl⟩
 have HFM:Hid (∀g mb kv W,2≤W.heap.size→Tab W→QTab W→(∀q∈foot g mb kv,2≤q)→DkAt W g mb kv (Dk.new (32+8 * n))→Calls Tryz.prog 26 #[.pointer (some ⟨g,0,none⟩),.agg (u8s kZ).toArray] W fun e w'=>∃gp ml mu d',e=.returned (.tuple #[.pointer (some ⟨gp,0,none⟩),.int .i64 0])∧PgAt w' gp g mb kv ml mu (⟨kP,kS,kN,⟨3,3,4⟩,0,{data:=#[]},fun _=>none,fun _=>none,false⟩:Pg) d'∧On d' 132∧d'.n=32+8 * n∧LimOk d' 4∧W.heap.size≤gp∧W.heap.size≤ml∧W.heap.size≤mu∧UpdS (foot g mb kv) W w'):=fun g mb kv W h0 h1 h2 h3 h5=>by
  refine (format_ok g mb kv (Dk.new (32+8 * n)) n 0 kZ kP kS kN _ (zero_area _) zero_lim0 zero_lim1 hkP.symm hkS.symm hkN.symm rfl h4 hn rfl kZ_bytes (On.new _) (by omega) W h0 h3 h1 h2 h5).mono ?_
  rintro e w' ⟨gp,ml,mu,d',a,he,hp,hon,hn',ha,s2,s4,_,_,h6,h7,h8,hu⟩
  refine ⟨gp,ml,mu,d',he,hp,hon,hn',fun j hj=>?_,h6,h7,h8,hu⟩
  have h9:j=a∨j=1 - a:=by omega
  rcases h9 with rfl|rfl
  ·rw [s2.lim];decide
  ·rw [s4.lim];decide
 clear ht hq hkP hkS hkN
 go_enter Tryz.func10,Tryz.ntmps10
 go_wp2_with (first
  | (go_at_call 27;refine (new_anyD (32+8 * (n:Int)) _).mono ?_;rintro e w1 ⟨g,rfl,mb,kv,hd,hf,hb⟩;rw [HCL.out] at hd;have HD:Hid (DkAt w1 g mb kv (Dk.new (32+8 * n))):=hd;have HF:Hid (∀q∈foot g mb kv,w.heap.size≤q):=hf;have HB1:Hid (Below w.heap.size w w1):=hb;clear hd hf hb)
  | ((with_reducible refine aa (some 14) (.build 72 #[]) ?_);go_must (refine aB (u8s kZ) _ rfl built_kz ?_))
  | (go_at_call 26;go_loud (refine (HFM.out g mb kv _ (Nat.le_trans hw2 HB1.out.size) (Tab.updS (L:=[]) HT.out (UpdS.of_below HB1.out) (by simp)) (QTab.updS (L:=[]) HQ.out (UpdS.of_below HB1.out) (by simp)) (fun q hq=>Nat.le_trans hw2 (HF.out q hq)) HD.out).mono ?_;rintro e w2 ⟨gp,ml,mu,d',he,hp,hon,hdn,hlo,hgp,hml,hmu,hu⟩;subst he;have HP:Hid (PgS w w2 gp g mb kv kP n 132 (fun _=>none) (fun _=>none) 0 {data:=#[]}):=(by have HB2:Below w.heap.size w w2:=dw HB1.out hu HF.out;exact ⟨ml,mu,_,d',hp,rfl,hon,hdn,rfl,rfl,rfl,⟨by omega,by omega⟩,by decide,⟨by show 1≤3;omega,by show 3≤1000;omega,by show 3≤3;omega,by show 3≤4;omega,by show 8 * 3≤8 * 3+132;omega,by show 4≤3+1+132;omega⟩,hlo,fun _=>trivial,fun _=>trivial,HT.out.bel HB2,HQ.out.bel HB2,fun q hq=>(by simp only [footP,List.mem_cons] at hq;rcases hq with rfl|rfl|rfl|hq;exact Nat.le_trans HB1.out.size hgp;exact Nat.le_trans HB1.out.size hml;exact Nat.le_trans HB1.out.size hmu;exact HF.out q hq),hw2,HB2⟩);clear hp hon hdn hlo hgp hml hmu hu))
  | (go_at_call 28;refine (empty_any hn (by omega) 0 (by omega) rfl (fun j hj=>absurd hj (Nat.not_lt_zero j)) _ HP.out).mono ?_;rintro e w3 ⟨rfl,hs,hf⟩;have HTR:Hid (Tr w w3 gp n [[]]):=Tr.more (R:=[]) hn (fun l hl=>(by cases hl)) (by show (0:Nat)<n;omega) gl_nil hs;clear hs hf))
 go_ret3
 exact ⟨gp,rfl,HTR.out⟩
open Go Go.RowKit Go.Maps
def kA9:ByteArray:={data:=#[97]}
def v19:ByteArray:={data:=#[49]}
theorem ins_kn:insP [] kA9 v19=[(kA9,v19)]:=rfl
theorem del_kn:delP [(kA9,v19)] kA9=[]:=by simp [delP,lows,highs,bh]
theorem gl_kn:GL [(kA9,v19)]:=by
 refine ⟨List.pairwise_singleton _ _,fun p hp=>?_,by decide,by decide⟩
 simp only [List.mem_cons,List.not_mem_nil,or_false] at hp
 subst hp
 decide
theorem had_kn:hadP [(kA9,v19)] kA9=true:=by simp [hadP]
theorem bad_kn:leafCode [({data:=#[]},v19)]=90:=by decide
theorem put_kn {w0 w:World} {gp:Nat} (h:Tr w0 w gp 20 [[]]):Calls Tryz.prog 11 #[.pointer (some ⟨gp,0,none⟩),.int .u32 0,.string {data:=#[97]},.string {data:=#[49]}] w fun e w'=>e=.returned (.tuple #[.int .u32 1,.int .i64 0])∧Tr w0 w' gp 20 [[],[(kA9,v19)]]:=by
 refine (put_T h (r:=0) (l:=[]) rfl kA9 v19 rfl (by decide) (by rw [ins_kn];exact gl_kn) (by decide)).mono ?_
 rintro e w' ⟨he,hs,_⟩
 rw [ins_kn] at hs
 exact ⟨he,hs⟩
theorem del_knT {w0 w:World} {gp:Nat} (h:Tr w0 w gp 20 [[],[(kA9,v19)]]):Calls Tryz.prog 14 #[.pointer (some ⟨gp,0,none⟩),.int .u32 1,.string {data:=#[97]}] w fun e w'=>e=.returned (.tuple #[.int .u32 2,.bool true,.int .i64 0])∧Tr w0 w' gp 20 [[],[(kA9,v19)],[]]:=by
 refine (delHad_T h (r:=1) (l:=[(kA9,v19)]) rfl kA9 had_kn (by rw [del_kn];exact gl_nil) (by decide)).mono ?_
 rintro e w' ⟨he,hs,_⟩
 rw [del_kn] at hs
 exact ⟨he,hs⟩
theorem get_kn1 {w0 w:World} {gp:Nat} (h:Tr w0 w gp 20 [[],[(kA9,v19)]]):Calls Tryz.prog 16 #[.pointer (some ⟨gp,0,none⟩),.int .u32 1,.string {data:=#[97]}] w fun e w'=>e=.returned (.tuple #[.string {data:=#[49]},.bool true,.int .i64 0])∧Below w.heap.size w w' :=
 getHad_T h (r:=1) (l:=[(kA9,v19)]) rfl kA9 v19 (List.mem_cons_self ..)
theorem get_kn0 {w0 w:World} {gp:Nat} (h:Tr w0 w gp 20 [[],[(kA9,v19)]]):Calls Tryz.prog 16 #[.pointer (some ⟨gp,0,none⟩),.int .u32 0,.string {data:=#[97]}] w fun e w'=>e=.returned (.tuple #[.string {data:=#[]},.bool false,.int .i64 0])∧Below w.heap.size w w' :=
 getNot_T h (r:=0) (l:=[]) rfl kA9 (fun p hp=>by cases hp)
theorem len_kn {w0 w:World} {gp:Nat} (h:Tr w0 w gp 20 [[],[(kA9,v19)],[]]):Calls Tryz.prog 23 #[.pointer (some ⟨gp,0,none⟩),.int .u32 2] w fun e w'=>e=.returned (.tuple #[.int .i64 0,.int .i64 0])∧Below w.heap.size w w' :=
 len_T h (r:=2) (l:=[]) rfl
theorem chk_kn1 {w0 w:World} {gp:Nat} (h:Tr w0 w gp 20 [[],[(kA9,v19)],[]]):Calls Tryz.prog 22 #[.pointer (some ⟨gp,0,none⟩),.int .u32 1] w fun e w'=>e=.returned (.int .i64 0)∧Below w.heap.size w w' :=
 check_T h (r:=1) (l:=[(kA9,v19)]) rfl
theorem chk_kn2 {w0 w:World} {gp:Nat} (h:Tr w0 w gp 20 [[],[(kA9,v19)],[]]):Calls Tryz.prog 22 #[.pointer (some ⟨gp,0,none⟩),.int .u32 2] w fun e w'=>e=.returned (.int .i64 0)∧Below w.heap.size w w' :=
 check_T h (r:=2) (l:=[]) rfl
theorem cP (w:World) (ht:Tab w) (hq:QTab w) (hw2:2≤w.heap.size) :
  Calls Tryz.prog 9 #[] w fun e w'=>e=.returned (.bool true)∧Below w.heap.size w w':=by
 have HT:Hid (Tab w):=ht
 have HQ:Hid (QTab w):=hq
 have tk1:Nat:=0
 have tk2:Nat:=0
 clear ht hq
 go_enter Tryz.func9,Tryz.ntmps9
 go_wp2_with (first
  | (go_at_call 10;refine (lx 20 (by omega) (by omega) w HT.out HQ.out hw2).mono ?_;rintro e w1 ⟨gp,rfl,hs⟩;have H0:Hid (Tr w w1 gp 20 [[]]):=hs;clear hs)
  | (go_at_call 11;refine (put_kn H0.out).mono ?_;rintro e w2 ⟨rfl,hs⟩;have H1:Hid (Tr w w2 gp 20 [[],[(kA9,v19)]]):=hs;clear hs H0)
  | (go_at_call 11;refine (put_bad gp 1 {data:=#[]} {data:=#[49]} bad_kn (by decide) (by decide) _).mono ?_;rintro e w3 ⟨rfl,hb⟩;replace H1:Hid _:=Tr.below H1.out hb;clear hb)
  | (go_at_call 16;clear tk1;refine (get_kn1 H1.out).mono ?_;rintro e w4 ⟨rfl,hb⟩;replace H1:Hid _:=Tr.below H1.out hb;clear hb)
  | (go_at_call 16;refine (get_kn0 H1.out).mono ?_;rintro e w5 ⟨rfl,hb⟩;replace H1:Hid _:=Tr.below H1.out hb;clear hb)
  | (go_at_call 14;refine (del_knT H1.out).mono ?_;rintro e w6 ⟨rfl,hs⟩;have H2:Hid (Tr w w6 gp 20 [[],[(kA9,v19)],[]]):=hs;clear hs H1)
  | (go_at_call 23;refine (len_kn H2.out).mono ?_;rintro e w7 ⟨rfl,hb⟩;replace H2:Hid _:=Tr.below H2.out hb;clear hb)
  | (go_at_call 22;clear tk2;refine (chk_kn1 H2.out).mono ?_;rintro e w8 ⟨rfl,hb⟩;replace H2:Hid _:=Tr.below H2.out hb;clear hb)
  | (go_at_call 22;refine (chk_kn2 H2.out).mono ?_;rintro e w9 ⟨rfl,hb⟩;replace H2:Hid _:=Tr.below H2.out hb;clear hb))
 go_ret
 exact ⟨rfl,Tr.bl H2.out⟩
open Go Go.RowKit Go.Maps
theorem equal_pair (k v k' v':ByteArray) (w:World):(Op.equalIn 10000 44 (.agg #[.string k,.string v]) (.agg #[.string k',.string v'])).run Tryz.prog w=.ok (k.toList==k'.toList&&v.toList==v'.toList) w:=by
 have u3:=Tryz.underlying9
 have a3:=Tryz.isAgg9
 have z3:=Tryz.sizeOf9
 have hS:Tryz.prog.underlying 44=some (.struct (Tryz.prog.fieldsOf 44)):=by kernel_rfl
 have hp:Tryz.prog.stoodInHeld 44=false:=by kernel_rfl
 rw [show (10000:Nat)=9999+1 from rfl,run_equalIn_agg w 9999 44 _ _ hS hp]
 simp only [Program.fieldsOf,Tryz.underlying44]
 go_simp
 by_cases h1:k.toList=k'.toList<;>by_cases h2:v.toList=v'.toList<;>simp [h1,h2]
theorem eg_pair:Tryz.prog.eqGuardType Tryz.prog.depth 44=false:=by kernel_rfl
theorem exec_neP0 {a:Act} {w:World} {dst:Option Tmp} {typ:TypeId} {pos:String} {aft:Array Edge} {gd:Option (Nat×Bool)} {x y:Operand} {rt:TypeId} (k v:ByteArray) (hx:a.eval x=.agg [.string k,.string v].toArray) (hy:a.eval y=.agg [.string k,.string v].toArray) :
  (execOp a.eval {dst:=dst,op:=.binOp .neq 44 x y rt,type:=typ,pos:=pos,after:=aft,guard:=gd}).run Tryz.prog w=.ok (.value (.bool false)) w:=by
 have e:(k.toList==k.toList&&v.toList==v.toList)=true:=by simp
 unfold execOp
 simp only [hx,hy,Sem.run_bind,run_eqGuard_agg w .neq 44 x y _ _ eg_pair,Sem.run_pure,Result.andThen_ok,run_neq_struct,equal_pair k v k v w,e]
 rfl
theorem lF (l:List Pr) (n cap cap2:Nat) (p q:Option Addr) (hn:l.length=n) (hnl:n≤1000) (w:World) (hv:SlP w (.slice p n cap) l) (hu:SlP w (.slice q n cap2) l) :
  Calls Tryz.prog 19 #[.slice p n cap,.slice q n cap2] w fun e w'=>e=.returned (.bool true)∧Below w.heap.size w w':=by
 have HV:Hid (SlP w (.slice p n cap) l):=hv
 have HU:Hid (SlP w (.slice q n cap2) l):=hu
 have HN:Hid (l.length=n):=hn
 clear hv hu hn
 go_enter Tryz.func19,Tryz.ntmps19
 go_wp2_with fail
 go_loopw [5] (fun vi wr=>∃k:Nat,k≤n∧vi=.int .i64 (k:Int)∧Hid (Below w.heap.size w wr)) (fun vi _=>n - (RowKit.intOf vi).toNat)
 case atStart=>exact ⟨0,by omega,rfl,Below.refl _ _⟩
 case round =>
  obtain ⟨k,hk,rfl,HB⟩:=hrel
  by_cases hlt:k<n
  ·have hki:(k:Int)<(n:Int):=by omega
   obtain ⟨b,off,hp⟩:=SlP.at HV.out HN.out (by omega)
   subst hp
   obtain ⟨b2,off2,hq⟩:=SlP.at HU.out HN.out (by omega)
   subst hq
   obtain ⟨kk,hkk⟩:∃x,x=(l.getD k (noStr,noStr)).1:=⟨_,rfl⟩
   obtain ⟨vv,hvv⟩:∃x,x=(l.getD k (noStr,noStr)).2:=⟨_,rfl⟩
   have HC1:Hid (∀W,Below wr.heap.size wr W→W.cell? ⟨b,off+k * 2,none⟩=some (.string kk)∧W.cell? ⟨b,off+k * 2+1,none⟩=some (.string vv)):=by
    intro W hW
    rw [hkk,hvv]
    exact SlP.cells HN.out (SlV.below HV.out (HB.out.trans (hW.mono HB.out.size))) k hlt
   have HC2:Hid (∀W,Below wr.heap.size wr W→W.cell? ⟨b2,off2+k * 2,none⟩=some (.string kk)∧W.cell? ⟨b2,off2+k * 2+1,none⟩=some (.string vv)):=by
    intro W hW
    rw [hkk,hvv]
    exact SlP.cells HN.out (SlV.below HU.out (HB.out.trans (hW.mono HB.out.size))) k hlt
   have hm:=Mem.start wr
   clear hkk hvv
   go_wp2_with fail
   refine au ?_
   refine ap (T:=fun W=>Mem wr [] W []) (by kernel_rfl) hm ?_
   clear hm
   intro wc hm
   refine aT 0 (v:=.slice (some ⟨b,off,none⟩) n cap) rfl (by kernel_rfl) rfl (fun W _=>by go_simp) hm ?_
   go_simp
   refine aT 1 (v:=.int .i64 (k:Int)) rfl (by kernel_rfl) rfl (fun W _=>by go_simp) hm ?_
   go_simp
   refine aT 2 (v:=.pointer (some ⟨b,off+k * 2,none⟩)) rfl (by kernel_rfl) rfl (fun W _=>aV k rfl rfl rfl hlt) hm ?_
   go_simp
   refine aT 3 (v:=.agg [.string kk,.string vv].toArray) rfl (by kernel_rfl) rfl (fun W hW=>bo kk vv rfl (HC1.out W (Mem.below hW)).1 (HC1.out W (Mem.below hW)).2) hm ?_
   go_simp
   refine aT 4 (v:=.slice (some ⟨b2,off2,none⟩) n cap2) rfl (by kernel_rfl) rfl (fun W _=>by go_simp) hm ?_
   go_simp
   refine aT 5 (v:=.int .i64 (k:Int)) rfl (by kernel_rfl) rfl (fun W _=>by go_simp) hm ?_
   go_simp
   refine aT 6 (v:=.pointer (some ⟨b2,off2+k * 2,none⟩)) rfl (by kernel_rfl) rfl (fun W _=>aV k rfl rfl rfl hlt) hm ?_
   go_simp
   refine aT 7 (v:=.agg [.string kk,.string vv].toArray) rfl (by kernel_rfl) rfl (fun W hW=>bo kk vv rfl (HC2.out W (Mem.below hW)).1 (HC2.out W (Mem.below hW)).2) hm ?_
   go_simp
   refine aT 8 (v:=.bool false) rfl (by kernel_rfl) rfl (fun W _=>exec_neP0 kk vv rfl rfl) hm ?_
   go_simp
   refine wpAnyH_done (by kernel_rfl) ?_ _
   simp only [endsIn]
   have HB2:Hid (Below w.heap.size w wc):=HB.out.trans (hm.below.mono HB.out.size)
   go_wp2_with fail
   go_roundw
   case rel=>exact ⟨k+1,by omega,by go_num,HB2.out⟩
   case measure=>simp [RowKit.intOf];omega
  ·have hkn:n=k:=by omega
   subst hkn
   have hni:¬(n:Int)<(n:Int):=by omega
   go_wp2_with fail
   go_ret
   exact ⟨rfl,HB.out⟩
theorem exec_shr8 {a:Act} {w:World} {dst:Option Tmp} {typ:TypeId} {pos:String} {aft:Array Edge} {gd:Option (Nat×Bool)} {x:Operand} (n:Nat) (hx:a.eval x=.int .u16 (n:Int)) :
  (execOp a.eval {dst:=dst,op:=.binOp .shr 52 x (.const (.int .u64 8)) 94,type:=typ,pos:=pos,after:=aft,guard:=gd}).run Tryz.prog w=.ok (.value (.int .u16 ((n / 256:Nat):Int))) w:=by
 unfold execOp
 simp only [hx]
 simp [Act.eval,eqGuard,binOp,go_sem]
theorem mf {a:Act} {w:World} {dst:Option Tmp} {typ:TypeId} {pos:String} {aft:Array Edge} {gd:Option (Nat×Bool)} {x:Operand} (n:Nat) (hx:a.eval x=.int .u16 (n:Int)) :
  (execOp a.eval {dst:=dst,op:=.convert 52 5 x,type:=typ,pos:=pos,after:=aft,guard:=gd}).run Tryz.prog w=.ok (.value (.int .u8 ((n % 256:Nat):Int))) w:=by
 have e:IntKind.u8.wrap (n:Int)=((n % 256:Nat):Int):=by
  simp [IntKind.wrap,IntKind.bits,IntKind.signed]
 unfold execOp
 simp only [hx]
 simp [go_sem,e]
def nmL (n:Nat):List Int:=[107,((n / 256 % 256:Nat):Int),((n % 256:Nat):Int)]
def nm (n:Nat):ByteArray:=strOf (nmL n)
theorem d5 (n:Nat):(nm n).size=3:=by unfold nm;rw [fI];rfl
theorem nm_fit (n:Nat):fitK (nm n)=true:=by
 unfold fitK
 rw [d5]
 rfl
theorem ei (n:Nat) (w:World):Calls Tryz.prog 21 #[.int .u16 (n:Int)] w fun e w'=>e=.returned (.string (nm n))∧Below w.heap.size w w':=by
 have hm:=Mem.start w
 go_enter Tryz.func21,Tryz.ntmps21
 go_wp2_with (first
  | ((with_reducible refine aa (some 4) (.binOp .shr 52 (.tmp 3) (.const (.int .u64 8)) 94) ?_);go_must (refine ae (.int .u16 ((n / 256:Nat):Int)) rfl (exec_shr8 n rfl) ?_))
  | ((with_reducible refine aa (some 5) (.convert 52 5 (.tmp 4)) ?_);go_must (refine ae (.int .u8 ((n / 256 % 256:Nat):Int)) rfl (mf (n / 256) rfl) ?_))
  | ((with_reducible refine aa (some 7) (.convert 52 5 (.tmp 6)) ?_);go_must (refine ae (.int .u8 ((n % 256:Nat):Int)) rfl (mf n rfl) ?_))
  | ((with_reducible refine aa (some 8) (.buildSlice 54 3 #[(0,.const (.int .u8 107)),(1,.tmp 5),(2,.tmp 7)]) ?_);go_must (refine wpl_bsl3 (.int .u8 0) (.int .u8 107) (.int .u8 ((n / 256 % 256:Nat):Int)) (.int .u8 ((n % 256:Nat):Int)) aq dN rfl rfl rfl rfl rfl rfl rfl hm ?_);clear hm;intro w1 g hb1 hm;clear hb1)
  | ((with_reducible refine aa (some 9) (.convert 54 9 (.tmp 8)) ?_);go_must (refine ae (.string (nm n)) rfl (dW aq cf er (nmL n) rfl (aE (hm.get 0 rfl) rfl (Nat.le_refl _))) ?_)))
 go_ret
 exact ⟨rfl,hm.below⟩
open Go Go.RowKit Go.Maps
theorem fv (f:Pr→Nat) (k:ByteArray):∀l:List Pr,((lows l k).map f).sum+((highs l k).map f).sum≤(l.map f).sum
 | []=>Nat.le_refl _
 | a::t=>by
  have ih:=fv f k t
  unfold lows highs at ih ⊢
  rw [List.map_cons,List.sum_cons]
  cases h:less a.1 k with
  | true =>
   rw [List.filter_cons_of_pos (p:=fun p:Pr=>less p.1 k) h,List.filter_cons_of_neg (p:=fun p:Pr=>less k p.1) (by rw [fM h];exact Bool.false_ne_true),List.map_cons,List.sum_cons]
   omega
  | false =>
   rw [List.filter_cons_of_neg (p:=fun p:Pr=>less p.1 k) (by rw [h];exact Bool.false_ne_true)]
   cases h2:less k a.1 with
   | true=>rw [List.filter_cons_of_pos (p:=fun p:Pr=>less k p.1) h2,List.map_cons,List.sum_cons];omega
   | false=>rw [List.filter_cons_of_neg (p:=fun p:Pr=>less k p.1) (by rw [h2];exact Bool.false_ne_true)];omega
theorem eF:∀l:List Pr,(l.map fun _=>1).sum=l.length
 | []=>rfl
 | a::t=>by rw [List.map_cons,List.sum_cons,eF t,List.length_cons];omega
theorem ins_sz (l:List Pr) (k v:ByteArray):szP (insP l k v)≤szP l+(4+k.size+v.size)∧(insP l k v).length≤l.length+1:=by
 have h1:=fv psz k l
 have h2:=fv (fun _=>1) k l
 rw [eF,eF,eF] at h2
 unfold szP insP
 rw [List.map_append,List.sum_append,List.map_cons,List.sum_cons,List.length_append,List.length_cons]
 have h3:psz (k,v)=4+k.size+v.size:=rfl
 omega
theorem del_sz (l:List Pr) (k:ByteArray):szP (delP l k)≤szP l∧(delP l k).length≤l.length:=by
 have h1:=fv psz k l
 have h2:=fv (fun _=>1) k l
 rw [eF,eF,eF] at h2
 unfold szP delP
 rw [List.map_append,List.sum_append,List.length_append]
 omega
def Wl (c n:Nat) (l:List Pr):Prop:=Srt l∧Fit l∧szP l≤3+c * n∧l.length≤n
theorem wl_nil (c:Nat):Wl c 0 []:=⟨List.Pairwise.nil,fun p hp=>(by cases hp),by show 3+0≤_;omega,Nat.le_refl _⟩
theorem Wl.ins {c n:Nat} {l:List Pr} (h:Wl c n l) {k v:ByteArray} (hk:fitK k=true) (hv:v.size≤150) (hc:4+k.size+v.size≤c):Wl c (n+1) (insP l k v):=by
 have h1:=ins_sz l k v
 obtain ⟨a,b,d,e⟩:=h
 exact ⟨insP_srt a,lL b hk hv,by rw [Nat.mul_add];omega,by omega⟩
theorem Wl.del {c n:Nat} {l:List Pr} (h:Wl c n l) (k:ByteArray):Wl c n (delP l k):=by
 have h1:=del_sz l k
 obtain ⟨a,b,d,e⟩:=h
 exact ⟨delP_srt a,mI b,by omega,by omega⟩
theorem Wl.up {c n m:Nat} {l:List Pr} (h:Wl c n l) (hm:n≤m):Wl c m l:=by
 obtain ⟨a,b,d,e⟩:=h
 have:=Nat.mul_le_mul_left c hm
 exact ⟨a,b,by omega,by omega⟩
theorem Wl.gl {c n:Nat} {l:List Pr} (h:Wl c n l) (h1:c * n≤477) (h2:n≤400):GL l:=by
 obtain ⟨a,b,d,e⟩:=h
 exact ⟨a,b,by omega,by omega⟩
def plF (val:ByteArray→ByteArray) (g:Nat→Nat):Nat→List Pr
 | 0=>[]
 | i+1=>insP (plF val g i) (nm (g i)) (val (nm (g i)))
theorem hH (val:ByteArray→ByteArray) (g:Nat→Nat) (hv:∀n,(val (nm n)).size≤4):∀i,Wl 11 i (plF val g i)
 | 0=>wl_nil 11
 | i+1=>(hH val g hv i).ins (nm_fit _) (by have:=hv (g i);omega) (by have:=hv (g i);rw [d5];omega)
theorem j3 (val:ByteArray→ByteArray) (g:Nat→Nat) (p:Pr):∀i,p∈plF val g i↔∃j,j<i∧p=(nm (g j),val (nm (g j)))
 | 0=>by constructor<;>intro h;cases h;obtain ⟨j,hj,_⟩:=h;omega
 | i+1=>by
  rw [plF,mem_insP,j3 val g p i]
  constructor
  ·rintro (h|⟨⟨j,hj,h⟩,_⟩)
   ·exact ⟨i,by omega,h⟩
   ·exact ⟨j,by omega,h⟩
  ·rintro ⟨j,hj,h⟩
   by_cases e:p.1=nm (g i)
   ·left
    rw [h] at e ⊢
    simp only at e
    rw [e]
   ·right
    refine ⟨⟨j,?_,h⟩,e⟩
    rcases Nat.lt_or_ge j i with h1|h1
    ·exact h1
    ·have:j=i:=by omega
     subst this
     rw [h] at e
     exact absurd rfl e
theorem plF_same (val:ByteArray→ByteArray) (g h:Nat→Nat) (n:Nat) (hv:∀n,(val (nm n)).size≤4) (h1:∀j,j<n→∃i,i<n∧h i=g j) (h2:∀j,j<n→∃i,i<n∧g i=h j):plF val g n=plF val h n:=by
 refine srt_ext (hH val g hv n).1 (hH val h hv n).1 (fun p=>?_)
 rw [j3,j3]
 constructor
 ·rintro ⟨j,hj,e⟩
  obtain ⟨i,hi,e2⟩:=h1 j hj
  exact ⟨i,hi,by rw [e2];exact e⟩
 ·rintro ⟨j,hj,e⟩
  obtain ⟨i,hi,e2⟩:=h2 j hj
  exact ⟨i,hi,by rw [e2];exact e⟩
theorem leS_nil (x:ByteArray):leS noStr x=true:=by
 unfold leS less
 have h:noStr.toList=[]:=by rw [ByteArray.toList_eq];rfl
 rw [h]
 cases x.toList with
 | nil=>rfl
 | cons a t=>rfl
theorem ahS_nil (x:ByteArray):ahS noStr x=true:=by unfold ahS;rw [decide_eq_true rfl];rfl
theorem take_sn {l:List Pr} {k:Nat} (h:k<l.length):l.take (k+1)=l.take k++[l.getD k (noStr,noStr)]:=by
 rw [List.take_add_one,List.getD_eq_getElem?_getD,List.getElem?_eq_getElem h]
 rfl
theorem scan_m (l:List Pr) (M:Int):∀j,j≤l.length→scanK l noStr noStr M j=l.take (min j M.toNat)
 | 0,_=>by rw [scanK,Nat.zero_min];rfl
 | j+1,hj=>by
  rw [scanK,scan_m l M j (by omega),leS_nil,ahS_nil,List.length_take]
  by_cases h:j<M.toNat
  ·have hd:decide (((min (min j M.toNat) l.length:Nat):Int)<M)=true:=decide_eq_true (by omega)
   rw [hd,Bool.and_true,Bool.and_true,if_pos rfl,Nat.min_eq_left (Nat.le_of_lt h),Nat.min_eq_left h,take_sn (by omega)]
  ·have hd:decide (((min (min j M.toNat) l.length:Nat):Int)<M)=false:=decide_eq_false (by omega)
   rw [hd,Bool.and_false,Bool.and_false,if_neg Bool.false_ne_true,Nat.min_eq_right (by omega),Nat.min_eq_right (by omega)]
theorem scan_full (l:List Pr) (M:Int) (h:(l.length:Int)≤M):scanK l noStr noStr M l.length=l:=by
 rw [scan_m l M l.length (Nat.le_refl _),Nat.min_eq_left (by omega),List.take_length]
def u16s (l:List Nat):List Value:=l.map fun n=>.int .u16 ((n:Nat):Int)
def SlH (w:World) (v:Value) (l:List Nat):Prop:=SlV 1 w v l.length (u16s l)
theorem SlH.at {w:World} {p:Option Addr} {n c:Nat} {l:List Nat} (h:SlH w (.slice p n c) l) (hn:l.length=n) (h0:0<n):∃b o,p=some ⟨b,o,none⟩∧b<w.heap.size∧∀i,i<n→w.cell? ⟨b,o+i,none⟩=some (.int .u16 (l.getD i 0:Int)):=by
 subst hn
 obtain ⟨p',c',he,hc,hl,hs⟩:=h
 cases he
 obtain ⟨b,o,hp,hsg⟩:=hs h0
 have key:∀i,i<l.length→w.cell? ⟨b,o+i,none⟩=some (.int .u16 (l.getD i 0:Int)):=by
  intro i hi
  refine hsg i _ ?_
  unfold u16s
  rw [List.getElem?_map,List.getD_eq_getElem?_getD,List.getElem?_eq_getElem hi]
  rfl
 exact ⟨b,o,hp,block_lt_of_cell (key 0 h0),key⟩
theorem fL:∀w,(isAgg 52).run Tryz.prog w=.ok false w:=by intro w;simp [go_sem]
theorem iI {a:Act} {w:World} {dst:Option Tmp} {typ:TypeId} {pos:String} {aft:Array Edge} {gd:Option (Nat×Bool)} {t rt:TypeId} {x y:Operand} (s s':ByteArray) (hs:s.size≤1000) (hs':s'.size≤1000) (hx:a.eval x=.string s) (hy:a.eval y=.string s') :
  (execOp a.eval {dst:=dst,op:=.binOp .add t x y rt,type:=typ,pos:=pos,after:=aft,guard:=gd}).run Tryz.prog w=.ok (.value (.string (s++s'))) w:=by
 unfold execOp
 simp only [hx,hy]
 simp [eqGuard,binOp,Op.stringOp]
 omega
def vc (a:ByteArray):ByteArray:={data:=#[118]}++a
theorem vc_size (n:Nat):(vc (nm n)).size=4:=by
 unfold vc
 rw [ByteArray.size_append,d5]
 rfl
theorem vc_le (n:Nat):(vc (nm n)).size≤4:=by rw [vc_size];exact Nat.le_refl _
theorem put_L {w0 w:World} {gp pg:Nat} {R:List (List Pr)} (h:Tr w0 w gp pg R) {r:Nat} {l:List Pr} (hl:R[r]?=some l) (m:Nat) (hm:R.length=m) (key val:ByteArray) (hk:fitK key=true) (hv:val.size≤150) (hg:GL (insP l key val)) (hlt:m<pg) :
  Calls Tryz.prog 11 #[.pointer (some ⟨gp,0,none⟩),.int .u32 (r:Int),.string key,.string val] w fun e w'=>e=.returned (.tuple #[.int .u32 (m:Int),.int .i64 0])∧Tr w0 w' gp pg (R++[insP l key val])∧Fr w w':=by
 subst hm
 exact put_T h hl key val hk hv hg hlt
theorem at_more {R:List (List Pr)} {r:Nat} {l m:List Pr} (h:R[r]?=some l):(R++[m])[r]?=some l:=by
 rw [List.getElem?_append_left (List.getElem?_eq_some_iff.1 h).1]
 exact h
theorem jQ {R:List (List Pr)} {r:Nat} {m:List Pr} (h:R.length=r):(R++[m])[r]?=some m:=by
 rw [List.getElem?_append_right (by omega),h,Nat.sub_self]
 rfl
theorem kq {w0 w:World} {gp pg:Nat} {R:List (List Pr)} (h:Tr w0 w gp pg R) {r:Nat} {l:List Pr} (hl:R[r]?=some l) (n:Nat) (hn:l.length=n) (h100:n≤100) :
  Calls Tryz.prog 18 #[.pointer (some ⟨gp,0,none⟩),.int .u32 (r:Int),.string {data:=#[]},.string {data:=#[]},.int .i64 100] w fun e w'=>∃p c,e=.returned (.tuple #[.slice p n c,.int .i64 0])∧w'.ownsRow w.heap.size 44 2 (.slice p n c) n (prs l)∧Below w.heap.size w w':=by
 refine (scan_T h hl noStr noStr 100).mono ?_
 rintro e w' ⟨v',he,ho,hb⟩
 rw [scan_full l 100 (by omega),hn] at ho
 obtain ⟨p,c,rfl⟩:=eI ho
 exact ⟨p,c,he,ho,hb⟩
theorem i8 {w:World} {B n:Nat} {v:Value} {l:List Pr} (h:w.ownsRow B 44 2 v n (prs l)) (hn:l.length=n):SlP w v l:=by
 subst hn
 exact own_sl h
open Go Go.ChangeShapes Go.WideShapes Go.ChangeAt Go.RowKit
theorem un_u16s:Tryz.prog.underlying 50=some (.slice 52):=Tryz.underlying50
theorem un_u16:Tryz.prog.underlying 52=some (.int .u16):=Tryz.underlying52
theorem cells_u16:Tryz.prog.cellsOf 52=1:=by kernel_rfl
theorem SlV.nilT (W:World):SlV 1 W (.slice none 0 0) 0 []:=⟨none,0,rfl,Nat.le_refl _,rfl,fun h=>absurd h (by simp)⟩
theorem nh {α:Type} (f:Nat→α) (n i:Nat) (h:i<n):((List.range n).map f)[i]?=some (f i):=by
 simp [h]
theorem list_one {W:World} {p:Option Addr} {len cap b o:Nat} {α:Type} (B:Nat→α) (g:α→Value) (hc:len≤cap) (hp:0<len→p=some ⟨b,o,none⟩) (h:∀i,i<len→W.cell? ⟨b,o+i,none⟩=some (g (B i))) :
  SlV 1 W (.slice p len cap) len (((List.range len).map B).map g):=by
 refine ⟨p,cap,rfl,hc,by simp,fun h0=>⟨b,o,hp h0,fun j u hu=>?_⟩⟩
 have hj:j<len:=by
  have:=(List.getElem?_eq_some_iff.1 hu).1
  simpa using this
 rw [List.map_map,nh _ _ _ hj] at hu
 rw [h j hj]
 exact hu
theorem kh {H:Type} {enc:TypeId×Value→H} {W:World} {base:Nat} {v:Value} {d:DataW H} {ps:List MemPlace} (hok:Value.okWide Tryz.prog W .any base 50 v) (h:DataW.Trod enc Tryz.prog W 0 (fun _=>true) true 50 v d ps) :
  ∃(l:List Nat) (p:Option Addr) (c:Nat),v=.slice p l.length c∧SlH W v l:=by
 obtain ⟨a,len,cap,rfl⟩:=okWide_slice un_u16s hok
 obtain ⟨fuel,hf⟩:=h
 rcases Go.Deep.open_slice1 un_u16s cells_u16 hf with ⟨hcs,_⟩|⟨x,l,c,m,n,V,D,Pl,hcs,_,hl,_,hm,_,hel⟩
 ·simp [Value.cells] at hcs
  obtain ⟨rfl,rfl,rfl⟩:=hcs
  exact ⟨[],none,0,rfl,SlV.nilT W⟩
 ·simp [Value.cells] at hcs
  obtain ⟨rfl,rfl,rfl⟩:=hcs
  have hm':m=cap:=by simpa using hm
  by_cases h0:0<len
  ·obtain ⟨b,o,spot⟩:=x
   have hspot:spot=none:=by simpa [Addr.add] using World.cell?_spot (hel 0 (by omega)).1
   subst hspot
   obtain ⟨f,hf⟩:=Go.Deep.choose_lt (α:=Nat) (n:=len) (p:=fun i t=>V i=.int .u16 ((t:Nat):Int))
    (fun i hi=>by
     obtain ⟨z,h1,_,hwf⟩:=DataW.trod_int un_u16 (hel i (by omega)).2
     simp only [List.cons.injEq,and_true] at h1
     have hz:=bounds_u16 hwf
     exact ⟨z.toNat,by rw [h1,Int.toNat_of_nonneg hz.1]⟩)
   refine ⟨(List.range len).map f,some ⟨b,o,none⟩,cap,by rw [List.length_map,List.length_range],?_⟩
   have h9:=list_one (W:=W) (p:=some ⟨b,o,none⟩) (cap:=cap) f (fun n=>Value.int .u16 ((n:Nat):Int)) (by omega) (fun _=>rfl) (fun i hi=>by rw [←Go.WideShapes.add_plain,(hel i (by omega)).1,hf i hi])
   show SlV 1 W _ _ _
   rw [List.length_map,List.length_range]
   exact h9
  ·have hz:len=0:=by omega
   subst hz
   exact ⟨[],some x,cap,rfl,⟨some x,cap,rfl,by omega,rfl,fun h=>absurd h (by simp)⟩⟩
open Go Go.RowKit Go.Maps
theorem nes_same {a:Act} {w:World} {dst:Option Tmp} {typ:TypeId} {pos:String} {aft:Array Edge} {gd:Option (Nat×Bool)} {x y:Operand} {t rt:TypeId} (s:ByteArray) (hx:a.eval x=.string s) (hy:a.eval y=.string s) :
  (execOp a.eval {dst:=dst,op:=.binOp .neq t x y rt,type:=typ,pos:=pos,after:=aft,guard:=gd}).run Tryz.prog w=.ok (.value (.bool false)) w:=by
 unfold execOp
 simp only [hx,hy]
 simp [eqGuard,binOp,go_sem,Op.stringOp]
theorem rot_same (n k:Nat) (g:Nat→Nat) (hk:k<n):plF vc g n=plF vc (fun i=>g ((i+k) % n)) n:=by
 refine plF_same vc g _ n vc_le (fun j hj=>?_) (fun j hj=>⟨(j+k) % n,Nat.mod_lt _ (by omega),rfl⟩)
 rcases Nat.lt_or_ge j k with h|h
 ·refine ⟨j+n - k,by omega,?_⟩
  show g ((j+n - k+k) % n)=g j
  rw [show j+n - k+k=j+n by omega,Nat.add_mod_right,Nat.mod_eq_of_lt hj]
 ·refine ⟨j - k,by omega,?_⟩
  show g ((j - k+k) % n)=g j
  rw [show j - k+k=j by omega,Nat.mod_eq_of_lt hj]
theorem far_key {l:List Pr} {g:Nat→Nat} {n m:Nat} (h:plF vc g n=l) (x:ByteArray) (hx:x.size=1):∀p∈l,p.1≠nm m++x:=by
 intro p hp e
 rw [←h,j3] at hp
 obtain ⟨j,_,rfl⟩:=hp
 have h1:=congrArg ByteArray.size e
 rw [ByteArray.size_append,d5,d5,hx] at h1
 omega
theorem order_none (p:Option Addr) (n c x:Nat) (h:n=0) (w:World) (ht:Tab w) (hq:QTab w) (hw2:2≤w.heap.size) :
  Calls Tryz.prog 4 #[.slice p n c,.int .u8 (x:Int)] w fun e w'=>e=.returned (.bool true)∧Below w.heap.size w w':=by
 subst h
 have HT:Hid (Tab w):=ht
 have HQ:Hid (QTab w):=hq
 clear ht hq
 go_enter Tryz.func4,Tryz.ntmps4
 go_wp2_with (first
  | (go_at_call 9;refine (cP w HT.out HQ.out hw2).mono ?_;rintro e w1 ⟨rfl,hb⟩;have HB1:Hid (Below w.heap.size w w1):=hb;clear hb))
 go_ret
 exact ⟨rfl,HB1.out⟩
theorem order_many (p:Option Addr) (n c x:Nat) (h:25<n) (w:World) (ht:Tab w) (hq:QTab w) (hw2:2≤w.heap.size) :
  Calls Tryz.prog 4 #[.slice p n c,.int .u8 (x:Int)] w fun e w'=>e=.returned (.bool true)∧Below w.heap.size w w':=by
 have h0:¬(n:Int)=0:=by omega
 have h1:(25:Int)<(n:Int):=by omega
 have HT:Hid (Tab w):=ht
 have HQ:Hid (QTab w):=hq
 clear ht hq
 go_enter Tryz.func4,Tryz.ntmps4
 go_wp2_with (first
  | (go_at_call 9;refine (cP w HT.out HQ.out hw2).mono ?_;rintro e w1 ⟨rfl,hb⟩;have HB1:Hid (Below w.heap.size w w1):=hb;clear hb))
 go_ret
 exact ⟨rfl,HB1.out⟩
theorem exec_remX {a:Act} {w:World} {dst:Option Tmp} {typ:TypeId} {pos:String} {aft:Array Edge} {gd:Option (Nat×Bool)} {x y:Operand} (i n j:Nat) (hj:i % n=j) (h0:0<n) (hx:a.eval x=.int .i64 (i:Int)) (hy:a.eval y=.int .i64 (n:Int)) :
  (execOp a.eval {dst:=dst,op:=.binOp .rem 3 x y 3,type:=typ,pos:=pos,after:=aft,guard:=gd}).run Tryz.prog w=.ok (.value (.int .i64 (j:Int))) w:=by
 have h1:Int.tmod (i:Int) (n:Int)=(j:Int):=by
  rw [←hj,Int.ofNat_tmod]
 unfold execOp
 simp only [hx,hy]
 simp [eqGuard,binOp,go_sem,h1]
 omega
theorem exec_remI {a:Act} {w:World} {dst:Option Tmp} {typ:TypeId} {pos:String} {aft:Array Edge} {gd:Option (Nat×Bool)} {x y:Operand} (i k n j:Nat) (hj:(i+k) % n=j) (hk:k<n) (hx:a.eval x=.int .i64 ((i:Int)+(k:Int))) (hy:a.eval y=.int .i64 (n:Int)) :
  (execOp a.eval {dst:=dst,op:=.binOp .rem 3 x y 3,type:=typ,pos:=pos,after:=aft,guard:=gd}).run Tryz.prog w=.ok (.value (.int .i64 (j:Int))) w:=by
 have h1:Int.tmod ((i:Int)+(k:Int)) (n:Int)=(j:Int):=by
  rw [←hj,←Int.natCast_add,Int.ofNat_tmod]
 unfold execOp
 simp only [hx,hy]
 simp [eqGuard,binOp,go_sem,h1]
 omega
theorem order_some (K:List Nat) (n c x b o:Nat) (h0:0<n) (hn25:n≤25) (hx:x<256) (w:World) (hcl:∀i,i<n→w.cell? ⟨b,o+i,none⟩=some (.int .u16 (K.getD i 0:Int))) (hbw:b<w.heap.size) (ht:Tab w) (hq:QTab w) (hw2:2≤w.heap.size) :
  Calls Tryz.prog 4 #[.slice (some ⟨b,o,none⟩) n c,.int .u8 (x:Int)] w fun e w'=>e=.returned (.bool true)∧Below w.heap.size w w':=by
 have HT:Hid (Tab w):=ht
 have HQ:Hid (QTab w):=hq
 have HCW:Hid (∀i,i<n→w.cell? ⟨b,o+i,none⟩=some (.int .u16 (K.getD i 0:Int))):=hcl
 obtain ⟨k,hk⟩:∃k,k=x % n:=⟨_,rfl⟩
 have hkn:k<n:=by rw [hk];exact Nat.mod_lt _ h0
 have HK:Hid (x % n=k):=hk.symm
 obtain ⟨g,hg⟩:∃g:Nat→Nat,g=fun i=>K.getD i 0:=⟨_,rfl⟩
 obtain ⟨h,hh⟩:∃h:Nat→Nat,h=fun i=>g ((i+k) % n):=⟨_,rfl⟩
 have HGI:Hid (∀i,K.getD i 0=g i):=fun i=>by rw [hg]
 have HHI:Hid (∀i,g ((i+k) % n)=h i):=fun i=>by rw [hh]
 have HSM:Hid (plF vc g n=plF vc h n):=by rw [hh];exact rot_same n k g hkn
 have hn0:¬(n:Int)=0:=by omega
 have hn1:decide ((25:Int)<(n:Int))=false:=decide_eq_false (by omega)
 clear ht hq hcl hk hg hh
 go_enter Tryz.func4,Tryz.ntmps4
 go_wp2_with (first
  | (go_at_call 9;refine (cP w HT.out HQ.out hw2).mono ?_;rintro e w1 ⟨rfl,hb⟩;have HB1:Hid (Below w.heap.size w w1):=hb;clear hb)
  | (go_at_call 10;refine (lx 390 (by omega) (by omega) _ (Tab.bel HT.out HB1.out) (QTab.bel HQ.out HB1.out) (Nat.le_trans hw2 HB1.out.size)).mono ?_;rintro e w2 ⟨gp,rfl,hs⟩;have H0:Hid (Tr w1 w2 gp 390 [[]]):=hs;clear hs)
  | ((with_reducible refine aa (some 48) (.binOp .rem 3 (.tmp 45) (.tmp 47) 3) ?_);go_must (refine ae (.int .i64 (k:Int)) rfl (exec_remX x n k HK.out h0 rfl rfl) ?_)))
 go_loopw [6,8,12] (fun vr vq vi wr=>∃(i a b':Nat) (R:List (List Pr)),i≤n∧vi=.int .i64 (i:Int)∧vr=.int .u32 (a:Int)∧vq=.int .u32 (b':Int)∧Hid (Tr w1 wr gp 390 R∧R[a]?=some (plF vc g i)∧R[b']?=some (plF vc h i)∧R.length=1+2 * i)) (fun _ _ vi _=>n - (RowKit.intOf vi).toNat)
 case atStart=>exact ⟨0,0,0,[[]],by omega,rfl,rfl,rfl,H0.out,rfl,rfl,rfl⟩
 case round =>
  clear H0
  obtain ⟨i,a,b',R,hi,rfl,rfl,rfl,HR⟩:=hrel
  by_cases hlt:i<n
  ·have hii:(i:Int)<(n:Int):=by omega
   have HCL:Hid (∀W,Below wr.heap.size wr W→∀i,i<n→W.cell? ⟨b,o+i,none⟩=some (.int .u16 (K.getD i 0:Int))):=fun W hW i hi=>by
    have hb9:Below w.heap.size w W:=HB1.out.trans ((HR.out.1.bl.trans (hW.mono HR.out.1.bl.size)).mono HB1.out.size)
    rw [World.cell?_of_block (w:=w) (a:=⟨b,o+i,none⟩) (hb9.block b hbw)]
    exact HCW.out i hi
   obtain ⟨j,hj⟩:∃j,j=(i+k) % n:=⟨_,rfl⟩
   have hjn:j<n:=by rw [hj];exact Nat.mod_lt _ h0
   have HJ:Hid ((i+k) % n=j):=hj.symm
   obtain ⟨x1,hx1⟩:∃x,x=g i:=⟨_,rfl⟩
   obtain ⟨x2,hx2⟩:∃x,x=g j:=⟨_,rfl⟩
   have HX1:Hid (K.getD i 0=x1):=by show _=_;rw [hx1];exact HGI.out i
   have HX2:Hid (K.getD j 0=x2):=by show _=_;rw [hx2];exact HGI.out j
   obtain ⟨s1,hs1⟩:∃s,s=nm x1:=⟨_,rfl⟩
   obtain ⟨s2,hs2⟩:∃s,s=nm x2:=⟨_,rfl⟩
   have HN1:Hid (∀_:Unit,nm x1=s1):=fun _=>hs1.symm
   have HN2:Hid (∀_:Unit,nm x2=s2):=fun _=>hs2.symm
   have HZ1:Hid (fitK s1=true∧s1.size≤1000∧(vc s1).size≤150):=by rw [hs1];exact ⟨nm_fit _,by rw [d5];decide,by rw [vc_size];decide⟩
   have HZ2:Hid (fitK s2=true∧s2.size≤1000∧(vc s2).size≤150):=by rw [hs2];exact ⟨nm_fit _,by rw [d5];decide,by rw [vc_size];decide⟩
   have HP1:Hid (insP (plF vc g i) s1 (vc s1)=plF vc g (i+1)):=by show _=_;rw [hs1,hx1];rfl
   have HP2:Hid (insP (plF vc h i) s2 (vc s2)=plF vc h (i+1)):=by show _=_;rw [hs2,hx2,hj,HHI.out i];rfl
   have HG1:Hid (∀_:Unit,GL (plF vc g (i+1))∧GL (plF vc h (i+1))):=fun _=>⟨(hH vc g vc_le (i+1)).gl (by omega) (by omega),(hH vc h vc_le (i+1)).gl (by omega) (by omega)⟩
   have hm:=Mem.start wr
   have tk1:Nat:=0
   clear hj hx1 hx2 hs1 hs2
   go_wp2_with fail
   refine au ?_
   refine ap (T:=fun W=>Mem wr [] W []) (by kernel_rfl) hm ?_
   clear hm
   intro wc hm
   refine aT 0 (v:=.slice (some ⟨b,o,none⟩) n c) rfl (by kernel_rfl) rfl (fun W _=>by go_simp) hm ?_
   go_simp
   refine aT 1 (v:=.int .i64 (i:Int)) rfl (by kernel_rfl) rfl (fun W _=>by go_simp) hm ?_
   go_simp
   refine aT 2 (v:=.pointer (some ⟨b,o+i,none⟩)) rfl (by kernel_rfl) rfl (fun W _=>by go_simp) hm ?_
   go_simp
   refine aT 3 (v:=.int .u16 (x1:Int)) rfl (by kernel_rfl) rfl (fun W hW=>aj (.int .u16 (x1:Int)) ((HCL.out W (Mem.below hW) i hlt).trans (by rw [HX1.out])) rfl fL) hm ?_
   go_simp
   refine aT 5 (v:=.slice (some ⟨b,o,none⟩) n c) rfl (by kernel_rfl) rfl (fun W _=>by go_simp) hm ?_
   go_simp
   refine aT 6 (v:=.int .i64 (i:Int)) rfl (by kernel_rfl) rfl (fun W _=>by go_simp) hm ?_
   go_simp
   refine aT 7 (v:=.int .i64 (k:Int)) rfl (by kernel_rfl) rfl (fun W _=>by go_simp) hm ?_
   go_simp
   refine aT 8 (v:=.int .i64 ((i:Int)+(k:Int))) rfl (by kernel_rfl) rfl (fun W _=>by go_simp;exact wrapi _ (by omega) (by omega)) hm ?_
   go_simp
   refine aT 9 (v:=.slice (some ⟨b,o,none⟩) n c) rfl (by kernel_rfl) rfl (fun W _=>by go_simp) hm ?_
   go_simp
   refine aT 10 (v:=.int .i64 (n:Int)) rfl (by kernel_rfl) rfl (fun W _=>by go_simp) hm ?_
   go_simp
   refine aT 11 (v:=.int .i64 (j:Int)) rfl (by kernel_rfl) rfl (fun W _=>exec_remI i k n j HJ.out hkn rfl rfl) hm ?_
   go_simp
   refine aT 12 (v:=.pointer (some ⟨b,o+j,none⟩)) rfl (by kernel_rfl) rfl (fun W _=>by go_simp) hm ?_
   go_simp
   refine aT 13 (v:=.int .u16 (x2:Int)) rfl (by kernel_rfl) rfl (fun W hW=>aj (.int .u16 (x2:Int)) ((HCL.out W (Mem.below hW) j hjn).trans (by rw [HX2.out])) rfl fL) hm ?_
   go_simp
   refine aO 4 (by kernel_rfl) rfl rfl ?_
   intro K hK
   go_wp2_with (go_at_call 21;refine (ei x1 _).mono ?_;rintro e wn1 ⟨he,hb⟩;rw [HN1.out ()] at he;subst he;replace hm:=hm.call hb;clear hb)
   refine hK _ _ hm ?_
   clear hK K
   refine aO 14 (by kernel_rfl) rfl rfl ?_
   intro K hK
   go_wp2_with (go_at_call 21;refine (ei x2 _).mono ?_;rintro e wn2 ⟨he,hb⟩;rw [HN2.out ()] at he;subst he;replace hm:=hm.call hb;clear hb)
   refine hK _ _ hm ?_
   clear hK K
   refine aT 15 (v:=.string s1) rfl (by kernel_rfl) rfl (fun W _=>by go_simp) hm ?_
   go_simp
   refine aT 16 (v:=.string s2) rfl (by kernel_rfl) rfl (fun W _=>by go_simp) hm ?_
   go_simp
   refine wpAnyH_done (by kernel_rfl) ?_ _
   simp only [endsIn]
   have HRc:Hid (Tr w1 wn2 gp 390 R):=HR.out.1.below hm.below
   obtain ⟨m1,hm1⟩:∃m,m=1+2 * i:=⟨_,rfl⟩
   obtain ⟨m2,hm2⟩:∃m,m=2+2 * i:=⟨_,rfl⟩
   have HL1:Hid (R.length=m1):=by show _=_;rw [hm1];exact HR.out.2.2.2
   have HM12:Hid (m1=1+2 * i∧m2=m1+1):=by show _∧_;omega
   have hm390:m1<390∧m2<390:=by omega
   clear hm1 hm2
   go_wp2_with (first
    | ((with_reducible refine aa (some 75) (.binOp .add 9 (.const (.string {data:=#[118]})) (.tmp 74) 9) ?_);go_must (refine ae (.string (vc s1)) rfl (iI {data:=#[118]} s1 (by decide) HZ1.out.2.1 rfl rfl) ?_))
    | ((with_reducible refine aa (some 86) (.binOp .add 9 (.const (.string {data:=#[118]})) (.tmp 85) 9) ?_);go_must (refine ae (.string (vc s2)) rfl (iI {data:=#[118]} s2 (by decide) HZ2.out.2.1 rfl rfl) ?_))
    | (go_at_call 11;clear tk1;refine (put_L HRc.out HR.out.2.1 m1 HL1.out s1 (vc s1) HZ1.out.1 HZ1.out.2.2 (by rw [HP1.out];exact (HG1.out ()).1) hm390.1).mono ?_;rintro e w5 ⟨rfl,hs,hf⟩;rw [HP1.out] at hs;have HR5:Hid (Tr w1 w5 gp 390 (R++[plF vc g (i+1)])):=hs;clear hs hf)
    | (go_at_call 11;refine (put_L HR5.out (at_more HR.out.2.2.1) m2 (by rw [List.length_append,HL1.out];exact HM12.out.2.symm) s2 (vc s2) HZ2.out.1 HZ2.out.2.2 (by rw [HP2.out];exact (HG1.out ()).2) hm390.2).mono ?_;rintro e w6 ⟨rfl,hs,hf⟩;rw [HP2.out] at hs;have HR6:Hid (Tr w1 w6 gp 390 ((R++[plF vc g (i+1)])++[plF vc h (i+1)])):=hs;clear hs hf))
   go_roundw
   case rel=>exact ⟨i+1,m1,m2,_,by omega,by go_num,rfl,rfl,HR6.out,at_more (jQ HL1.out),jQ (by rw [List.length_append,HL1.out];exact HM12.out.2.symm),by rw [List.length_append,List.length_append,HL1.out];show m1+1+1=_;have:=HM12.out.1;omega⟩
   case measure=>simp [RowKit.intOf];omega
  ·have hin:i=n:=by omega
   subst hin
   have hii:¬(i:Int)<(i:Int):=by omega
   obtain ⟨l,hl⟩:∃l,l=plF vc g i:=⟨_,rfl⟩
   have HTR:Hid (Tr w1 wr gp 390 R):=HR.out.1
   have HRA:Hid (R[a]?=some l):=by show _=_;rw [hl];exact HR.out.2.1
   have HRB:Hid (R[b']?=some l):=by show _=_;rw [hl,HSM.out];exact HR.out.2.2.1
   have HLG:Hid (plF vc g i=l):=hl.symm
   obtain ⟨N,hN⟩:∃N,N=l.length:=⟨_,rfl⟩
   have HNL:Hid (l.length=N):=hN.symm
   have hN25:N≤25:=by have h9:=(hH vc g vc_le i).2.2.2;rw [hN,hl];omega
   have tk1:Nat:=0
   clear HR hl hN
   go_wp2_with (first
    | (go_at_call 18;clear tk1;refine (kq HTR.out HRA.out N HNL.out (by omega)).mono ?_;rintro e w3 ⟨p3,c3,rfl,ho,hb⟩;have HV3:Hid (SlP w3 (.slice p3 N c3) l):=i8 ho HNL.out;replace HTR:Hid (Tr w1 w3 gp 390 R):=HTR.out.below hb;clear ho hb)
    | (go_at_call 18;refine (kq HTR.out HRB.out N HNL.out (by omega)).mono ?_;rintro e w4 ⟨p4,c4,rfl,ho,hb⟩;have HV4:Hid (SlP w4 (.slice p4 N c4) l):=i8 ho HNL.out;replace HV3:Hid (SlP w4 (.slice p3 N c3) l):=SlV.below HV3.out hb;replace HTR:Hid (Tr w1 w4 gp 390 R):=HTR.out.below hb;clear ho hb)
    | (go_at_call 19;refine (lF l N c3 c4 p3 p4 HNL.out (by omega) _ HV3.out HV4.out).mono ?_;rintro e w5 ⟨rfl,hb⟩;replace HTR:Hid (Tr w1 w5 gp 390 R):=HTR.out.below hb;clear hb HV3 HV4))
   go_loopw [19] (fun vi wr=>∃m:Nat,m≤i∧vi=.int .i64 (m:Int)∧Hid (Tr w1 wr gp 390 R)) (fun vi _=>i - (RowKit.intOf vi).toNat)
   case atStart=>exact ⟨0,by omega,rfl,HTR.out⟩
   case round =>
    clear HTR
    obtain ⟨m,hmi,rfl,HTR⟩:=hrel
    by_cases hlt:m<i
    ·have hmii:(m:Int)<(i:Int):=by omega
     obtain ⟨x1,hx1⟩:∃x,x=g m:=⟨_,rfl⟩
     have HCL:Hid (∀W,Below w1.heap.size w1 W→W.cell? ⟨b,o+m,none⟩=some (.int .u16 (x1:Int))):=fun W hW=>by
      have hb9:Below w.heap.size w W:=HB1.out.trans (hW.mono HB1.out.size)
      rw [World.cell?_of_block (w:=w) (a:=⟨b,o+m,none⟩) (hb9.block b hbw),HCW.out m hlt,HGI.out m,hx1]
     obtain ⟨s1,hs1⟩:∃s,s=nm x1:=⟨_,rfl⟩
     have HN1:Hid (∀_:Unit,nm x1=s1):=fun _=>hs1.symm
     have HZ1:Hid (s1.size≤1000):=by show _≤_;rw [hs1,d5];decide
     have HIN:Hid ((s1,vc s1)∈l):=by rw [Hid,←HLG.out,j3];exact ⟨m,hlt,by rw [hs1,hx1]⟩
     obtain ⟨s2,hs2⟩:∃s,s=s1++{data:=#[120]}:=⟨_,rfl⟩
     have HAD:Hid (∀_:Unit,s1++{data:=#[120]}=s2):=fun _=>hs2.symm
     have HOUT:Hid (∀p∈l,p.1≠s2):=by rw [hs2,hs1];exact far_key HLG.out _ rfl
     obtain ⟨s3,hs3⟩:∃s,s=vc s1:=⟨_,rfl⟩
     have HVC:Hid (∀_:Unit,vc s1=s3):=fun _=>hs3.symm
     rw [←hs3] at HIN
     have tk1:Nat:=0
     clear hx1 hs1 hs2 hs3
     go_wp2_with (first
      | ((with_reducible refine aa (some 128) (.load 52 (.tmp 127)) ?_);go_must (refine ae (.int .u16 (x1:Int)) rfl (aj (.int .u16 (x1:Int)) (HCL.out _ HTR.out.bl) rfl fL) ?_))
      | ((with_reducible refine aa (some 140) (.load 52 (.tmp 139)) ?_);go_must (refine ae (.int .u16 (x1:Int)) rfl (aj (.int .u16 (x1:Int)) (HCL.out _ HTR.out.bl) rfl fL) ?_))
      | ((with_reducible refine aM (some 158) (.load 52 (.tmp 157)) (some (6,false)) ?_);go_must (refine ae (.int .u16 (x1:Int)) rfl (aj (.int .u16 (x1:Int)) (HCL.out _ HTR.out.bl) rfl fL) ?_))
      | (go_at_call 21;refine (ei x1 _).mono ?_;rintro e wn ⟨he,hb⟩;rw [HN1.out ()] at he;subst he;replace HTR:Hid (Tr w1 wn gp 390 R):=HTR.out.below hb;clear hb)
      | (go_at_call 16;clear tk1;refine (getHad_T HTR.out HRB.out s1 s3 HIN.out).mono ?_;rintro e wg ⟨rfl,hb⟩;replace HTR:Hid (Tr w1 wg gp 390 R):=HTR.out.below hb;clear hb)
      | (go_at_call 16;refine (getNot_T HTR.out HRB.out s2 HOUT.out).mono ?_;rintro e wg ⟨rfl,hb⟩;replace HTR:Hid (Tr w1 wg gp 390 R):=HTR.out.below hb;clear hb)
      | ((with_reducible refine aa (some 142) (.binOp .add 9 (.tmp 141) (.const (.string {data:=#[120]})) 9) ?_);go_must (refine ae (.string s2) rfl (by rw [←HAD.out ()];exact iI s1 {data:=#[120]} HZ1.out (by decide) rfl rfl) ?_))
      | ((with_reducible refine aM (some 160) (.binOp .add 9 (.const (.string {data:=#[118]})) (.tmp 159) 9) (some (6,false)) ?_);go_must (refine ae (.string s3) rfl (by rw [←HVC.out ()];exact iI {data:=#[118]} s1 (by decide) HZ1.out rfl rfl) ?_))
      | ((with_reducible refine aM (some 161) (.binOp .neq 9 (.tmp 154) (.tmp 160) 9) (some (6,false)) ?_);go_must (refine ae (.bool false) rfl (nes_same s3 rfl rfl) ?_)))
     go_roundw
     case rel=>exact ⟨m+1,by omega,by go_num,HTR.out⟩
     case measure=>simp [RowKit.intOf];omega
    ·have hmi2:m=i:=by omega
     subst hmi2
     have hmii:¬(m:Int)<(m:Int):=by omega
     go_wp2_with fail
     go_ret
     exact ⟨rfl,HB1.out.trans (HTR.out.bl.mono HB1.out.size)⟩
theorem order_any (K:List Nat) (p:Option Addr) (n c x:Nat) (hn:K.length=n) (hx:x<256) (w:World) (hv:SlH w (.slice p n c) K) (ht:Tab w) (hq:QTab w) (hw2:2≤w.heap.size) :
  Calls Tryz.prog 4 #[.slice p n c,.int .u8 (x:Int)] w fun e w'=>e=.returned (.bool true)∧Below w.heap.size w w':=by
 rcases Nat.eq_zero_or_pos n with h0|h0
 ·exact order_none p n c x h0 w ht hq hw2
 ·rcases Nat.lt_or_ge 25 n with h1|h1
  ·exact order_many p n c x h1 w ht hq hw2
  ·obtain ⟨b,o,hp,hb,hc⟩:=SlH.at hv hn h0
   subst hp
   exact order_some K n c x b o h0 h1 hx w hc hb ht hq hw2
end Go.Proofs.YtmlbjfklaehjnaaGreatDoor
