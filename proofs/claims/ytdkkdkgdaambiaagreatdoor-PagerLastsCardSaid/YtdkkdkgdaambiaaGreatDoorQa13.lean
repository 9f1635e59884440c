import Derived.Test.YtdkkdkgdaambiaaGreatDoorQa12
import Derived.Test.YtdkkdkgdaambiaaGreatDoorQa05
set_option maxRecDepth 100000
namespace Go.Proofs.YtdkkdkgdaambiaaGreatDoor
open Go Go.RowKit Go.Maps
theorem wrap64_of (n:Int) (h : -9223372036854775808≤n∧n≤9223372036854775807):wrap64 n=n:=by unfold wrap64;omega
theorem wrapU_of (n:Nat) (h:n<18446744073709551616):IntKind.u64.wrap (n:Int)=(n:Int):=by simp [IntKind.wrap,IntKind.signed,IntKind.bits];omega
theorem un_sta:∃fs,Tryz.prog.underlying 83=some (.struct fs):=⟨_,Tryz.underlying83⟩
theorem sz_sta:(Tryz.prog.info? 83).map (·.size)=some 1:=by kernel_rfl
theorem sz_u64:(Tryz.prog.info? 70).map (·.size)=some 1:=by kernel_rfl
theorem ag_u64:∀w,(isAgg 70).run Tryz.prog w=.ok false w:=by intro w;simp [go_sem]
theorem un_idx:Tryz.prog.underlying 79=some (.array 4 5):=Tryz.underlying79
theorem info_idx:(Tryz.prog.info? 79).map (fun i=>(i.zero,i.size))=some (some (.agg (u8s (List.replicate 4 0)).toArray),4):=by kernel_rfl
theorem zero_idx:∀w,(zeroValue 79).run Tryz.prog w=.ok (.agg (u8s (List.replicate 4 0)).toArray) w:=(zero_of_info info_idx).1
theorem sz_idx:(Tryz.prog.info? 79).map (·.size)=some 4:=(zero_of_info info_idx).2
set_option maxHeartbeats 1000000 in
theorem firstSector_any (id:Nat) (h:id≤4294967295) (w:World) :
  Calls Tryz.prog 35 #[.int .u32 (id:Int)] w fun e w'=>e=.returned (.int .i64 ((32+8 * id:Nat):Int))∧w'=w:=by
 go_enter Tryz.func35,Tryz.ntmps35
 go_wp2
 go_ret
 refine ⟨?_,rfl⟩
 show Ending.returned (Value.int .i64 _)=_
 congr 2
 first | omega | (rw [show ((32+8 * id:Nat):Int)=32+(id:Int) * 8 by omega])
set_option maxHeartbeats 1000000 in
theorem pagesOf_any (g mb:Nat) (kv:Value) (d:Dk) (pg:Nat) (hn:d.n=32+8 * pg) (hp:pg≤400) (w:World) (hd:DkAt w g mb kv d) :
  Calls Tryz.prog 54 #[.pointer (some ⟨g,0,none⟩)] w fun x w'=>x=.returned (.int .i64 (pg:Int))∧w'=w:=by
 obtain ⟨i,hi⟩:∃i:Int,i=(d.n:Int):=⟨_,rfl⟩
 have HI:Hid (i=(d.n:Int)):=hi
 have hi2:i=32+8 * (pg:Int):=by omega
 have HW:wrap64 (i - 32)=8 * (pg:Int):=by rw [hi2,wrap64_of _ (by omega)];omega
 have HD:(8 * (pg:Int)).tdiv 8=(pg:Int):=by rw [Int.tdiv_eq_ediv_of_nonneg (by omega)];omega
 have HV:wrap64 (pg:Int)=(pg:Int):=wrap64_of _ (by omega)
 have h0:¬8 * (pg:Int)<0:=by omega
 have h4:¬400<(pg:Int):=by omega
 clear hi hi2
 go_enter Tryz.func54,Tryz.ntmps54
 go_wp2_with (go_at_call 89;refine (len_any g mb kv d _ hd).mono ?_;rintro e w1 ⟨he,rfl⟩;rw [←HI.out] at he;subst he)
 all_goals (first | (go_ret;exact ⟨rfl,rfl⟩) | omega)
set_option maxHeartbeats 1000000 in
theorem indexOf_any (x:Int) (w:World) :
  Calls Tryz.prog 29 #[.int .u32 x] w fun e w'=>e=.returned (.agg (u8s (four x)).toArray)∧Below w.heap.size w w':=by
 have hm:=Mem.start w
 go_enter Tryz.func29,Tryz.ntmps29
 go_wp2_with (first
  | ((with_reducible refine at_op (some 2) (.alloc 79) ?_);refine wpl_alloc _ zero_idx hm ?_;clear hm;intro w1 g hm)
  | (go_at_call 64;refine (putBig_any x _).mono ?_;rintro e w2 ⟨rfl,hb⟩;replace hm:=hm.call hb;clear hb)
  | ((with_reducible refine at_op none (.store 79 (.tmp 2) (.tmp 4)) ?_);refine wpl_stw 0 (u8s (four x)) hm rfl rfl rfl 4 sz_idx (by simp [u8s_length]) (rfl) (u8s_one _) ?_;clear hm;intro w3 hm))
 exact ret_cell 0 hm rfl Tryz.results29 rfl _ un_idx rfl 4 sz_idx rfl rfl ⟨rfl,hm.below⟩
theorem and_mask (z:Nat) (h:z<18446744073709551616):Go.bits .and .u64 (z:Int) 536870911=((z % 536870912:Nat):Int):=by
 have ho:∀a:Nat,a<18446744073709551616→(BitVec.ofInt 64 (a:Int)).toNat=a:=by
  intro a ha
  rw [BitVec.toNat_ofInt]
  omega
 show IntKind.u64.wrap ((BitVec.ofInt 64 (z:Int) &&& BitVec.ofInt 64 ((536870911:Nat):Int)).toNat:Int)=_
 rw [BitVec.toNat_and,ho z h,ho 536870911 (by omega),show 536870911=2 ^ 29 - 1 by decide,Nat.and_two_pow_sub_one_eq_mod,wrapU_of _ (by omega)]
theorem below_go (limit low:Int):IntKind.u64.wrap (IntKind.u64.wrap (limit - 1) - Go.bits .and .u64 (IntKind.u64.wrap (IntKind.u64.wrap (limit - 1) - low)) 536870911)=genB limit low:=by
 have hw64:∀x:Int,IntKind.u64.wrap x=x % 18446744073709551616:=by intro x;simp [IntKind.wrap,IntKind.bits,IntKind.signed]
 obtain ⟨z,hz⟩:∃z:Nat,(z:Int)=((limit - 1) % 18446744073709551616 - low) % 18446744073709551616:=⟨(((limit - 1) % 18446744073709551616 - low) % 18446744073709551616).toNat,by omega⟩
 rw [hw64,hw64,hw64,←hz,and_mask z (by omega)]
 unfold genB
 omega
theorem un_gens:∃fs,Tryz.prog.underlying 72=some (.struct fs):=⟨_,Tryz.underlying72⟩
theorem sz_gens:(Tryz.prog.info? 72).map (·.size)=some 3:=by kernel_rfl
theorem info_gens:(Tryz.prog.info? 72).map (fun i=>(i.zero,i.size))=some (some (.agg [.int .u64 0,.int .u64 0,.int .u64 0].toArray),3):=by kernel_rfl
theorem zero_gens:∀w,(zeroValue 72).run Tryz.prog w=.ok (.agg [.int .u64 0,.int .u64 0,.int .u64 0].toArray) w:=(zero_of_info info_gens).1
set_option maxHeartbeats 1000000 in
theorem written_any (s:Int) (w:World) :
  Calls Tryz.prog 48 #[.agg #[.int .u64 s]] w fun e w'=>e=.returned (.bool (decide (0<s)))∧Below w.heap.size w w':=by
 have hm:=Mem.start w
 go_enter Tryz.func48,Tryz.ntmps48
 go_wp2_with (first
  | ((with_reducible refine at_op (some 1) (.box 83 (.tmp 0)) ?_);refine wpl_box [.int .u64 s] rfl hm ?_;clear hm;intro w1 g hm)
  | ((with_reducible refine at_op (some 4) (.load 70 (.tmp 3)) ?_);refine wpl_ldc 0 0 (.int .u64 s) hm rfl rfl ag_u64 (rfl) ?_))
 go_ret
 exact ⟨rfl,hm.below⟩
set_option maxHeartbeats 1000000 in
theorem none_any (a b c:Int) (w:World) :
  Calls Tryz.prog 65 #[.agg #[.int .u64 a,.int .u64 b,.int .u64 c]] w fun e w'=>e=.returned (.bool (b==c))∧Below w.heap.size w w':=by
 have hm:=Mem.start w
 go_enter Tryz.func65,Tryz.ntmps65
 go_wp2_with (first
  | ((with_reducible refine at_op (some 1) (.box 72 (.tmp 0)) ?_);refine wpl_box [.int .u64 a,.int .u64 b,.int .u64 c] rfl hm ?_;clear hm;intro w1 g hm)
  | ((with_reducible refine at_op (some 4) (.load 70 (.tmp 3)) ?_);refine wpl_ldc 0 1 (.int .u64 b) hm rfl rfl ag_u64 (rfl) ?_)
  | ((with_reducible refine at_op (some 6) (.load 70 (.tmp 5)) ?_);refine wpl_ldc 0 2 (.int .u64 c) hm rfl rfl ag_u64 (rfl) ?_))
 go_ret
 exact ⟨rfl,hm.below⟩
set_option maxHeartbeats 1000000 in
theorem genBelow_any (limit low:Int) (w:World) :
  Calls Tryz.prog 169 #[.int .u64 limit,.int .u64 low] w fun e w'=>e=.returned (.int .u64 (genB limit low))∧w'=w:=by
 have HA:Hid (∀_:Unit,IntKind.u64.wrap (IntKind.u64.wrap (limit - 1) - Go.bits .and .u64 (IntKind.u64.wrap (IntKind.u64.wrap (limit - 1) - low)) 536870911)=genB limit low):=fun _=>below_go limit low
 go_enter Tryz.func169,Tryz.ntmps169
 go_wp2_with fail
 go_ret
 exact ⟨by rw [←HA.out ()];simp,rfl⟩
open Go Go.RowKit Go.Maps
theorem idx_row:(79:TypeId)<Tryz.prog.types.size:=of_decide_eq_true (by kernel_rfl)
theorem idx_wide:(match Tryz.prog.underlying 79 with | some (.array _ _) | some (.struct _)=>true | _=>false)=true:=by kernel_rfl
theorem idx_law:Keyed Tryz.prog 79:=Keyed.of_law (deep_law_laid key_laid (m:=2) (by omega) idx_row (by kernel_rfl) idx_wide)
theorem idx_type:Tryz.prog.keyType 79=true:=by kernel_rfl
theorem idx_cells:Tryz.prog.cellsOf 79=4:=by kernel_rfl
theorem un_smap:Tryz.prog.underlying 73=some (.map 79 83):=Tryz.underlying73
theorem idx_of (zs:List Int) (hl:zs.length=4) (hb:Bytes zs):∃kl,keyOf Tryz.prog 79 (.agg (u8s zs).toArray)=some kl:=by
 obtain ⟨n,hn⟩:=types_some
 have hf:(Value.agg (u8s zs).toArray).formed Tryz.prog 79=true:=by
  simp [Value.formed,idx_cells,u8s_length,hl]
 have hk:Tryz.prog.keyLits (Tryz.prog.types.size+1) 79 (u8s zs)=some ((List.range 4).map fun i=>[Lit.int .u8 (zs.getD i 0)]).flatten:=by
  unfold Program.keyLits
  simp only [un_idx]
  rw [if_pos (by rw [u8s_length,hl,idx_cells]),mapM_all (g:=fun i=>[Lit.int .u8 (zs.getD i 0)])]
  ·rfl
  ·intro i hi
   have hi':i<zs.length:=by rw [hl];exact List.mem_range.1 hi
   have hc:(List.drop (i * Tryz.prog.cellsOf 5) (u8s zs)).take (Tryz.prog.cellsOf 5)=[.int .u8 (zs.getD i 0)]:=by
    rw [byte_cells,Nat.mul_one,List.take_one,List.head?_drop,u8s_get zs i hi']
    rfl
   have:=hb.get i
   rw [hc,hn]
   unfold Program.keyLits
   have hg:=wf_u8 _ this.1 this.2
   simp only [un_u8]
   exact if_pos ⟨trivial,hg⟩
 unfold keyOf
 rw [un_idx]
 simp only
 rw [if_pos (by rw [idx_type,hf];rfl)]
 exact ⟨_,by rw [show (Value.agg (u8s zs).toArray).cells.toList=u8s zs from rfl,hk];rfl⟩
theorem byte_lit {n:Nat} {v:Value} {ls:List Lit} (h:Tryz.prog.keyLits (n+1) 5 [v]=some ls):∃x:Int,v=.int .u8 x∧0≤x∧x<256:=by
 unfold Program.keyLits at h
 simp only [un_u8] at h
 cases v<;>simp at h
 obtain ⟨⟨rfl,hw⟩,_⟩:=h
 refine ⟨_,rfl,?_⟩
 simp [Lit.wf,IntKind.min,IntKind.max,IntKind.signed,IntKind.bits] at hw
 omega
theorem idx_inv {v:Value} {kl:Lit} (h:keyOf Tryz.prog 79 v=some kl):∃zs:List Int,zs.length=4∧Bytes zs∧v=.agg (u8s zs).toArray:=by
 obtain ⟨n,hn⟩:=types_some
 unfold keyOf at h
 rw [un_idx] at h
 simp only at h
 split at h
 ·simp only [Option.map_eq_some_iff] at h
  obtain ⟨ls,hls,_⟩:=h
  unfold Program.keyLits at hls
  simp only [un_idx,idx_cells,byte_cells,Nat.mul_one] at hls
  split at hls
  ·rename_i hlen
   have hag:∃cs:List Value,v=.agg cs.toArray∧cs.length=4:=by
    cases v with
    | agg cs=>exact ⟨cs.toList,by simp,by simpa [Value.cells] using hlen⟩
    | _=>simp [Value.cells] at hlen
   obtain ⟨cs,rfl,hl4⟩:=hag
   match cs,hl4 with
   | [a,b,c,d],_ =>
    rw [hn] at hls
    simp only [Value.cells,Option.map_eq_some_iff] at hls
    obtain ⟨ll,hll,_⟩:=hls
    rw [show List.range 4=[0,1,2,3] from rfl] at hll
    simp only [List.mapM_cons,List.drop_zero,List.drop_succ_cons,List.take_succ_cons,List.take_zero,Option.bind_eq_bind,Option.bind_eq_some_iff] at hll
    obtain ⟨l0,h0,l1,⟨l2,h2,l3,⟨l4,h4,l5,⟨l6,h6,_⟩,_⟩,_⟩,_⟩:=hll
    obtain ⟨x0,rfl,p0⟩:=byte_lit h0
    obtain ⟨x1,rfl,p1⟩:=byte_lit h2
    obtain ⟨x2,rfl,p2⟩:=byte_lit h4
    obtain ⟨x3,rfl,p3⟩:=byte_lit h6
    refine ⟨[x0,x1,x2,x3],rfl,?_,rfl⟩
    intro x hx
    simp only [List.mem_cons,List.not_mem_nil,or_false] at hx
    rcases hx with rfl | rfl | rfl | rfl<;>assumption
  ·cases hls
 ·cases h
/-- Four bytes are those of a number. -/
theorem four_of {zs:List Int} (hl:zs.length=4) (hb:Bytes zs):∃i:Nat,i<4294967296∧four (i:Int)=zs:=by
 match zs,hl with
 | [a,b,c,d],_ =>
  have h0:=hb a (by simp)
  have h1:=hb b (by simp)
  have h2:=hb c (by simp)
  have h3:=hb d (by simp)
  refine ⟨(a * 16777216+b * 65536+c * 256+d).toNat,by omega,?_⟩
  rw [Int.toNat_of_nonneg (by omega)]
  unfold four
  simp only [List.cons.injEq,and_true]
  omega
theorem four_inj {i j:Nat} (hi:i<4294967296) (hj:j<4294967296) (h:four (i:Int)=four (j:Int)):i=j:=by
 unfold four at h
 simp only [List.cons.injEq,and_true] at h
 omega
def idxV (i:Nat):Value:=.agg (u8s (four (i:Int))).toArray
theorem idxV_inj {i j:Nat} (hi:i<4294967296) (hj:j<4294967296) (h:idxV i=idxV j):i=j:=by
 refine four_inj hi hj ?_
 have h2:u8s (four (i:Int))=u8s (four (j:Int)):=by simpa [idxV] using h
 unfold u8s at h2
 exact (List.map_inj_right (fun x y hxy=>by simpa using hxy)).1 h2
def IsK (i:Nat) (kl:Lit):Prop:=i<4294967296∧keyOf Tryz.prog 79 (idxV i)=some kl
theorem IsK.ex (i:Nat) (hi:i<4294967296):∃kl,IsK i kl:=by
 obtain ⟨kl,h⟩:=idx_of (four (i:Int)) rfl (four_bytes _)
 exact ⟨kl,hi,h⟩
theorem IsK.inj {i j:Nat} {kl:Lit} (h:IsK i kl) (h':IsK j kl):i=j:=idxV_inj h.1 h'.1 (idx_law.inj h.2 h'.2)
theorem IsK.uni {i:Nat} {kl kl':Lit} (h:IsK i kl) (h':IsK i kl'):kl=kl':=Option.some.inj (h.2.symm.trans h'.2)
theorem IsK.lit {i:Nat} {kl:Lit} (h:IsK i kl):WideAt.IsKeyLit kl:=idx_law.key h.2
theorem IsK.of {v:Value} {kl:Lit} (h:keyOf Tryz.prog 79 v=some kl):∃i,IsK i kl∧v=idxV i:=by
 obtain ⟨zs,hl,hb,rfl⟩:=idx_inv h
 obtain ⟨i,hi,rfl⟩:=four_of hl hb
 exact ⟨i,⟨hi,h⟩,rfl⟩
abbrev Sts:=Gens
def stV (s:Nat):Value:=.agg #[.int .u64 (s:Int)]
theorem info_sta:(Tryz.prog.info? 83).map (fun i=>(i.zero,i.size))=some (some (stV 0),1):=by kernel_rfl
theorem zero_sta:∀w,(zeroValue 83).run Tryz.prog w=.ok (stV 0) w:=(zero_of_info info_sta).1
structure SM (D:DataW Value) (p:Sts):Prop where
 has:∀i kl,IsK i kl→Maps.has D kl=(p i).isSome
 only:∀kl,Maps.has D kl=true→∃i,IsK i kl
 val:∀i kl s,IsK i kl→p i=some s→∀z,D.atKey kl z=.held (stV s)
 dom:∀i s,p i=some s→i<400
theorem SM.none:SM (.map []) (fun _=>none):=⟨fun _ _ _=>rfl,fun _ h=>by simp [Maps.has] at h,fun _ _ _ _ h=>(by cases h),fun _ _ h=>(by cases h)⟩
theorem SM.put {D:DataW Value} {p:Sts} (h:SM D p) (hD:IsMap D) {i:Nat} {kl:Lit} (hk:IsK i kl) (hi:i<400) (s:Nat):SM (D.put kl (.held (stV s))) (upf p i (some s)):=by
 refine ⟨fun j kj hj=>?_,fun kj hh=>?_,fun j kj t hj ht z=>?_,fun j t ht=>?_⟩
 ·by_cases he:kj=kl
  ·subst he
   rw [has_put_same hD hk.lit,hj.inj hk,upf_same]
   rfl
  ·rw [has_put_other he,h.has j kj hj,upf_other p _ (fun e=>he (by subst e;exact hj.uni hk))]
 ·by_cases he:kj=kl
  ·subst he;exact ⟨i,hk⟩
  ·rw [has_put_other he] at hh
   exact h.only kj hh
 ·by_cases he:kj=kl
  ·subst he
   rw [hj.inj hk,upf_same] at ht
   rw [atKey_put_same hD hk.lit,←Option.some.inj ht]
  ·rw [upf_other p _ (fun e=>he (by subst e;exact hj.uni hk))] at ht
   rw [atKey_put_other he]
   exact h.val j kj t hj ht z
 ·by_cases he:j=i
  ·subst he;exact hi
  ·rw [upf_other p _ he] at ht
   exact h.dom j t ht
theorem SM.del {D:DataW Value} {p:Sts} (h:SM D p) {i:Nat} {kl:Lit} (hk:IsK i kl):SM (D.del kl) (upf p i Option.none):=by
 refine ⟨fun j kj hj=>?_,fun kj hh=>?_,fun j kj t hj ht z=>?_,fun j t ht=>?_⟩
 ·by_cases he:kj=kl
  ·subst he
   rw [has_del_same,hj.inj hk,upf_same]
   rfl
  ·rw [has_del_other he,h.has j kj hj,upf_other p _ (fun e=>he (by subst e;exact hj.uni hk))]
 ·by_cases he:kj=kl
  ·subst he;exact ⟨i,hk⟩
  ·rw [has_del_other he] at hh
   exact h.only kj hh
 ·by_cases he:kj=kl
  ·subst he
   rw [hj.inj hk,upf_same] at ht
   cases ht
  ·rw [upf_other p _ (fun e=>he (by subst e;exact hj.uni hk))] at ht
   rw [atKey_del_other he]
   exact h.val j kj t hj ht z
 ·by_cases he:j=i
  ·subst he;rw [upf_same] at ht;cases ht
  ·rw [upf_other p _ he] at ht
   exact h.dom j t ht
def domL (p:Sts):List Nat:=(List.range 400).filter fun i=>(p i).isSome
def cntS (p:Sts):Nat:=(domL p).length
theorem domL_mem {D:DataW Value} {p:Sts} (h:SM D p) (i:Nat):i∈domL p↔(p i).isSome=true:=by
 simp only [domL,List.mem_filter,List.mem_range]
 constructor
 ·exact fun h=>h.2
 ·intro hs
  obtain ⟨s,hs'⟩:=Option.isSome_iff_exists.1 hs
  exact ⟨h.dom i s hs',hs⟩
theorem SM.size {D:DataW Value} {p:Sts} (h:SM D p) (hT:∃es,D=.map es∧es.Pairwise (fun p q=>p.1≠q.1)∧∀p∈es,WideAt.IsKeyLit p.1):Maps.size D=cntS p:=by
 obtain ⟨es,rfl,hp,hkeys⟩:=hT
 obtain ⟨kl,hkl⟩:∃kl:Nat→Lit,∀i,i<4294967296→IsK i (kl i):=by
  refine ⟨fun i=>(keyOf Tryz.prog 79 (idxV i)).getD (.bool true),fun i hi=>?_⟩
  obtain ⟨k,hk⟩:=IsK.ex i hi
  refine ⟨hi,?_⟩
  simp [hk.2]
 have hlt:∀i∈domL p,i<4294967296:=fun i hi=>by
  have:=List.mem_range.1 (List.mem_filter.1 hi).1
  omega
 have hn2:((domL p).map kl).Nodup:=by
  have h1:(domL p).Nodup:=List.Nodup.sublist List.filter_sublist List.nodup_range
  refine List.pairwise_map.2 (List.Pairwise.imp_of_mem (fun {a b} ha hb hne e=>?_) h1)
  exact hne ((hkl a (hlt a ha)).inj (e▸hkl b (hlt b hb)))
 have hn1:(es.map (·.1)).Nodup:=List.pairwise_map.2 hp
 have hperm:(es.map (·.1)).Perm ((domL p).map kl):=by
  rw [List.perm_ext_iff_of_nodup hn1 hn2]
  intro k
  have hh:k∈es.map (·.1)→Maps.has (.map es:DataW Value) k=true→k∈(domL p).map kl:=by
   intro _ hh
   obtain ⟨i,hi⟩:=h.only k hh
   rw [h.has i k hi] at hh
   refine List.mem_map.2 ⟨i,(domL_mem h i).2 hh,(hkl i hi.1).uni hi⟩
  constructor
  ·intro hk
   obtain ⟨q,hq,rfl⟩:=List.mem_map.1 hk
   exact hh hk (by rw [has_eq,List.any_eq_true];exact ⟨q,hq,WideAt.sameKey_self (hkeys q hq)⟩)
  ·intro hk
   obtain ⟨i,hi,rfl⟩:=List.mem_map.1 hk
   have h1:=(domL_mem h i).1 hi
   rw [←h.has i (kl i) (hkl i (hlt i hi)),has_eq,List.any_eq_true] at h1
   obtain ⟨q,hq,hs⟩:=h1
   exact List.mem_map.2 ⟨q,hq,WideAt.sameKey_eq hs⟩
 have:=hperm.length_eq
 simpa [Maps.size,cntS] using this
def StM (w:World) (m:Nat) (p:Sts):Prop:=∃q D,w.ownsMap Tryz.prog 79 rdV m q D∧SM D p
section
variable {w w':World} {m:Nat} {p:Sts}
theorem StM.isMap (h:StM w m p):∃es c,w.heap[m]?=some (.map es c):=by
 obtain ⟨q,D,⟨es,c,hb,_⟩,_⟩:=h
 exact ⟨es,c,hb⟩
theorem StM.lt (h:StM w m p):m<w.heap.size:=by
 obtain ⟨q,D,ho,_⟩:=h
 exact ho.lt
theorem StM.keep (h:StM w m p) (hk:w'.heap[m]?=w.heap[m]?):StM w' m p:=by
 obtain ⟨q,D,⟨es,c,hb,F,hs,hD⟩,pm⟩:=h
 exact ⟨q,D,⟨es,c,by rw [hk];exact hb,F,hs,hD⟩,pm⟩
theorem StM.below (h:StM w m p) (hb:Below w.heap.size w w'):StM w' m p:=h.keep (hb.block m h.lt)
theorem StM.upd {g:Nat} (h:StM w m p) (hu:Upd g w w') (hg:g≠m):StM w' m p:=h.keep (hu.block m h.lt (fun e=>hg e.symm))
theorem StM.updS {L:List Nat} (h:StM w m p) (hu:UpdS L w w') (hg:m ∉ L):StM w' m p:=h.keep (hu.block m h.lt hg)
theorem StM.new (h:w.heap[m]?=some (.map #[] 0)):StM w m (fun _=>none):=⟨0,.map [],⟨#[],0,h,⟨by simp,MapKept.stamped_empty 0,by simp⟩,Nat.le_refl _,rfl⟩,SM.none⟩
theorem cntS_le (p:Sts):cntS p≤400:=by
 unfold cntS domL
 exact Nat.le_trans (List.length_filter_le _ _) (by simp)
/-- The map with as many entries as it has. -/
theorem StM.tight (h:StM w m p):∃D,w.ownsMap Tryz.prog 79 rdV m 400 D∧SM D p∧Maps.size D=cntS p:=by
 obtain ⟨q,D,ho,pm⟩:=h
 have hsz:=pm.size (ho.entries idx_law)
 refine ⟨D,?_,pm,hsz⟩
 have hc:=cntS_le p
 obtain ⟨es,c,hb,F,hs,hD⟩:=ho
 refine ⟨es,c,hb,F,?_,hD⟩
 rw [hD] at hsz
 simp only [Maps.size,length_sorted,List.length_map] at hsz
 have:es.toList.length=es.size:=by simp
 omega
theorem StM.look (h:StM w m p) (i:Nat) (hi:i<4294967296) :
  (Instr.lookup 73 (.map (some m)) (idxV i) true).run Tryz.prog w=.ok (.tuple #[stV ((p i).getD 0),.bool (p i).isSome]) w:=by
 obtain ⟨q,D,ho,pm⟩:=h
 obtain ⟨kl,hk⟩:=IsK.ex i hi
 obtain ⟨v,ps,hr,hv⟩:=ho.look_ok idx_law un_smap (zero_sta w) (show rdV (stV 0)=some (.held (stV 0),[]) from rfl) hk.2
 rw [hr,pm.has i kl hk]
 have h1:=rdV_inj hv
 cases hp:p i with
 | none =>
  have h2:Maps.has D kl=false:=by rw [pm.has i kl hk,hp];rfl
  rw [atKey_of_not_has h2] at h1
  simp only [DataW.held.injEq] at h1
  subst h1
  rfl
 | some s =>
  rw [pm.val i kl s hk hp] at h1
  simp only [DataW.held.injEq] at h1
  subst h1
  rfl
theorem StM.look1 (h:StM w m p) (i:Nat) (hi:i<4294967296) :
  (Instr.lookup 73 (.map (some m)) (idxV i) false).run Tryz.prog w=.ok (stV ((p i).getD 0)) w:=by
 obtain ⟨q,D,ho,pm⟩:=h
 obtain ⟨kl,hk⟩:=IsK.ex i hi
 obtain ⟨v,ps,hr,hv⟩:=ho.lookup idx_law un_smap (zero_sta w) (show rdV (stV 0)=some (.held (stV 0),[]) from rfl) hk.2
 rw [hr]
 have h1:=rdV_inj hv
 cases hp:p i with
 | none =>
  have h2:Maps.has D kl=false:=by rw [pm.has i kl hk,hp];rfl
  rw [atKey_of_not_has h2] at h1
  simp only [DataW.held.injEq] at h1
  subst h1
  rfl
 | some s =>
  rw [pm.val i kl s hk hp] at h1
  simp only [DataW.held.injEq] at h1
  subst h1
  rfl
theorem StM.putRun (h:StM w m p) (i:Nat) (hi:i<400) (s:Nat) :
  ∃w',(Instr.mapUpdate 73 (.map (some m)) (idxV i) (stV s)).run Tryz.prog w=.ok () w'∧StM w' m (upf p i (some s))∧Upd m w w':=by
 obtain ⟨D,ho,pm,_⟩:=h.tight
 obtain ⟨kl,hk⟩:=IsK.ex i (by omega)
 obtain ⟨w',hr,ho2,hg⟩:=ho.update idx_law un_smap (by unfold maxLen;omega) hk.2 (d:=.held (stV s)) (ps:=[]) (val:=stV s) rfl
 exact ⟨w',hr,⟨_,_,ho2,pm.put ho.isMap hk hi s⟩,⟨hg.os,hg.tape,hg.output,hg.size,fun k hk hne=>hg.block k hk (by simpa using hne)⟩⟩
theorem StM.delRun (h:StM w m p) (i:Nat) (hi:i<4294967296) (ty:TypeId) :
  ∃w',(Builtin.delete_ #[73,79] ty #[.map (some m),idxV i]).run Tryz.prog w=.ok (.tuple #[]) w'∧StM w' m (upf p i none)∧Upd m w w':=by
 obtain ⟨q,D,ho,pm⟩:=h
 obtain ⟨kl,hk⟩:=IsK.ex i hi
 obtain ⟨w',hr,ho2,hg⟩:=ho.drop idx_law un_smap hk.2 ty
 exact ⟨w',hr,⟨_,_,ho2,pm.del hk⟩,⟨hg.grown.os,hg.grown.tape,hg.grown.output,hg.grown.size,fun k hk hne=>hg.grown.block k hk (by simpa using hne)⟩⟩
theorem StM.lenRun (h:StM w m p) (ty:TypeId):(Builtin.len_ #[73] ty #[.map (some m)]).run Tryz.prog w=.ok (.int .i64 (cntS p:Nat)) w:=by
 obtain ⟨D,ho,pm,hs⟩:=h.tight
 rw [ho.len un_smap ty,hs]
end
section
variable {ops:Array Oper} {rest:List Oper} {a:Act} {w w':World} {Q:Exit→Act→World→Prop} {dst:Option Tmp} {typ:TypeId} {pos:String} {aft:Array Edge} {gd:Option (Nat×Bool)} {m:Nat} {p:Sts}
theorem exec_stlook {x k:Operand} (h:StM w m p) (i:Nat) (hi:i<4294967296) (hx:a.eval x=.map (some m)) (hk:a.eval k=idxV i) :
  (execOp a.eval {dst:=dst,op:=.lookup 73 x k true,type:=typ,pos:=pos,after:=aft,guard:=gd}).run Tryz.prog w=.ok (.value (.tuple #[stV ((p i).getD 0),.bool (p i).isSome])) w:=by
 unfold execOp
 simp only [hx,hk,h.look i hi,Sem.run_bind,Sem.run_pure,Result.andThen_ok]
theorem exec_stlook1 {x k:Operand} (h:StM w m p) (i:Nat) (hi:i<4294967296) (hx:a.eval x=.map (some m)) (hk:a.eval k=idxV i) :
  (execOp a.eval {dst:=dst,op:=.lookup 73 x k false,type:=typ,pos:=pos,after:=aft,guard:=gd}).run Tryz.prog w=.ok (.value (stV ((p i).getD 0))) w:=by
 unfold execOp
 simp only [hx,hk,h.look1 i hi,Sem.run_bind,Sem.run_pure,Result.andThen_ok]
theorem exec_nillook {x k:Operand} (i:Nat) (hi:i<4294967296) (hx:a.eval x=.map none) (hk:a.eval k=idxV i) :
  (execOp a.eval {dst:=dst,op:=.lookup 73 x k true,type:=typ,pos:=pos,after:=aft,guard:=gd}).run Tryz.prog w=.ok (.value (.tuple #[stV 0,.bool false])) w:=by
 obtain ⟨kl,hkl⟩:=IsK.ex i hi
 have:=Maps.look_nil (w:=w) true idx_law un_smap (zero_sta w) hkl.2
 unfold execOp
 simp [hx,hk,this,Result.andThen]
theorem wpl_stput {x k y:Operand} (h:StM w m p) (i:Nat) (hi:i<400) (s:Nat) (hx:a.eval x=.map (some m)) (hk:a.eval k=idxV i) (hy:a.eval y=stV s)
  (hh:∀w',StM w' m (upf p i (some s))→Upd m w w'→wpList Tryz.prog ops Q rest a w') :
  wpList Tryz.prog ops Q ({dst:=none,op:=.mapUpdate 73 x k y,type:=typ,pos:=pos,after:=aft,guard:=none}::rest) a w:=by
 obtain ⟨w',hr,hs,hu⟩:=h.putRun i hi s
 refine wpList_plain rfl fun K hK=>?_
 have h9:=hK _ _ (hh w' hs hu)
 unfold Oper.wp execOp
 simp only [hx,hk,hy,hr,Sem.run_bind,Sem.run_pure,Result.andThen_ok]
 exact h9
theorem wpl_stdel {x k:Operand} (h:StM w m p) (i:Nat) (hi:i<4294967296) (hx:a.eval x=.map (some m)) (hk:a.eval k=idxV i)
  (hh:∀w',StM w' m (upf p i none)→Upd m w w'→wpList Tryz.prog ops Q rest (a.put dst (.tuple #[])) w') :
  wpList Tryz.prog ops Q ({dst:=dst,op:=.call {callee:=.builtin .delete,args:=#[x,k],argTypes:=#[73,79]},type:=typ,pos:=pos,after:=aft,guard:=none}::rest) a w:=by
 obtain ⟨w',hr,hs,hu⟩:=h.delRun i hi typ
 refine wpList_plain rfl fun K hK=>?_
 have h9:=hK _ _ (hh w' hs hu)
 unfold Oper.wp execOp
 simp only [resolve,invoke,builtin,Sem.run_bind,Sem.run_pure,Result.andThen_ok,List.map_toArray,List.map_cons,List.map_nil,hx,hk,hr]
 exact h9
theorem exec_stlen {x:Operand} (h:StM w m p) (hx:a.eval x=.map (some m)) :
  (execOp a.eval {dst:=dst,op:=.call {callee:=.builtin .len,args:=#[x],argTypes:=#[73]},type:=typ,pos:=pos,after:=aft,guard:=gd}).run Tryz.prog w=.ok (.value (.int .i64 (cntS p:Nat))) w:=by
 unfold execOp
 simp only [resolve,invoke,builtin,Sem.run_bind,Sem.run_pure,Result.andThen_ok,List.map_toArray,List.map_cons,List.map_nil,hx,h.lenRun typ]
end
open Go Go.RowKit Go.Maps
structure Pg where
 kP:List Int
 kS:List Int
 kN:List Int
 gn:Gn
 root:Int
 mt:ByteArray
 last:Sts
 used:Sts
 off:Bool
def hdP (g:Nat) (kP kS kN:List Int):List Value:=.pointer (some ⟨g,0,none⟩)::(u8s kP++(u8s kS++u8s kN))
def tlP (gn:Gn) (root:Int) (mt:ByteArray) (ml mu:Option Nat) (off:Bool):List Value:=[.int .u64 (gn.first:Int),.int .u64 (gn.next:Int),.int .u64 (gn.limit:Int),.int .u32 root,.string mt,.map ml,.map mu,.bool off]
theorem hdP_length (g:Nat) {kP kS kN:List Int} (h1:kP.length=32) (h2:kS.length=32) (h3:kN.length=32):(hdP g kP kS kN).length=97:=by
 simp [hdP,u8s_length,h1,h2,h3]
theorem tl_get {h t:List Value} (hl:h.length=97) (j:Nat):(h++t)[97+j]?=t[j]?:=by
 rw [List.getElem?_append_right (by omega),hl,Nat.add_sub_cancel_left]
theorem tl_set {h t:List Value} (hl:h.length=97) (j:Nat) (v:Value):(h++t).set (97+j) v=h++t.set j v:=by
 rw [List.set_append_right _ _ (by omega),hl,Nat.add_sub_cancel_left]
theorem hd_page (g:Nat) {kP kS kN:List Int} (t:List Value) (h1:kP.length=32):((hdP g kP kS kN++t).drop 1).take 32=u8s kP:=by
 have:(u8s kP).length=32:=by rw [u8s_length,h1]
 show ((u8s kP++(u8s kS++u8s kN))++t).take 32=_
 rw [List.append_assoc,←this,List.take_left]
theorem hd_keys (g:Nat) {kP kS kN:List Int} (t:List Value) (h1:kP.length=32) (h2:kS.length=32) (h3:kN.length=32):((hdP g kP kS kN++t).drop 1).take 96=u8s (kP++(kS++kN)):=by
 have:(u8s (kP++(kS++kN))).length=96:=by rw [u8s_length];simp [h1,h2,h3]
 have e:u8s kP++(u8s kS++u8s kN)=u8s (kP++(kS++kN)):=by simp [u8s]
 show ((u8s kP++(u8s kS++u8s kN))++t).take 96=_
 rw [e,←this,List.take_left]
structure Pg.Ok (P:Pg):Prop where
 kP:P.kP.length=32∧Bytes P.kP
 kS:P.kS.length=32∧Bytes P.kS
 kN:P.kN.length=32∧Bytes P.kN
def footP (gp g mb:Nat) (kv:Value) (ml mu:Nat):List Nat:=gp::ml::mu::foot g mb kv
structure PgAt (w:World) (gp g mb:Nat) (kv:Value) (ml mu:Nat) (P:Pg) (d:Dk):Prop where
 ok:P.Ok
 row:Row w gp (hdP g P.kP P.kS P.kN++tlP P.gn P.root P.mt (some ml) (some mu) P.off) 77
 dk:DkAt w g mb kv d
 last:StM w ml P.last
 used:StM w mu P.used
 ne:ml≠mu∧ml≠mb∧mu≠mb
section
variable {w w':World} {gp g mb ml mu:Nat} {kv:Value} {P P':Pg} {d d':Dk}
theorem PgAt.lt (h:PgAt w gp g mb kv ml mu P d):∀k∈footP gp g mb kv ml mu,k<w.heap.size:=by
 intro k hk
 simp only [footP,List.mem_cons] at hk
 rcases hk with rfl | rfl | rfl | hk
 ·exact h.row.lt
 ·exact h.last.lt
 ·exact h.used.lt
 ·exact h.dk.lt k hk
theorem PgAt.keep (h:PgAt w gp g mb kv ml mu P d) (hk:∀k∈footP gp g mb kv ml mu,w'.heap[k]?=w.heap[k]?):PgAt w' gp g mb kv ml mu P d:=by
 refine ⟨h.ok,?_,h.dk.keep (fun k hh=>hk k (by simp [footP,hh])),h.last.keep (hk _ (by simp [footP])),h.used.keep (hk _ (by simp [footP])),h.ne⟩
 unfold Row
 rw [hk gp (by simp [footP])]
 exact h.row
theorem PgAt.below (h:PgAt w gp g mb kv ml mu P d) (hb:Below w.heap.size w w'):PgAt w' gp g mb kv ml mu P d:=h.keep (fun k hk=>hb.block k (h.lt k hk))
theorem PgAt.drew (h:PgAt w gp g mb kv ml mu P d):PgAt w.drew gp g mb kv ml mu P d:=⟨h.ok,h.row,h.dk.drew,h.last,h.used,h.ne⟩
theorem PgAt.mem {w0:World} {rows:List (Nat×List Value×TypeId)} (h:PgAt w0 gp g mb kv ml mu P d) (hm:Mem w0 [] w rows):PgAt w gp g mb kv ml mu P d:=h.below hm.below
theorem PgAt.hlen (h:PgAt w gp g mb kv ml mu P d):(hdP g P.kP P.kS P.kN).length=97:=hdP_length g h.ok.kP.1 h.ok.kS.1 h.ok.kN.1
theorem PgAt.cell (h:PgAt w gp g mb kv ml mu P d) (j:Nat):w.cell? ⟨gp,97+j,none⟩=(tlP P.gn P.root P.mt (some ml) (some mu) P.off)[j]?:=by
 rw [h.row.cell,tl_get h.hlen]
theorem PgAt.cell0 (h:PgAt w gp g mb kv ml mu P d):w.cell? ⟨gp,0,none⟩=some (.pointer (some ⟨g,0,none⟩)):=by
 rw [h.row.cell];rfl
/-- Where the pager's own blocks lie apart from the disk's. -/
theorem PgAt.apart (h:PgAt w gp g mb kv ml mu P d):gp ∉ foot g mb kv∧ml ∉ foot g mb kv∧mu ∉ foot g mb kv∧gp≠ml∧gp≠mu:=by
 obtain ⟨es,c,hml⟩:=h.last.isMap
 obtain ⟨es',c',hmu⟩:=h.used.isMap
 obtain ⟨es2,c2,hmb⟩:=h.dk.isMap
 have hk:∀k∈kbOf kv,k≠gp∧k≠ml∧k≠mu:=by
  intro k hk
  obtain ⟨p,cap,rfl,hc,h2⟩:=h.dk.kept.ex
  rcases Nat.eq_zero_or_pos d.n with hn | hn
  ·rw [hn] at hk;cases p<;>simp [kbOf] at hk
  ·obtain ⟨kb,tl,rfl,hr⟩:=h2 hn
   have:k=kb:=by simp [kbOf] at hk;exact hk.2
   subst this
   refine ⟨?_,row_ne_map hr hml,row_ne_map hr hmu⟩
   rintro rfl
   have h3:=h.row
   unfold Row at h3 hr
   rw [h3] at hr
   simp only [Option.some.injEq,Obj.cells.injEq] at hr
   exact absurd hr.2.1 (by decide)
 have hg:gp≠g:=by
  rintro rfl
  have h3:=h.row
  have hr:=h.dk.row
  unfold Row at h3 hr
  rw [h3] at hr
  simp only [Option.some.injEq,Obj.cells.injEq] at hr
  exact absurd hr.2.1 (by decide)
 have hgm:=row_ne_map h.row hmb
 have h1:=row_ne_map h.dk.row hml
 have h2:=row_ne_map h.dk.row hmu
 refine ⟨?_,?_,?_,row_ne_map h.row hml,row_ne_map h.row hmu⟩
 ·intro hh
  simp only [foot,List.mem_cons] at hh
  rcases hh with e | e | e
  ·exact hg e
  ·exact hgm e
  ·exact (hk gp e).1 rfl
 ·intro hh
  simp only [foot,List.mem_cons] at hh
  rcases hh with e | e | e
  ·exact h1 e.symm
  ·exact h.ne.2.1 e
  ·exact (hk ml e).2.1 rfl
 ·intro hh
  simp only [foot,List.mem_cons] at hh
  rcases hh with e | e | e
  ·exact h2 e.symm
  ·exact h.ne.2.2 e
  ·exact (hk mu e).2.2 rfl
/-- Its map of used pages turned. -/
theorem PgAt.setUsed (h:PgAt w gp g mb kv ml mu P d) {p:Sts} (hs:StM w' mu p) (hu:Upd mu w w'):PgAt w' gp g mb kv ml mu {P with used:=p} d:=by
 have ha:=h.apart
 refine ⟨⟨h.ok.kP,h.ok.kS,h.ok.kN⟩,hu.row h.row ha.2.2.2.2,h.dk.keep (fun k hk=>hu.block k (h.dk.lt k hk) (fun e=>ha.2.2.1 (e▸hk))),h.last.upd hu (fun e=>h.ne.1 e.symm),hs,h.ne⟩
/-- Its disk turned. -/
theorem PgAt.setDisk (h:PgAt w gp g mb kv ml mu P d) (hd:DkAt w' g mb kv d') (hu:UpdS (foot g mb kv) w w'):PgAt w' gp g mb kv ml mu P d':=by
 have ha:=h.apart
 exact ⟨h.ok,hu.row h.row ha.1,hd,h.last.updS hu ha.2.1,h.used.updS hu ha.2.2.1,h.ne⟩
/-- A field of its own turned. -/
theorem PgAt.setRow (h:PgAt w gp g mb kv ml mu P d) (hu:Upd gp w w') (ho:P'.Ok) (hr:Row w' gp (hdP g P'.kP P'.kS P'.kN++tlP P'.gn P'.root P'.mt (some ml) (some mu) P'.off) 77) (h1:P'.last=P.last) (h2:P'.used=P.used):PgAt w' gp g mb kv ml mu P' d:=by
 have ha:=h.apart
 refine ⟨ho,hr,h.dk.keep (fun k hk=>hu.block k (h.dk.lt k hk) (fun e=>ha.1 (e▸hk))),?_,?_,h.ne⟩
 ·rw [h1];exact h.last.upd hu ha.2.2.2.1
 ·rw [h2];exact h.used.upd hu ha.2.2.2.2
end
theorem sz_smap:(Tryz.prog.info? 73).map (·.size)=some 1:=by kernel_rfl
theorem ag_smap:∀w,(isAgg 73).run Tryz.prog w=.ok false w:=by intro w;simp [go_sem]
theorem ag_dkp:∀w,(isAgg 25).run Tryz.prog w=.ok false w:=by intro w;simp [go_sem]
end Go.Proofs.YtdkkdkgdaambiaaGreatDoor
