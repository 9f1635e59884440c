import Derived.Test.YtblnljajipbajaaGreatDoorQe30
import Derived.Test.YtblnljajipbajaaGreatDoorQe07
import Derived.Test.YtblnljajipbajaaGreatDoorQe08
import Derived.Test.YtblnljajipbajaaGreatDoorQe25
import Derived.Test.YtblnljajipbajaaGreatDoorQe29
set_option maxRecDepth 100000
set_option maxHeartbeats 4000000
namespace Go.Proofs.YtblnljajipbajaaGreatDoor
open Go Go.RowKit
theorem exec_ldx {P:Program} {a:Act} {w:World} {dst:Option Tmp} {typ:TypeId} {pos:String} {aft:Array Edge} {gd:Option (Nat×Bool)} {ty:TypeId} {x:Operand} {b j:Nat} (v:Value) (hc:w.cell? ⟨b,j,none⟩=some v) (hx:a.eval x=.pointer (some ⟨b,j,none⟩)) (ha:∀w,(isAgg ty).run P w=.ok false w) :
  (execOp a.eval {dst:=dst,op:=.load ty x,type:=typ,pos:=pos,after:=aft,guard:=gd}).run P w=.ok (.value v) w:=by
 have hld:(loadVar ty ⟨b,j,none⟩).run P w=.ok v w:=by simp [loadVar,ha,go_sem,hc]
 unfold execOp
 simp only [hx,Instr.loadAt,Instr.sureAddr,Sem.run_bind,Sem.run_pure,Result.andThen_ok,hld]
theorem info_u8c:(Tryz.prog.info? 5).map (fun i=>(i.zero,i.size))=some (some (.int .u8 0),1):=by kernel_rfl
def xorZ (a b:List Int):List Int:=List.zipWith (fun x y=>bits .xor .u8 x y) a b
theorem xorZ_snoc (a b:List Int) (i:Nat) (ha:i<a.length) (hb:i<b.length):(xorZ a b).take (i+1)=(xorZ a b).take i++[bits .xor .u8 (a.getD i 0) (b.getD i 0)]:=by
 have hl:i<(xorZ a b).length:=by simp [xorZ];omega
 rw [List.take_succ_eq_append_getElem hl,dG _ _ ha,dG _ _ hb]
 simp [xorZ]
section
variable {ops:Array Oper} {rest:List Oper} {a:Act} {w w0:World} {Q:Exit→Act→World→Prop} {dst:Option Tmp} {typ:TypeId} {pos:String} {aft:Array Edge} {S:List Nat} {rows:List (Nat×List Value×TypeId)}
theorem run_bslc {P:Program} (w:World) {t elem:TypeId} (z v:Value) (hu:P.underlying t=some (.slice elem)) (hi:(P.info? elem).map (fun i=>(i.zero,i.size))=some (some z,1)) (hz:z.cells=#[z]) (hv:v.cells=#[v]) :
  (Instr.buildSlice t 1 #[(0,v)]).run P w=.ok (.slice (some ⟨w.heap.size,0,none⟩) 1 1) (w.alloc (.cells [v].toArray elem)):=by
 obtain ⟨hz1,hs1⟩:=zero_of_info hi
 cases hq:P.info? elem with
 | none=>simp [hq] at hi
 | some q =>
  have hs:q.size=1:=by simpa [hq] using hs1
  have e:Array.map (fun x=>([z][x % 1]?).getD default) (Array.range 1)=#[z]:=by
   apply Array.ext
   ·simp
   ·intro i h1 h2
    have h3:i=0:=by simpa using h2
    subst h3
    simp
  simp [Instr.buildSlice,run_underlying hu,sizeOf,typeInfo,hq,hs,hz1,hz,Instr.fill,hv,newRow,newObj]
  rw [e]
  rfl
theorem wpl_bslc {x:Operand} (y:Int) (hm:Mem w0 S w rows) (hx:a.eval x=.int .u8 y)
  (h:∀w' g,Below w.heap.size w w'→Mem w0 S w' ((g,u8s [y],5)::rows)→wpList Tryz.prog ops Q rest (a.put dst (.slice (some ⟨g,0,none⟩) 1 1)) w') :
  wpList Tryz.prog ops Q ({dst:=dst,op:=.buildSlice 33 1 #[(0,x)],type:=typ,pos:=pos,after:=aft,guard:=none}::rest) a w:=by
 refine wpList_plain rfl fun K hK=>?_
 have hh:=hK _ _ (h _ _ ((Below.refl _ _).alloc (Nat.le_refl _) _) (hm.alloc (u8s [y]) 5))
 unfold Oper.wp execOp
 simp only [List.map_toArray,List.map_cons,List.map_nil,hx,run_bslc (P:=Tryz.prog) w (.int .u8 0) (.int .u8 y) av info_u8c rfl rfl,Sem.run_bind,Sem.run_pure,Result.andThen_ok]
 exact hh
end
theorem iW (xs ys:List Int) (va vb:Value) (hxl:xs.length≤100000) (w:World) (hva:SlOld w va xs) (hvb:SlOld w vb ys) :
  Calls Tryz.prog 79 #[va,vb] w fun e w'=>∃v,e=.returned v∧SlOld w' v (xorZ xs ys)∧Below w.heap.size w w':=by
 obtain ⟨pa,ca,rfl,hca⟩:=hva.len
 obtain ⟨pb,cb,rfl,hcb⟩:=hvb.len
 have hm:=Mem.start w
 have HPA:Hid (0<xs.length→∃b off,pa=some ⟨b,off,none⟩∧Seg w b off xs):=hva.src0.2.2
 have HPB:Hid (0<ys.length→∃b off,pb=some ⟨b,off,none⟩∧Seg w b off ys):=hvb.src0.2.2
 have HZL:Hid ((xorZ xs ys).length=min xs.length ys.length):=by show _=_;simp [xorZ]
 clear hva hvb
 go_enter Tryz.func79,Tryz.ntmps79
 go_wp2_with fail
 go_loopw [5,6] (fun vo vi wr=>∃i:Nat,i≤xs.length∧i≤ys.length∧vi=.int .i64 i∧Hid (OwnB 5 wr w.heap.size vo ((xorZ xs ys).take i))∧Mem w [] wr []) (fun _ vi _=>xs.length - (intOf vi).toNat)
 case atStart=>exact ⟨0,by omega,by omega,rfl,OwnB.nil _ _ _,hm⟩
 case round =>
  clear hm
  obtain ⟨i,hix,hiy,rfl,HO,hm⟩:=hrel
  by_cases hlx:i<xs.length
  ·have hxi:(i:Int)<(xs.length:Int):=by omega
   by_cases hly:i<ys.length
   ·have hyi:(i:Int)<(ys.length:Int):=by omega
    obtain ⟨ba,oa,rfl,hsa⟩:=HPA.out (by omega)
    obtain ⟨bb,ob,rfl,hsb⟩:=HPB.out (by omega)
    obtain ⟨X,hX⟩:∃A,A=xs.getD i 0:=⟨_,rfl⟩
    obtain ⟨Y,hY⟩:∃B,B=ys.getD i 0:=⟨_,rfl⟩
    have HXC:Hid (w.cell? ⟨ba,oa+i,none⟩=some (.int .u8 X)):=by rw [hX];exact hsa i hlx
    have HYC:Hid (w.cell? ⟨bb,ob+i,none⟩=some (.int .u8 Y)):=by rw [hY];exact hsb i hly
    have HSN:Hid ((xorZ xs ys).take (i+1)=(xorZ xs ys).take i++[bits .xor .u8 X Y]):=by show _=_;rw [hX,hY];exact xorZ_snoc xs ys i hlx hly
    have HTL:Hid (((xorZ xs ys).take i).length+[bits .xor .u8 X Y].length≤1099511627776):=by show _≤_;rw [List.length_take];simp;omega
    obtain ⟨po,lo,co,hvo⟩:∃p l c,u5=Value.slice p l c:=by
     obtain ⟨p,c,h,_⟩:=HO.out.old
     exact ⟨p,_,c,h⟩
    subst hvo
    clear hsa hsb hX hY
    go_wp2_with fail
    refine ax ?_
    refine eO (T:=fun W=>Mem w [] W []) (by kernel_rfl) hm HO.out ?_
    clear hm HO
    intro w2 hm ho
    have HO:Hid (OwnB 5 w2 w.heap.size (.slice po lo co) ((xorZ xs ys).take i)):=ho
    clear ho
    refine aT 0 (v:=.slice po lo co) rfl (by kernel_rfl) rfl (fun W _=>by go_simp) hm ?_
    go_simp
    refine aT 1 (v:=.slice (some ⟨ba,oa,none⟩) xs.length ca) rfl (by kernel_rfl) rfl (fun W _=>by go_simp) hm ?_
    go_simp
    refine aT 2 (v:=.int .i64 (i:Int)) rfl (by kernel_rfl) rfl (fun W _=>by go_simp) hm ?_
    go_simp
    refine aT 3 (v:=.pointer (some ⟨ba,oa+i,none⟩)) rfl (by kernel_rfl) rfl (fun W _=>by go_simp) hm ?_
    go_simp
    refine aT 4 (v:=.int .u8 X) rfl (by kernel_rfl) rfl (fun W hW=>exec_ldx (.int .u8 X) ((Mem.old hW (p:=⟨ba,oa+i,none⟩) (block_lt_of_cell HXC.out) (by simp)).trans HXC.out) rfl cV) hm ?_
    go_simp
    refine aT 5 (v:=.slice (some ⟨bb,ob,none⟩) ys.length cb) rfl (by kernel_rfl) rfl (fun W _=>by go_simp) hm ?_
    go_simp
    refine aT 6 (v:=.int .i64 (i:Int)) rfl (by kernel_rfl) rfl (fun W _=>by go_simp) hm ?_
    go_simp
    refine aT 7 (v:=.pointer (some ⟨bb,ob+i,none⟩)) rfl (by kernel_rfl) rfl (fun W _=>by go_simp) hm ?_
    go_simp
    refine aT 8 (v:=.int .u8 Y) rfl (by kernel_rfl) rfl (fun W hW=>exec_ldx (.int .u8 Y) ((Mem.old hW (p:=⟨bb,ob+i,none⟩) (block_lt_of_cell HYC.out) (by simp)).trans HYC.out) rfl cV) hm ?_
    go_simp
    refine aT 9 (v:=.int .u8 (bits .xor .u8 X Y)) rfl (by kernel_rfl) rfl (fun W _=>by go_simp) hm ?_
    go_simp
    refine aP 10 (by kernel_rfl) rfl rfl ?_
    intro K hK
    refine wpl_bslc (bits .xor .u8 X Y) hm rfl ?_
    intro w3 g29 hb3 hm3
    have HO3:Hid (OwnB 5 w3 w.heap.size (.slice po lo co) ((xorZ xs ys).take i)):=OwnB.below HO.out hb3
    clear hm hb3 HO
    refine wpList_nil ?_
    refine hK _ _ hm3.tail ?_
    clear hK K
    refine aP 11 (by kernel_rfl) rfl rfl ?_
    intro K hK
    refine b8 rfl av be [bits .xor .u8 X Y] hm3.tail HO3.out (by intro r hr;cases hr) rfl rfl rfl (fun _=>⟨g29,0,rfl,Seg.row (hm3.get 0 rfl)⟩) HTL.out ?_
    intro v4 w4 ho4 hm4
    rw [←HSN.out] at ho4
    have HO4:Hid (OwnB 5 w4 w.heap.size v4 ((xorZ xs ys).take (i+1))):=ho4
    clear hm3 HO3 ho4
    refine wpList_nil ?_
    refine hK _ _ hm4 ?_
    clear hK K
    refine aT 12 (v:=v4) rfl (by kernel_rfl) rfl (fun W _=>by go_simp) hm4 ?_
    go_simp
    refine wpAnyH_done (by kernel_rfl) ?_ _
    simp only [endsIn]
    go_wp2_with fail
    go_roundw
    case rel=>exact ⟨i+1,by omega,by omega,by go_num,HO4.out,hm4⟩
    case measure=>simp [intOf];omega
   ·have hyi:¬(i:Int)<(ys.length:Int):=by omega
    have hfull:(xorZ xs ys).take i=xorZ xs ys:=List.take_of_length_le (by rw [HZL.out];omega)
    have ho:=HO.out.old
    rw [hfull] at ho
    have HO2:Hid (SlOld wr u5 (xorZ xs ys)):=ho
    clear HO ho hfull
    go_wp2_with fail
    go_ret
    exact ⟨_,rfl,HO2.out,hm.below⟩
  ·have hxi:¬(i:Int)<(xs.length:Int):=by omega
   have hfull:(xorZ xs ys).take i=xorZ xs ys:=List.take_of_length_le (by rw [HZL.out];omega)
   have ho:=HO.out.old
   rw [hfull] at ho
   have HO2:Hid (SlOld wr u5 (xorZ xs ys)):=ho
   clear HO ho hfull
   go_wp2_with fail
   go_ret
   exact ⟨_,rfl,HO2.out,hm.below⟩
end Go.Proofs.YtblnljajipbajaaGreatDoor
namespace Go.Proofs.YtblnljajipbajaaGreatDoor
open Go Go.RowKit
section
variable {P:Program} {ops:Array Oper} {rest:List Oper} {a:Act} {w w0:World} {Q:Exit→Act→World→Prop} {dst:Option Tmp} {typ:TypeId} {pos:String} {aft:Array Edge} {S:List Nat} {rows:List (Nat×List Value×TypeId)}
theorem wpl_allocB4 {ty:TypeId} (z:List Value) (hz:∀w,(zeroValue ty).run P w=.ok (.agg z.toArray) w) (hm:Mem w0 S w rows)
  (h:∀w' g,Below w.heap.size w w'→Mem w0 S w' ((g,z,ty)::rows)→wpList P ops Q rest (a.put dst (.pointer (some ⟨g,0,none⟩))) w') :
  wpList P ops Q ({dst:=dst,op:=.alloc ty,type:=typ,pos:=pos,after:=aft,guard:=none}::rest) a w:=by
 refine wpList_plain rfl fun K hK=>?_
 have hh:=hK _ _ (h _ _ ((Below.refl _ _).alloc (Nat.le_refl _) _) (hm.alloc z ty))
 unfold Oper.wp execOp
 simp [Instr.alloc,newVar,newRow,newObj,hz,Value.cells]
 exact hh
theorem wpl_stwV2 {ty:TypeId} {x y:Operand} (i:Nat) {g:Nat} {l:List Value} {t:TypeId} (l':List Value) (hm:Mem w0 S w rows) (hi:rows[i]?=some (g,l,t)) (hx:a.eval x=.pointer (some ⟨g,0,none⟩))
  (hy:a.eval y=.agg l'.toArray) (n:Nat) (hs:(P.info? ty).map (·.size)=some n) (hn:l.length=n) (hn':l'.length=n) (h1:∀v∈l',v.oneCell'=true)
  (h:∀w',Upd g w w'→Mem w0 S w' (rows.set i (g,l',t))→wpList P ops Q rest a w') :
  wpList P ops Q ({dst:=none,op:=.store ty x y,type:=typ,pos:=pos,after:=aft,guard:=none}::rest) a w:=by
 refine wpList_plain rfl fun K hK=>?_
 have hr:=hm.get i hi
 have hh:=hK _ _ (h _ (Upd.setRow g w l'.toArray) (hm.upd i hi (Upd.setRow g w l'.toArray) (hr.setRow l')))
 unfold Oper.wp execOp
 simp only [hx,hy,Instr.storeAt,Instr.sureAddr,Sem.run_bind,Sem.run_pure,Result.andThen_ok,
  run_storeVar_row w g t ty l.toArray l'.toArray hr (by rw [hs];simp [hn']) (by simp [hn,hn']) (by simpa using h1)]
 exact hh
end
theorem xor_piece (ks ns:List Int) (c:Int) (ms:List Int) (j n:Nat) (hn:n≤64) (hj:64 * j+n≤ms.length) (he:n=64∨64 * j+n=ms.length) :
  (xorOf ks ns c ms).take (64 * j)++xorZ ((ms.drop (64 * j)).take n) (blockOf ks ns ((c+(j:Int)) % 4294967296))=(xorOf ks ns c ms).take (64 * (j+1)):=by
 have hb:=cD ks ns ((c+(j:Int)) % 4294967296)
 have hx:=dg ks ns c ms
 have hz:(xorZ ((ms.drop (64 * j)).take n) (blockOf ks ns ((c+(j:Int)) % 4294967296))).length=n:=by
  rw [xorZ,List.length_zipWith,hb,List.length_take,List.length_drop]
  omega
 have ht:((xorOf ks ns c ms).take (64 * j)).length=64 * j:=by rw [List.length_take,hx];omega
 apply ext_getD
 ·rw [List.length_append,ht,hz,List.length_take,hx]
  omega
 ·intro i hi
  rw [List.length_append,ht,hz] at hi
  rw [iY,ht,iG _ _ _ (show i<64 * (j+1) by omega)]
  by_cases h1:i<64 * j
  ·rw [if_pos h1,iG _ _ _ h1]
  ·rw [if_neg h1,xorOf_get _ _ _ _ _ (by omega),dG _ _ (show i - 64 * j<_ by rw [hz];omega)]
   have hk:keyAt ks ns c i=(blockOf ks ns ((c+(j:Int)) % 4294967296)).getD (i - 64 * j) 0:=by
    unfold keyAt
    rw [show i / 64=j by omega,show i % 64=i - 64 * j by omega]
   rw [hk,dG _ _ (show i<ms.length by omega),dG _ _ (show i - 64 * j<_ by rw [hb];omega)]
   simp only [xorZ,List.getElem_zipWith,List.getElem_take,List.getElem_drop]
   have hidx:64 * j+(i - 64 * j)=i:=by omega
   simp only [hidx]
theorem fD (ks ns ms:List Int) (c:Int) (v:Value) (hkl:ks.length=32) (hnl:ns.length=12) (hkb:Bytes ks) (hnb:Bytes ns) (hc:Word c) (hml:ms.length≤60000) (w:World) (hv:SlOld w v ms) :
  Calls Tryz.prog 59 #[.agg (u8s ks).toArray,.agg (u8s ns).toArray,.int .u32 c,v] w fun e w'=>∃v',e=.returned v'∧OwnB 5 w' w.heap.size v' (xorOf ks ns c ms)∧Below w.heap.size w w':=by
 obtain ⟨p,cap,rfl,hcap⟩:=hv.len
 have hm:=Mem.start w
 have HKB:Hid _:=hkb
 have HNB:Hid _:=hnb
 have HKL:Hid _:=hkl
 have HNL:Hid _:=hnl
 have HPM:Hid (0<ms.length→∃b off,p=some ⟨b,off,none⟩∧Seg w b off ms):=hv.src0.2.2
 have HKU:Hid ((u8s ks).length=32):=by show _=_;rw [aa];exact hkl
 have HNU:Hid ((u8s ns).length=12):=by show _=_;rw [aa];exact hnl
 have HXL:Hid ((xorOf ks ns c ms).length=ms.length):=dg _ _ _ _
 obtain ⟨hc0,hc1⟩:=hc
 clear hkb hnb hkl hnl hv
 go_enter Tryz.func59,Tryz.ntmps59
 go_wp2_with (first
  | ((with_reducible refine ab (some 4) (.box 39 (.tmp 0)) ?_);refine au (u8s ks) rfl hm ?_;clear hm;intro w1 g4 hm)
  | ((with_reducible refine ab (some 5) (.box 97 (.tmp 1)) ?_);refine au (u8s ns) rfl hm ?_;clear hm;intro w2 g5 hm))

 go_loopw [2,9,10] (fun vc vo vi wr=>∃j:Nat,vc=.int .u32 ((c+(j:Int)) % 4294967296)∧64 * j<ms.length+64∧vi=.int .i64 ((64 * j:Nat):Int)∧Hid (OwnB 5 wr w.heap.size vo ((xorOf ks ns c ms).take (64 * j)))∧Mem w [] wr [(g5,u8s ns,97),(g4,u8s ks,39)]) (fun _ _ vi _=>ms.length+64 - (intOf vi).toNat)
 case atStart=>exact ⟨0,by rw [show (c+((0:Nat):Int)) % 4294967296=c by omega],by omega,rfl,OwnB.nil _ _ _,hm⟩
 case round =>
  clear hm
  obtain ⟨j,rfl,hj,rfl,HO,hm⟩:=hrel
  by_cases hlt:64 * j<ms.length
  ·have hti:((64 * j:Nat):Int)<(ms.length:Int):=by omega
   obtain ⟨bm,om,rfl,hsm⟩:=HPM.out (by omega)
   have HSM:Hid (Seg w bm om ms):=hsm
   clear hsm
   obtain ⟨po,lo,co,hvo⟩:∃p l c,u9=Value.slice p l c:=by
    obtain ⟨p,c,h,_⟩:=HO.out.old
    exact ⟨p,_,c,h⟩
   subst hvo
   obtain ⟨B,hB⟩:∃B,B=blockOf ks ns ((c+(j:Int)) % 4294967296):=⟨_,rfl⟩
   have HBE:Hid (∀_:Unit,blockOf ks ns ((c+(j:Int)) % 4294967296)=B):=fun _=>hB.symm
   have HBL:Hid (B.length=64):=by show _=_;rw [hB,cD]
   clear hB
   have HCE:Hid (((c+(j:Int)) % 4294967296+1) % 4294967296=(c+((j+1:Nat):Int)) % 4294967296):=by show _=_;omega
   go_wp2_with (first
    | ((with_reducible refine ab (some 18) (.load 39 (.tmp 4)) ?_);refine aw 1 hm rfl rfl _ ar rfl 32 am (HKU.out) ?_)
    | ((with_reducible refine ab (some 19) (.load 97 (.tmp 5)) ?_);refine aw 0 hm rfl rfl _ ce rfl 12 cg (HNU.out) ?_)
    | (go_at_call 78;refine (j9 ks ns _ HKL.out HNL.out HKB.out HNB.out _).mono ?_;rintro e w3 ⟨he,hb⟩;rw [HBE.out ()] at he;subst he;have HOb:Hid (OwnB 5 w3 w.heap.size (.slice po lo co) ((xorOf ks ns c ms).take (64 * j))):=OwnB.below HO.out hb;replace hm:=hm.call hb;clear hb HO)
    | ((with_reducible refine ab (some 11) (.alloc 76) ?_);refine wpl_allocB4 _ cn hm ?_;clear hm;intro w4 g11 hb4 hm;have HOc:Hid (OwnB 5 w4 w.heap.size (.slice po lo co) ((xorOf ks ns c ms).take (64 * j))):=OwnB.below HOb.out hb4;clear hb4 HOb)
    | ((with_reducible refine ab none (.store 76 (.tmp 11) (.tmp 21)) ?_);refine wpl_stwV2 0 (u8s B) hm rfl rfl rfl 64 bi (by simp [aa]) (by rw [aa];exact HBL.out) (aj _) ?_;intro w4b hu hm2;have HO:Hid (OwnB 5 w4b w.heap.size (.slice po lo co) ((xorOf ks ns c ms).take (64 * j))):=OwnB.upd HOc.out (hm.get 0 rfl) (by decide) hu;clear hm hu HOc;have hm:=hm2;clear hm2))

   have HTY:Hid (∀r∈[((g11,u8s B,76):Nat×List Value×TypeId),(g5,u8s ns,97),(g4,u8s ks,39)],r.2.2≠5):=by
    intro r hr
    simp only [List.mem_cons,List.not_mem_nil,or_false] at hr
    rcases hr with rfl|rfl|rfl
    ·show (76:Nat)≠5;decide
    ·show (97:Nat)≠5;decide
    ·show (39:Nat)≠5;decide
   by_cases h64:64 * j+64<ms.length
   ·have h64i:((64 * j:Nat):Int)+64<(ms.length:Int):=by omega
    have HPC:Hid (((ms.drop (64 * j)).take 64).length=64):=by show _=_;rw [List.length_take,List.length_drop];omega
    have HNX:Hid (∀_:Unit,(xorOf ks ns c ms).take (64 * j)++xorZ ((ms.drop (64 * j)).take 64) B=(xorOf ks ns c ms).take (64 * (j+1))):=by
     intro _
     rw [←HBE.out ()]
     exact xor_piece ks ns c ms j 64 (by omega) (by omega) (by omega)
    have HNL:Hid (((xorOf ks ns c ms).take (64 * j)).length+(xorZ ((ms.drop (64 * j)).take 64) B).length≤1099511627776):=by
     show _≤_
     rw [List.length_take,dg]
     simp [xorZ]
     omega
    refine ax ?_
    refine eO (T:=fun W=>Mem w [] W [(g11,u8s B,76),(g5,u8s ns,97),(g4,u8s ks,39)]) (by kernel_rfl) hm HO.out ?_
    clear hm HO
    intro w5 hm ho
    have HO:Hid (OwnB 5 w5 w.heap.size (.slice po lo co) ((xorOf ks ns c ms).take (64 * j))):=ho
    clear ho
    refine aT 0 (v:=.slice po lo co) rfl (by kernel_rfl) rfl (fun W _=>by go_simp) hm ?_
    go_simp
    refine aT 1 (v:=.slice (some ⟨bm,om,none⟩) ms.length cap) rfl (by kernel_rfl) rfl (fun W _=>by go_simp) hm ?_
    go_simp
    refine aT 2 (v:=.int .i64 ((64 * j:Nat):Int)) rfl (by kernel_rfl) rfl (fun W _=>by go_simp) hm ?_
    go_simp
    refine aT 3 (v:=.slice (some ⟨bm,om,none⟩) ms.length cap) rfl (by kernel_rfl) rfl (fun W _=>by go_simp) hm ?_
    go_simp
    refine aT 4 (v:=.int .i64 (ms.length:Int)) rfl (by kernel_rfl) rfl (fun W _=>by go_simp) hm ?_
    go_simp
    refine aT 5 (v:=.int .i64 ((64 * j:Nat):Int)) rfl (by kernel_rfl) rfl (fun W _=>by go_simp) hm ?_
    go_simp
    refine aT 6 (v:=.int .i64 (((64 * j:Nat):Int)+64)) rfl (by kernel_rfl) rfl (fun W _=>by go_simp;exact wrapi _ (by omega) (by omega)) hm ?_
    go_simp
    refine aT 7 (v:=.int .i64 (((64 * j:Nat):Int)+64)) rfl (by kernel_rfl) rfl (fun W _=>by go_simp;omega) hm ?_
    go_simp
    refine aT 8 (v:=.slice (some ⟨bm,om+64 * j,none⟩) 64 (cap - 64 * j)) rfl (by kernel_rfl) rfl (fun W _=>fZ av aC (64 * j) (om+64 * j) 64 rfl (by omega) (by omega) rfl rfl rfl rfl (by omega)) hm ?_
    go_simp
    refine aT 9 (v:=.slice (some ⟨g11,0,none⟩) 64 64) rfl (by kernel_rfl) rfl (fun W _=>by go_simp) hm ?_
    go_simp
    refine aP 10 (by kernel_rfl) rfl rfl ?_
    intro K hK
    have hpc:SlOld w5 (.slice (some ⟨bm,om+64 * j,none⟩) 64 (cap - 64 * j)) ((ms.drop (64 * j)).take 64):=by
     have hseg:=((HSM.out.mem hm (by simp)).drop (64 * j)).take 64
     exact ⟨_,_,by rw [HPC.out],by rw [HPC.out];omega,fun _=>⟨_,_,rfl,hseg⟩⟩
    have HPO:Hid (SlOld w5 (.slice (some ⟨bm,om+64 * j,none⟩) 64 (cap - 64 * j)) ((ms.drop (64 * j)).take 64)):=hpc
    clear hpc
    go_wp2_with (go_at_call 79;refine (iW ((ms.drop (64 * j)).take 64) B _ _ (by rw [HPC.out];omega) _ HPO.out (aE (hm.get 0 rfl) HBL.out (Nat.le_refl _))).mono ?_;rintro e w6 ⟨v34,rfl,hs34,hb⟩;obtain ⟨p34,c34,rfl,_⟩:=hs34.len;have HS34:Hid (SlOld w6 (.slice p34 (xorZ ((ms.drop (64 * j)).take 64) B).length c34) (xorZ ((ms.drop (64 * j)).take 64) B)):=hs34;have HO6:Hid (OwnB 5 w6 w.heap.size (.slice po lo co) ((xorOf ks ns c ms).take (64 * j))):=OwnB.below HO.out hb;replace hm:=hm.call hb;clear hb hs34 HO)
    refine hK _ _ hm ?_
    clear hK K
    refine aP 11 (by kernel_rfl) rfl rfl ?_
    intro K hK
    refine b8 rfl av be (xorZ ((ms.drop (64 * j)).take 64) B) hm HO6.out HTY.out rfl rfl rfl HS34.out.src0.2.2 HNL.out ?_
    intro v7 w7 ho7 hm7
    rw [HNX.out ()] at ho7
    have HO7:Hid (OwnB 5 w7 w.heap.size v7 ((xorOf ks ns c ms).take (64 * (j+1)))):=ho7
    clear hm HO6 ho7
    refine wpList_nil ?_
    refine hK _ _ hm7 ?_
    clear hK K
    refine aT 12 (v:=v7) rfl (by kernel_rfl) rfl (fun W _=>by go_simp) hm7 ?_
    go_simp
    refine wpAnyH_done (by kernel_rfl) ?_ _
    simp only [endsIn]
    go_wp2_with fail
    go_roundw
    case rel=>exact ⟨j+1,by rw [←HCE.out];try simp,by omega,by go_num,HO7.out,hm7.tail⟩
    case measure=>simp [intOf];omega
   ·have h64i:¬((64 * j:Nat):Int)+64<(ms.length:Int):=by omega
    have HPC:Hid (((ms.drop (64 * j)).take (ms.length - 64 * j)).length=(ms.length - 64 * j)):=by show _=_;rw [List.length_take,List.length_drop];omega
    have HNX:Hid (∀_:Unit,(xorOf ks ns c ms).take (64 * j)++xorZ ((ms.drop (64 * j)).take (ms.length - 64 * j)) B=(xorOf ks ns c ms).take (64 * (j+1))):=by
     intro _
     rw [←HBE.out ()]
     exact xor_piece ks ns c ms j (ms.length - 64 * j) (by omega) (by omega) (by omega)
    have HNL:Hid (((xorOf ks ns c ms).take (64 * j)).length+(xorZ ((ms.drop (64 * j)).take (ms.length - 64 * j)) B).length≤1099511627776):=by
     show _≤_
     rw [List.length_take,dg]
     simp [xorZ]
     omega
    refine ax ?_
    refine eO (T:=fun W=>Mem w [] W [(g11,u8s B,76),(g5,u8s ns,97),(g4,u8s ks,39)]) (by kernel_rfl) hm HO.out ?_
    clear hm HO
    intro w5 hm ho
    have HO:Hid (OwnB 5 w5 w.heap.size (.slice po lo co) ((xorOf ks ns c ms).take (64 * j))):=ho
    clear ho
    refine aT 0 (v:=.slice po lo co) rfl (by kernel_rfl) rfl (fun W _=>by go_simp) hm ?_
    go_simp
    refine aT 1 (v:=.slice (some ⟨bm,om,none⟩) ms.length cap) rfl (by kernel_rfl) rfl (fun W _=>by go_simp) hm ?_
    go_simp
    refine aT 2 (v:=.int .i64 ((64 * j:Nat):Int)) rfl (by kernel_rfl) rfl (fun W _=>by go_simp) hm ?_
    go_simp
    refine aT 3 (v:=.slice (some ⟨bm,om,none⟩) ms.length cap) rfl (by kernel_rfl) rfl (fun W _=>by go_simp) hm ?_
    go_simp
    refine aT 4 (v:=.int .i64 (ms.length:Int)) rfl (by kernel_rfl) rfl (fun W _=>by go_simp) hm ?_
    go_simp
    refine aT 5 (v:=.int .i64 ((64 * j:Nat):Int)) rfl (by kernel_rfl) rfl (fun W _=>by go_simp) hm ?_
    go_simp
    refine aT 6 (v:=.int .i64 (((64 * j:Nat):Int)+64)) rfl (by kernel_rfl) rfl (fun W _=>by go_simp;exact wrapi _ (by omega) (by omega)) hm ?_
    go_simp
    refine aT 7 (v:=.int .i64 (ms.length:Int)) rfl (by kernel_rfl) rfl (fun W _=>by go_simp;omega) hm ?_
    go_simp
    refine aT 8 (v:=.slice (some ⟨bm,om+64 * j,none⟩) (ms.length - 64 * j) (cap - 64 * j)) rfl (by kernel_rfl) rfl (fun W _=>fZ av aC (64 * j) (om+64 * j) (ms.length - 64 * j) rfl (by omega) (by omega) rfl rfl rfl rfl (by omega)) hm ?_
    go_simp
    refine aT 9 (v:=.slice (some ⟨g11,0,none⟩) 64 64) rfl (by kernel_rfl) rfl (fun W _=>by go_simp) hm ?_
    go_simp
    refine aP 10 (by kernel_rfl) rfl rfl ?_
    intro K hK
    have hpc:SlOld w5 (.slice (some ⟨bm,om+64 * j,none⟩) (ms.length - 64 * j) (cap - 64 * j)) ((ms.drop (64 * j)).take (ms.length - 64 * j)):=by
     have hseg:=((HSM.out.mem hm (by simp)).drop (64 * j)).take (ms.length - 64 * j)
     exact ⟨_,_,by rw [HPC.out],by rw [HPC.out];omega,fun _=>⟨_,_,rfl,hseg⟩⟩
    have HPO:Hid (SlOld w5 (.slice (some ⟨bm,om+64 * j,none⟩) (ms.length - 64 * j) (cap - 64 * j)) ((ms.drop (64 * j)).take (ms.length - 64 * j))):=hpc
    clear hpc
    go_wp2_with (go_at_call 79;refine (iW ((ms.drop (64 * j)).take (ms.length - 64 * j)) B _ _ (by rw [HPC.out];omega) _ HPO.out (aE (hm.get 0 rfl) HBL.out (Nat.le_refl _))).mono ?_;rintro e w6 ⟨v34,rfl,hs34,hb⟩;obtain ⟨p34,c34,rfl,_⟩:=hs34.len;have HS34:Hid (SlOld w6 (.slice p34 (xorZ ((ms.drop (64 * j)).take (ms.length - 64 * j)) B).length c34) (xorZ ((ms.drop (64 * j)).take (ms.length - 64 * j)) B)):=hs34;have HO6:Hid (OwnB 5 w6 w.heap.size (.slice po lo co) ((xorOf ks ns c ms).take (64 * j))):=OwnB.below HO.out hb;replace hm:=hm.call hb;clear hb hs34 HO)
    refine hK _ _ hm ?_
    clear hK K
    refine aP 11 (by kernel_rfl) rfl rfl ?_
    intro K hK
    refine b8 rfl av be (xorZ ((ms.drop (64 * j)).take (ms.length - 64 * j)) B) hm HO6.out HTY.out rfl rfl rfl HS34.out.src0.2.2 HNL.out ?_
    intro v7 w7 ho7 hm7
    rw [HNX.out ()] at ho7
    have HO7:Hid (OwnB 5 w7 w.heap.size v7 ((xorOf ks ns c ms).take (64 * (j+1)))):=ho7
    clear hm HO6 ho7
    refine wpList_nil ?_
    refine hK _ _ hm7 ?_
    clear hK K
    refine aT 12 (v:=v7) rfl (by kernel_rfl) rfl (fun W _=>by go_simp) hm7 ?_
    go_simp
    refine wpAnyH_done (by kernel_rfl) ?_ _
    simp only [endsIn]
    go_wp2_with fail
    go_roundw
    case rel=>exact ⟨j+1,by rw [←HCE.out];try simp,by omega,by go_num,HO7.out,hm7.tail⟩
    case measure=>simp [intOf];omega
  ·have hti:¬((64 * j:Nat):Int)<(ms.length:Int):=by omega
   have hfull:(xorOf ks ns c ms).take (64 * j)=xorOf ks ns c ms:=List.take_of_length_le (by rw [HXL.out];omega)
   have ho:=HO.out
   rw [hfull] at ho
   have HO2:Hid (OwnB 5 wr w.heap.size u9 (xorOf ks ns c ms)):=ho
   clear HO ho hfull
   go_wp2_with fail
   go_ret
   exact ⟨_,rfl,HO2.out,hm.below⟩
open Go Go.RowKit
theorem old_head {w:World} {g cap n:Nat} {X:List Int} {r:List Value} {t:TypeId} (hr:Row w g (u8s X++r) t) (hX:X.length=n) (hc:n≤cap):SlOld w (.slice (some ⟨g,0,none⟩) n cap) X:=by
 subst hX
 exact ⟨_,cap,rfl,hc,fun _=>⟨g,0,rfl,seg_head hr⟩⟩
theorem old_segT {w:World} {b o cap:Nat} {X:List Int} (h:Seg w b o X) (n:Nat) (hX:n≤X.length) (hc:n≤cap):SlOld w (.slice (some ⟨b,o,none⟩) n cap) (X.take n):=by
 have hl:(X.take n).length=n:=by rw [List.length_take];omega
 exact ⟨_,cap,by rw [hl],by rw [hl];exact hc,fun _=>⟨b,o,rfl,h.take n⟩⟩
theorem old_segD {w:World} {b o c:Nat} {X:List Int} (h:Seg w b o X) (n k:Nat) (hX:X.length=n+k) (hc:k≤c):SlOld w (.slice (some ⟨b,o+n,none⟩) k c) (X.drop n):=by
 have hl:(X.drop n).length=k:=by rw [List.length_drop];omega
 exact ⟨_,c,by rw [hl],by rw [hl];exact hc,fun _=>⟨b,o+n,rfl,h.drop n⟩⟩
theorem Mem.adoptO {w0 w:World} {S:List Nat} {rows:List (Nat×List Value×TypeId)} {e:TypeId} {v:Value} {zs:List Int} (hm:Mem w0 S w rows) (ho:OwnB e w w0.heap.size v zs) (hty:∀r∈rows,r.2.2≠e) (h0:0<zs.length) :
  ∃g cap l,v=.slice (some ⟨g,0,none⟩) zs.length cap∧zs.length≤cap∧Mem w0 S w ((g,u8s zs++l,e)::rows):=by
 obtain ⟨g,cap,l,hv,hge,hr,hc⟩:=ho.row h0
 refine ⟨g,cap,l,hv,hc,hm.os,hm.tape,hm.output,hm.size,hm.block,?_,?_,?_⟩
 ·intro r hr'
  rcases List.mem_cons.1 hr' with rfl|hr'
  ·exact hr
  ·exact hm.row r hr'
 ·simp only [List.map_cons,List.nodup_cons]
  refine ⟨fun hc=>?_,hm.nodup⟩
  obtain ⟨r,hr',he⟩:=List.mem_map.1 hc
  refine ho.apart (hm.row r hr') (hty r hr') ?_
  rw [hv,he]
  rfl
 ·intro r hr'
  rcases List.mem_cons.1 hr' with rfl|hr'
  ·exact Or.inr hge
  ·exact hm.fresh r hr'
theorem Below.of_grown {w w':World} (h:w.grownBy w' none):Below w.heap.size w w':=⟨h.os,h.tape,h.output,h.size,fun k hk=>h.block k hk (by simp)⟩
def putQ (x:Int):Nat→List Int
 | 0=>[]
 | k+1=>putQ x k++[x / 2 ^ (8 * (3 - k)) % 256]
theorem putQ_4 (x:Int):putQ x 4=be4 x:=by
 simp only [putQ,be4,List.nil_append,List.cons_append,List.cons.injEq,and_true]
 refine ⟨?_,?_,?_,?_⟩<;>omega
theorem putQ_length (x:Int) (k:Nat):(putQ x k).length=k:=by
 induction k with
 | zero=>rfl
 | succ k ih=>simp [putQ,ih]
theorem putRefO4 (v:Value) (zs:List Int) (x:Int) (base:Nat) (w:World) (hown:OwnB 5 w base v zs) (hbase:base≤w.heap.size) (hlen:zs.length+4≤1099511627776) :
  Calls Tryz.prog 62 #[v,.int .u64 x,.int .i64 4] w fun e w'=>∃v',e=.returned v'∧OwnB 5 w' base v' (zs++be4 x)∧w.grownBy w' v.ownBlock:=by
 have HO:Hid _:=hown
 clear hown
 go_enter Tryz.func62,Tryz.ntmps62
 go_wp2_with fail
 go_loopw [0,8] (fun vs vi wr=>∃i:Nat,i≤4∧vi=.int .i64 ((i:Int) - 1)∧OwnB 5 wr base vs (zs++putQ x (4 - i))∧w.grownBy wr v.ownBlock∧Later w v vs) (fun _ vi _=>((intOf vi)+1).toNat)
 case atStart=>exact ⟨4,by omega,rfl,by rw [show 4 - 4=0 from rfl,putQ,List.append_nil];exact HO.out,World.grownBy.refl _ _,Later.refl _ _⟩
 case round =>
  obtain ⟨i,hi,rfl,hown,hg,hl⟩:=hrel
  match i with
  | j+1 =>
   rw [show (((j+1:Nat):Int) - 1)=(j:Int) by omega]
   have hbz:base≤(wr.alloc (.cells (u8s [x / 2 ^ (8 * j) % 256]).toArray 5)).heap.size:=by have:=hg.size;simp;omega
   have hz:∀vs' w',OwnB 5 w' base vs' (zs++putQ x (4 - (j+1))++[x / 2 ^ (8 * j) % 256])→OwnB 5 w' base vs' (zs++putQ x (4 - j)):=by
    intro vs' w' h
    rw [show 4 - j=(4 - (j+1))+1 by omega,putQ,show 3 - (4 - (j+1))=j by omega,←List.append_assoc]
    exact h
   have hll:(zs++putQ x (4 - (j+1))).length+[x / 2 ^ (8 * j) % 256].length≤1099511627776:=by simp [putQ_length];omega
   have HBZ:Hid _:=hbz
   have HZ:Hid _:=hz
   have HLL:Hid _:=hll
   have HG:Hid (w.grownBy wr v.ownBlock):=hg
   have HLt:Hid _:=hl
   have HOW:Hid _:=hown
   clear hg hl hown hbz hz hll
   go_wp2_with (first
    | ((with_reducible refine ab (some 26) (.call {callee:=.builtin .append,args:=#[.tmp 18,.tmp 25],argTypes:=#[33,33]}) ?_);refine jO rfl av be [x / 2 ^ (8 * j) % 256] (OwnB.alloc HOW.out _) HBZ.out rfl rfl rfl (Seg.newO wr [x / 2 ^ (8 * j) % 256] 5 (0,0)) HLL.out ?_;intro v2 w2 ho hg2 hv2;have HOW2:Hid _:=HZ.out _ _ ho;have HG2:Hid (w.grownBy w2 v.ownBlock):=dL HG.out HLt.out ((World.grownBy_alloc _ _ _).trans hg2);have HL2:Hid _:=Later.step HLt.out (Nat.le_trans HG.out.size (by simp)) hv2;clear ho hg2 hv2))
   go_roundw
   case rel=>exact ⟨j,by omega,by go_num,HOW2.out,HG2.out,HL2.out⟩
   case measure=>simp [intOf]
  | 0 =>
   have HG:Hid (w.grownBy wr v.ownBlock):=hg
   rw [show 4 - 0=4 from rfl,putQ_4] at hown
   have HOW:Hid _:=hown
   clear hg hl hown
   rw [show (((0:Nat):Int) - 1) = -1 from rfl]
   go_wp2_with fail
   go_ret
   exact ⟨_,rfl,HOW.out,HG.out⟩
def cpTo (n:Nat) (l:List Int) (i:Nat):List Int:=l.take i++List.replicate (n - i) 0
theorem dy (n:Nat) (l:List Int):cpTo n l 0=List.replicate n 0:=by simp [cpTo]
theorem cG (n:Nat) (l:List Int) (h:l.length=n) (i:Nat) (hi:i≤n):(cpTo n l i).length=n:=by simp [cpTo,h];omega
theorem dA (n:Nat) (l:List Int) (h:l.length=n):cpTo n l n=l:=by
 unfold cpTo
 rw [List.take_of_length_le (by omega)]
 simp
theorem eb (n:Nat) (l:List Int) (h:l.length=n) (i:Nat) (hi:i<n):(cpTo n l i).set i (l.getD i 0)=cpTo n l (i+1):=by
 have ht:(l.take i).length=i:=by rw [List.length_take];omega
 have hg:l.getD i 0=l[i]'(by omega):=by simp [show i<l.length by omega]
 unfold cpTo
 rw [List.set_append_right _ _ (by omega),ht,Nat.sub_self,show n - i=(n - (i+1))+1 by omega,List.replicate_succ,List.set_cons_zero,List.take_succ_eq_append_getElem (by omega),hg,List.append_assoc]
 rfl
theorem bZ (p n:Int) (hp:0≤p∧p<4294967296) (w:World) :
  Calls Tryz.prog 43 #[.int .u32 p,.int .u64 n] w fun e w'=>e=.returned (.agg (u8s (nonceOf p n)).toArray)∧Below w.heap.size w w':=by
 obtain ⟨hp0,hp1⟩:=hp
 have hm:=Mem.start w
 have HWR:Hid (IntKind.u64.wrap p=p):=ev p hp0 hp1
 obtain ⟨L,hL⟩:∃L,L=nonceOf p n:=⟨_,rfl⟩
 have HLL:Hid (∀_:Unit,nonceOf p n=L):=fun _=>hL.symm
 have HL:Hid (L.length=12):=by show _=_;rw [hL,bO]
 have HLU:Hid ((u8s L).length=12):=by show _=_;rw [aa];exact HL.out
 have HLE:Hid (∀_:Unit,[]++be4 p++be8 n=L):=fun _=>by rw [hL];rfl
 have hty:∀(g:Nat),∀r∈[(g,u8s (List.replicate 12 0),(97:TypeId))],r.2.2≠5:=by
  intro g r hr
  simp only [List.mem_cons,List.not_mem_nil,or_false] at hr
  subst hr
  simp
 have HTY:Hid _:=hty
 clear hL hty
 go_enter Tryz.func43,Tryz.ntmps43
 go_wp2_with (first
  | ((with_reducible refine ab (some 4) (.alloc 97) ?_);refine af _ jQ hm ?_;clear hm;intro w1 g4 hm))
 refine (putRefO4 _ [] p w.heap.size _ (OwnB.nil _ _ _) hm.size (by simp)).mono ?_
 rintro e w2 ⟨v10,he,ho,hg⟩
 subst he
 replace hm:=hm.call (Below.of_grown hg)
 have HO1:Hid (OwnB 5 w2 w.heap.size v10 ([]++be4 p)):=ho
 clear ho hg
 go_wp2_with fail
 refine (gH _ ([]++be4 p) n w.heap.size _ HO1.out hm.size (by simp [cX])).mono ?_
 rintro e w3 ⟨v12,he,ho,hg⟩
 subst he
 replace hm:=hm.grown HO1.out (HTY.out _) hg
 rw [HLE.out ()] at ho
 obtain ⟨gb,cb,l,hv,hc,hm2⟩:=Mem.adoptO hm ho (HTY.out _) (by rw [HL.out];omega)
 rw [HL.out] at hv hc
 subst hv
 clear hm ho hg HO1
 have hm:=hm2
 clear hm2
 go_wp2_with (first
  | ((with_reducible refine ab (some 6) (.alloc 97) ?_);refine af _ jQ hm ?_;clear hm;intro w4 g6 hm))
 go_loopw [7] (fun vi wr=>∃i:Nat,i≤12∧vi=.int .i64 i∧Mem w [] wr ((g6,u8s (cpTo 12 L i),97)::[(gb,u8s L++l,5),(g4,u8s (List.replicate 12 0),97)])) (fun vi _=>12 - (intOf vi).toNat)
 case atStart=>exact ⟨0,by omega,rfl,by rw [dy];exact hm⟩
 case round =>
  clear hm
  obtain ⟨i,hi,rfl,hm⟩:=hrel
  by_cases hlt:i<12
  ·have hii:(i:Int)<12:=by omega
   obtain ⟨x,hx⟩:∃x,x=L.getD i 0:=⟨_,rfl⟩
   have HVX:Hid ((u8s L++l)[i]?=some (.int .u8 x)):=by show _=_;rw [List.getElem?_append_left (by rw [HLU.out];omega),bB _ _ (by rw [HL.out];omega),hx]
   have HST:Hid ((u8s (cpTo 12 L i)).set i (.int .u8 x)=u8s (cpTo 12 L (i+1))):=by show _=_;rw [bf,hx,eb 12 L HL.out i hlt]
   have HLN:Hid (i<(u8s (cpTo 12 L i)).length):=by show _<_;rw [aa,cG 12 L HL.out i hi];exact hlt
   clear hx
   go_wp2_with (first
    | ((with_reducible refine ab (some 21) (.load 5 (.tmp 20)) ?_);refine aK 1 i (.int .u8 x) hm rfl rfl cV (HVX.out) ?_)
    | ((with_reducible refine ab none (.store 5 (.tmp 22) (.tmp 21)) ?_);go_must (refine aD 0 i (.int .u8 x) hm rfl rfl (rfl) aC (HLN.out) rfl rfl ?_);clear hm;intro wq hm))
   rw [List.set_cons_zero,HST.out] at hm
   go_roundw
   case rel=>exact ⟨i+1,by omega,by go_num,hm⟩
   case measure=>simp [intOf];omega
  ·have hin:i=12:=by omega
   subst hin
   rw [dA 12 L HL.out] at hm
   go_wp2_with (first
    | ((with_reducible refine ab (some 23) (.load 97 (.tmp 6)) ?_);refine aw 0 hm rfl rfl _ ce rfl 12 cg (HLU.out) ?_)
    | ((with_reducible refine ab none (.store 97 (.tmp 4) (.tmp 23)) ?_);refine ah 2 (u8s L) hm rfl rfl rfl 12 cg (by simp [aa]) (HLU.out) (aj _) ?_;clear hm;intro wr2 hm))
   exact aA 2 hm rfl Tryz.results43 rfl _ ce rfl 12 cg HLU.out rfl ⟨by rw [HLL.out ()],hm.below⟩
theorem eK (ks ns ds cs:List Int) (va vc:Value) (hkl:ks.length=32) (hnl:ns.length=12) (hkb:Bytes ks) (hnb:Bytes ns) (hdb:Bytes ds) (hcb:Bytes cs) (hal:ds.length≤20000) (hcl:cs.length≤20000) (w:World) (hva:SlOld w va ds) (hvc:SlOld w vc cs) :
  Calls Tryz.prog 61 #[.agg (u8s ks).toArray,.agg (u8s ns).toArray,va,vc] w fun e w'=>e=.returned (.agg (u8s (tagOf ks ns ds cs)).toArray)∧Below w.heap.size w w':=by
 obtain ⟨pa,ca,rfl,_⟩:=hva.len
 obtain ⟨pc,cc,rfl,_⟩:=hvc.len
 have hm:=Mem.start w
 have HKL:Hid _:=hkl
 have HNL:Hid _:=hnl
 have HKB:Hid _:=hkb
 have HKU:Hid ((u8s ks).length=32):=by show _=_;rw [aa];exact hkl
 have HNU:Hid ((u8s ns).length=12):=by show _=_;rw [aa];exact hnl
 have HA:Hid (SlOld w (.slice pa ds.length ca) ds):=hva
 have HC:Hid (SlOld w (.slice pc cs.length cc) cs):=hvc
 have HWR:Hid (IntKind.u64.wrap (ds.length:Int)=(ds.length:Int)):=ev _ (by omega) (by omega)
 obtain ⟨E,hE⟩:∃E,E=macKey ks:=⟨_,rfl⟩
 have HEE:Hid (∀_:Unit,deriveOf ks (strB {data:=#[109,97,99]}) 0=E):=fun _=>hE.symm
 have HEL:Hid (E.length=32):=by show _=_;rw [hE,macKey,bo]
 have HEU:Hid ((u8s E).length=32):=by show _=_;rw [aa];exact HEL.out
 have HEB:Hid (Bytes E):=by rw [hE];exact da _ _ _
 obtain ⟨M,hM⟩:∃M,M=msgOf ns ds cs:=⟨_,rfl⟩
 have HMM:Hid (∀_:Unit,[]++be8 (ds.length:Int)++ds++ns++cs=M):=fun _=>by rw [hM];rfl
 have HMB:Hid (Bytes M):=by rw [hM];exact i4 hnb hdb hcb
 obtain ⟨ml,hml⟩:∃ml,M.length=ml:=⟨_,rfl⟩
 have hml2:8+ds.length+12+cs.length≤ml:=by rw [←hml,hM,fu,hnl];exact Nat.le_refl _
 have hml3:ml≤40020:=by rw [←hml,hM,fu,hnl];omega
 have HML:Hid (M.length=ml):=hml
 obtain ⟨X,hX⟩:∃X,X=macOf E M:=⟨_,rfl⟩
 have HXX:Hid (∀_:Unit,macOf E M=X):=fun _=>hX.symm
 have HXL:Hid (X.length=32):=by show _=_;rw [hX,bq]
 have HXU:Hid ((u8s X).length=32):=by show _=_;rw [aa];exact HXL.out
 obtain ⟨G,hG⟩:∃G,G=tagOf ks ns ds cs:=⟨_,rfl⟩
 have HGG:Hid (∀_:Unit,tagOf ks ns ds cs=G):=fun _=>hG.symm
 have HGL:Hid (G.length=16):=by show _=_;rw [hG,b6]
 have HGU:Hid ((u8s G).length=16):=by show _=_;rw [aa];exact HGL.out
 have HXG:Hid (∀i,i<16→G.getD i 0=X.getD i 0):=fun i hi=>by
  rw [hG,hX,hE,hM]
  exact iG _ 16 i hi
 have hty:∀(a b c:Nat),∀r∈[(a,u8s (List.replicate 16 0),(118:TypeId)),(b,u8s ns,(97:TypeId)),(c,u8s ks,(39:TypeId))],r.2.2≠5:=by
  intro a b c r hr
  simp only [List.mem_cons,List.not_mem_nil,or_false] at hr
  rcases hr with rfl|rfl|rfl<;>simp
 have HTY:Hid _:=hty
 clear hkl hnl hkb hnb hdb hcb hva hvc hE hM hml hX hG hty
 go_enter Tryz.func61,Tryz.ntmps61
 go_wp2_with (first
  | ((with_reducible refine ab (some 4) (.box 39 (.tmp 0)) ?_);refine au (u8s ks) rfl hm ?_;clear hm;intro w1 g4 hm)
  | ((with_reducible refine ab (some 5) (.box 97 (.tmp 1)) ?_);refine au (u8s ns) rfl hm ?_;clear hm;intro w2 g5 hm)
  | ((with_reducible refine ab (some 8) (.alloc 118) ?_);refine af _ cP hm ?_;clear hm;intro w3 g8 hm)
  | (go_at_call 62;refine (gH _ [] (ds.length:Int) w.heap.size _ (OwnB.nil _ _ _) hm.size (by simp)).mono ?_;rintro e w4 ⟨v17,he,ho,hg⟩;subst he;replace hm:=hm.call (Below.of_grown hg);have HO1:Hid (OwnB 5 w4 w.heap.size v17 ([]++be8 (ds.length:Int))):=ho;clear ho hg))
 refine ax ?_
 refine eO (T:=fun W=>Mem w [] W [(g8,u8s (List.replicate 16 0),118),(g5,u8s ns,97),(g4,u8s ks,39)]) (by kernel_rfl) hm HO1.out ?_
 clear hm HO1
 intro w5 hm ho
 have HO1:Hid (OwnB 5 w5 w.heap.size v17 ([]++be8 (ds.length:Int))):=ho
 clear ho
 refine aG 0 (v:=v17) rfl (by kernel_rfl) rfl (fun W _=>by go_simp) hm ?_
 go_simp
 refine aG 1 (v:=.slice pa ds.length ca) rfl (by kernel_rfl) rfl (fun W _=>by go_simp) hm ?_
 go_simp
 refine aG 3 (v:=.slice (some ⟨g5,0,none⟩) 12 12) rfl (by kernel_rfl) rfl (fun W _=>by go_simp) hm ?_
 go_simp
 refine aG 5 (v:=.slice pc cs.length cc) rfl (by kernel_rfl) rfl (fun W _=>by go_simp) hm ?_
 go_simp
 refine aP 2 (by kernel_rfl) rfl rfl ?_
 intro K hK
 refine b8 rfl av be ds hm HO1.out (HTY.out _ _ _) rfl rfl rfl ((SlOld.mem HA.out hm).src0.2.2) (by simp [aU];omega) ?_
 clear hm
 intro v20 w6 ho hm
 have HO2:Hid (OwnB 5 w6 w.heap.size v20 ([]++be8 (ds.length:Int)++ds)):=ho
 clear ho HO1
 refine wpList_nil ?_
 refine hK _ _ hm ?_
 clear hK K
 refine aP 4 (by kernel_rfl) rfl rfl ?_
 intro K hK
 refine b8 rfl av be ns hm HO2.out (HTY.out _ _ _) rfl rfl HNL.out.symm (fun _=>⟨g5,0,rfl,Seg.row (hm.get 1 rfl)⟩) (by simp [aU,HNL.out];omega) ?_
 clear hm
 intro v22 w7 ho hm
 have HO3:Hid (OwnB 5 w7 w.heap.size v22 ([]++be8 (ds.length:Int)++ds++ns)):=ho
 clear ho HO2
 refine wpList_nil ?_
 refine hK _ _ hm ?_
 clear hK K
 refine aP 6 (by kernel_rfl) rfl rfl ?_
 intro K hK
 refine b8 rfl av be cs hm HO3.out (HTY.out _ _ _) rfl rfl rfl ((SlOld.mem HC.out hm).src0.2.2) (by simp [aU,HNL.out];omega) ?_
 clear hm
 intro v24 w8 ho hm
 have HO4:Hid (OwnB 5 w8 w.heap.size v24 ([]++be8 (ds.length:Int)++ds++ns++cs)):=ho
 clear ho HO3
 refine wpList_nil ?_
 refine hK _ _ hm ?_
 clear hK K
 have ho:=HO4.out
 rw [HMM.out ()] at ho
 obtain ⟨gm,cm,l,hv,hc,hm2⟩:=Mem.adoptO hm ho (HTY.out _ _ _) (by rw [HML.out];omega)
 rw [HML.out] at hv hc
 subst hv
 clear ho HO4
 refine aG 7 (v:=.slice (some ⟨gm,0,none⟩) ml cm) rfl (by kernel_rfl) rfl (fun W _=>by go_simp) hm ?_
 go_simp
 refine wpAnyH_done (by kernel_rfl) ?_ _
 simp only [endsIn]
 clear hm
 have hm:=hm2
 clear hm2
 go_wp2_with (first
  | ((with_reducible refine ab (some 25) (.load 39 (.tmp 4)) ?_);refine aw 3 hm rfl rfl _ ar rfl 32 am (HKU.out) ?_)
  | (go_at_call 60;refine (dV ks _ 0 HKL.out HKB.out (by decide) (by omega) _).mono ?_;rintro e w9 ⟨he,hb⟩;rw [HEE.out ()] at he;subst he;replace hm:=hm.call hb;clear hb)
  | ((with_reducible refine ab (some 10) (.alloc 39) ?_);refine af _ aM hm ?_;clear hm;intro w10 g10 hm)
  | ((with_reducible refine ab none (.store 39 (.tmp 10) (.tmp 26)) ?_);refine ah 0 (u8s E) hm rfl rfl rfl 32 am (by simp [aa]) (HEU.out) (aj _) ?_;clear hm;intro w11 hm)
  | (go_at_call 81;refine (j8 E M _ _ HEB.out HMB.out (by rw [HEL.out];omega) (by rw [HML.out];omega) _ (aE (hm.get 0 rfl) HEL.out (Nat.le_refl _)) (old_head (hm.get 1 rfl) HML.out hc)).mono ?_;rintro e w12 ⟨he,hb⟩;rw [HXX.out ()] at he;subst he;replace hm:=hm.call hb;clear hb)
  | ((with_reducible refine ab (some 11) (.alloc 38) ?_);refine af _ br hm ?_;clear hm;intro w13 g11 hm)
  | ((with_reducible refine ab none (.store 38 (.tmp 11) (.tmp 29)) ?_);refine ah 0 (u8s X) hm rfl rfl rfl 32 bx (by simp [aa]) (HXU.out) (aj _) ?_;clear hm;intro w14 hm)
  | ((with_reducible refine ab (some 12) (.alloc 118) ?_);refine af _ cP hm ?_;clear hm;intro w15 g12 hm))
 go_loopw [13] (fun vi wr=>∃i:Nat,i≤16∧vi=.int .i64 i∧Mem w [] wr ((g12,u8s (cpTo 16 G i),118)::[(g11,u8s X,38),(g10,u8s E,39),(gm,u8s M++l,5),(g8,u8s (List.replicate 16 0),118),(g5,u8s ns,97),(g4,u8s ks,39)])) (fun vi _=>16 - (intOf vi).toNat)
 case atStart=>exact ⟨0,by omega,rfl,by rw [dy];exact hm⟩
 case round =>
  clear hm
  obtain ⟨i,hi,rfl,hm⟩:=hrel
  by_cases hlt:i<16
  ·have hii:(i:Int)<16:=by omega
   obtain ⟨x,hx⟩:∃x,x=G.getD i 0:=⟨_,rfl⟩
   have HVX:Hid ((u8s X)[i]?=some (.int .u8 x)):=by show _=_;rw [bB _ _ (by rw [HXL.out];omega),←HXG.out i hlt,hx]
   have HST:Hid ((u8s (cpTo 16 G i)).set i (.int .u8 x)=u8s (cpTo 16 G (i+1))):=by show _=_;rw [bf,hx,eb 16 G HGL.out i hlt]
   have HLN:Hid (i<(u8s (cpTo 16 G i)).length):=by show _<_;rw [aa,cG 16 G HGL.out i hi];exact hlt
   clear hx
   go_wp2_with (first
    | ((with_reducible refine ab (some 37) (.load 5 (.tmp 36)) ?_);refine aK 1 i (.int .u8 x) hm rfl rfl cV (HVX.out) ?_)
    | ((with_reducible refine ab none (.store 5 (.tmp 38) (.tmp 37)) ?_);go_must (refine aD 0 i (.int .u8 x) hm rfl rfl (rfl) aC (HLN.out) rfl rfl ?_);clear hm;intro wq hm))
   rw [List.set_cons_zero,HST.out] at hm
   go_roundw
   case rel=>exact ⟨i+1,by omega,by go_num,hm⟩
   case measure=>simp [intOf];omega
  ·have hin:i=16:=by omega
   subst hin
   rw [dA 16 G HGL.out] at hm
   go_wp2_with (first
    | ((with_reducible refine ab (some 39) (.load 118 (.tmp 12)) ?_);refine aw 0 hm rfl rfl _ cT rfl 16 bX (HGU.out) ?_)
    | ((with_reducible refine ab none (.store 118 (.tmp 8) (.tmp 39)) ?_);refine ah 4 (u8s G) hm rfl rfl rfl 16 bX (by simp [aa]) (HGU.out) (aj _) ?_;clear hm;intro wr2 hm))
   exact aA 4 hm rfl Tryz.results61 rfl _ cT rfl 16 bX HGU.out rfl ⟨by rw [HGG.out ()],hm.below⟩
end Go.Proofs.YtblnljajipbajaaGreatDoor
