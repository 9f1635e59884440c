import Derived.Test.YtlpnafdkhoimhaaGreatDoorQr02
import Derived.Test.YtlpnafdkhoimhaaGreatDoorCards
import Derived.Test.YtlpnafdkhoimhaaGreatDoorTie
import Derived.ProofKit
import Derived.OpenShut
import Derived.ChangeOld
import Derived.Deep.DeepHandedRow
import Derived.Lib.LaidTab
import Derived.Lay
import Derived.Laws.BitsAllLaws
import Derived.Deep.Slices
import Derived.ChangeMaps5
import Derived.Test.YtlpnafdkhoimhaaGreatDoorQr01
set_option maxRecDepth 100000
set_option maxHeartbeats 4000000
namespace Go.Proofs.YtlpnafdkhoimhaaGreatDoor
open Go Go.RowKit
theorem b7:Tryz.prog.underlying 5=some (.int .u8):=Tryz.underlying5
end Go.Proofs.YtlpnafdkhoimhaaGreatDoor
namespace Go.Proofs.YtlpnafdkhoimhaaGreatDoor
open Go Go.RowKit
theorem un_hash:Tryz.prog.underlying 255=some (Tryz.prog.underlying 255).get!:=by kernel_rfl
theorem Mem.callNew {w0 w w':World} {S:List Nat} {rows:List (Nat×List Value×TypeId)} (hm:Mem w0 S w rows) (hb:Below w.heap.size w w') {g:Nat} {l:List Value} {t:TypeId} (hr:Row w' g l t) (hg:w.heap.size≤g):Mem w0 S w' ((g,l,t)::rows):=by
 have h:=hm.call hb
 refine ⟨h.os,h.tape,h.output,h.size,h.block,?_,?_,?_⟩
 ·intro r hr'
  rcases List.mem_cons.1 hr' with rfl|hr'
  ·exact hr
  ·exact h.row r hr'
 ·simp only [List.map_cons,List.nodup_cons]
  refine ⟨fun hc=>?_,h.nodup⟩
  obtain ⟨r,hr',he⟩:=List.mem_map.1 hc
  have:=(hm.row r hr').lt
  omega
 ·intro r hr'
  rcases List.mem_cons.1 hr' with rfl|hr'
  ·exact Or.inr (Nat.le_trans hm.size hg)
  ·exact h.fresh r hr'
def SlOld (w:World) (v:Value) (cs:List Int):Prop :=
 ∃p cap,v=.slice p cs.length cap∧cs.length≤cap∧(0<cs.length→∃b off,p=some ⟨b,off,none⟩∧Seg w b off cs)
theorem SlOld.sl {w w':World} {v:Value} {cs:List Int} (h:SlOld w v cs) (hb:Below w.heap.size w w') {g:Nat} (hg:w.heap.size≤g):Sl w' g v cs:=by
 obtain ⟨p,cap,hv,hc,hs⟩:=h
 refine ⟨p,cap,hv,hc,fun h0=>?_⟩
 obtain ⟨b,off,hp,hseg⟩:=hs h0
 have:=hseg.lt h0
 exact ⟨b,off,hp,by omega,hseg.below hb⟩
theorem SlOld.mem {w w':World} {v:Value} {cs:List Int} {rows:List (Nat×List Value×TypeId)} (h:SlOld w v cs) (hm:Mem w [] w' rows):SlOld w' v cs:=by
 obtain ⟨p,cap,hv,hc,hs⟩:=h
 refine ⟨p,cap,hv,hc,fun h0=>?_⟩
 obtain ⟨b,off,hp,hseg⟩:=hs h0
 exact ⟨b,off,hp,hseg.mem hm (by simp)⟩
theorem new_row:hrow firstW (List.replicate 64 0) 0=hrow (wsOf []) (restOf []) (([]:List Int).length:Int):=rfl
theorem sum_any (cs:List Int) (v:Value) (hbc:Bytes cs) (hlen:cs.length≤1099511627776) (w:World) (ht:Tab w) (hv:SlOld w v cs) :
  Calls Tryz.prog 189 #[v] w fun e w'=>e=.returned (.agg (u8s (shaOf cs)).toArray)∧Below w.heap.size w w':=by
 have hm:=Mem.start w
 have HT:Hid _:=ht
 have HB:Hid _:=hbc
 have HV:Hid _:=hv
 clear ht hbc hv
 go_enter Tryz.func189,Tryz.ntmps189
 go_wp2_with (first
  | ((with_reducible refine ae (some 2) (.alloc 42) ?_);refine ag _ bz hm ?_;clear hm;intro w1 g2 hm)
  | (go_at_call 204;refine (new_any _).mono ?_;rintro e w2 ⟨g,rfl,hge,hr,hb⟩;rw [new_row] at hr;have HSL:Hid _:=(SlOld.mem HV.out hm).sl hb hge;have hgt:0≠g:=Nat.ne_of_lt (Nat.lt_of_lt_of_le (Tab.lt (Tab.mem HT.out hm (by simp))) hge);replace hm:=hm.callNew hb hr hge;clear hb hr hge)
  | (go_at_call 161;refine (gy g [] cs v (by intro x hx;cases hx) HB.out (by simpa using hlen) _ (Tab.mem HT.out hm (by simp)) hgt (hm.get 0 rfl) HSL.out).mono ?_;rintro e w3 ⟨rfl,hr,hu⟩;replace hm:=hm.upd 0 rfl hu hr;clear hr hu)
  | (go_at_call 162;refine (fP g cs HB.out hlen _ (Tab.mem HT.out hm (by simp)) (hm.get 0 rfl)).mono ?_;rintro e w4 ⟨rfl,hb⟩;replace hm:=hm.call hb;clear hb)
  | ((with_reducible refine ae none (.store 42 (.tmp 2) (.tmp 9)) ?_);refine ah 1 (u8s (shaOf cs)) hm rfl rfl rfl 32 bB (rfl) (by rw [aa];exact be _) (ai _) ?_;clear hm;intro w5 hm))

 exact aH 1 hm rfl Tryz.results189 rfl _ dV rfl 32 bB (by rw [aa];exact be _) rfl ⟨rfl,hm.below⟩
end Go.Proofs.YtlpnafdkhoimhaaGreatDoor
namespace Go.Proofs.YtlpnafdkhoimhaaGreatDoor
open Go Go.RowKit
end Go.Proofs.YtlpnafdkhoimhaaGreatDoor
namespace Go.Proofs.YtlpnafdkhoimhaaGreatDoor
open Go Go.RowKit
theorem ag_bs:∀w,(isAgg 56).run Tryz.prog w=.ok false w:=by intro w;simp [go_sem]
theorem hrow_one (ws rs:List Int) (n:Int):∀v∈hrow ws rs n,v.oneCell'=true:=by
 intro v hv
 simp only [hrow,List.mem_append,List.mem_cons,List.not_mem_nil,or_false] at hv
 rcases hv with h|h|rfl
 ·exact aX _ v h
 ·exact ai _ v h
 ·rfl
theorem copy_any (g:Nat) (ws rs:List Int) (n:Int) (hws:ws.length=8) (hrs:rs.length=64) (w:World) (hr:Row w g (hrow ws rs n) 255) :
  Calls Tryz.prog 160 #[.pointer (some ⟨g,0,none⟩)] w fun e w'=>∃g',e=.returned (.pointer (some ⟨g',0,none⟩))∧w.heap.size≤g'∧Row w' g' (hrow ws rs n) 255∧Below w.heap.size w w':=by
 have hm:=Mem.start w
 have hln:(hrow ws rs n).length=73:=df _ _ _ hws hrs
 have HLN:Hid _:=hln
 have HR:Hid (Row w g (hrow ws rs n) 255):=hr
 clear hln hr
 go_enter Tryz.func160,Tryz.ntmps160
 go_wp2_with (first
  | ((with_reducible refine ae (some 6) (.load 255 (.tmp 5)) ?_);refine aj (.agg (hrow ws rs n).toArray) rfl (au 0 _ (Row.below' HR.out hm.below) rfl _ un_hash rfl 73 sz_hash (by rw [HLN.out];omega) (by rw [List.drop_zero,List.take_of_length_le (Nat.le_of_eq HLN.out)])) ?_)
  | ((with_reducible refine ae (some 3) (.alloc 255) ?_);refine ag _ zero_hash hm ?_;clear hm;intro w1 g1 hm)
  | ((with_reducible refine ae none (.store 255 (.tmp 3) (.tmp 6)) ?_);refine ah 0 (hrow ws rs n) hm rfl rfl rfl 73 sz_hash (rfl) (HLN.out) (hrow_one _ _ _) ?_;clear hm;intro w2 hm))
 go_ret
 have hf:=hm.fresh _ (List.mem_cons_self ..)
 exact ⟨g1,rfl,by simpa using hf,hm.get 0 rfl,hm.below⟩
open Go Go.ChangeShapes Go.WideShapes Go.ChangeAt Go.RowKit
theorem own:ownKnob Tryz.prog.godebug=none:=by kernel_rfl
theorem dv:laidOutB Tryz.prog=true:=by kernel_rfl
theorem cells_w64:Tryz.prog.cellsOf 259=64:=by kernel_rfl
theorem cells_u32:Tryz.prog.cellsOf 69=1:=by kernel_rfl
theorem kn:Tryz.prog.cellsOf 5=1:=by kernel_rfl
theorem table_type:(Tryz.prog.globals[0]?).map (·.type)=some 259:=by kernel_rfl
/-- The listed table gives what the walks ask for. -/
theorem tab_of {W:World} (nm:String) (hn:Tryz.prog.globalNamed nm=some 0) (h:Lib.TabIs Tryz.prog W nm .u32 kTab):Tab W:=by
 intro j hj
 exact h.cell hn j (by simpa [kTab] using hj)
open Go Go.ChangeShapes Go.WideShapes Go.ChangeAt Go.RowKit
theorem open_bs {H:Type} {enc:TypeId×Value→H} {W:World} {base:Nat} {v:Value} {d:DataW H} {ps:List MemPlace} (hok:Value.okWide Tryz.prog W .any base 56 v) (h:DataW.Trod enc Tryz.prog W 0 (fun _=>true) true 56 v d ps) :
  ∃cs:List Int,SlOld W v cs∧Bytes cs:=by
 obtain ⟨a,len,cap,rfl⟩:=okWide_slice aF hok
 obtain ⟨fuel,hf⟩:=h
 rcases open_ints aF b7 kn hf with ⟨hcs,_⟩|⟨x,l,c,zs,hcs,_,hl,_,hz,_,hcell,hwz⟩
 ·simp [Value.cells] at hcs
  obtain ⟨rfl,rfl,rfl⟩:=hcs
  exact ⟨[],⟨none,0,rfl,Nat.le_refl _,fun h=>absurd h (by simp)⟩,by intro y hy;cases hy⟩
 ·simp [Value.cells] at hcs
  obtain ⟨rfl,rfl,rfl⟩:=hcs
  have hzl:zs.length=cap:=by simpa using hz
  have htl:(zs.take len).length=len:=by simp;omega
  refine ⟨zs.take len,⟨some x,cap,by rw [htl],by rw [htl];exact hl,fun h0=>?_⟩,?_⟩
  ·obtain ⟨b,off,rfl,hc⟩:=ints_at hcell (by omega)
   exact ⟨b,off,rfl,Seg.take (fun j hj=>hc j hj) len⟩
  ·intro y hy
   have:=bounds_u8 (hwz y (List.mem_of_mem_take hy))
   omega
open Go Go.RowKit
theorem lf:Bytes []:=by intro x hx;cases hx
def keyCut (k:List Int):List Int:=if k.length≤64 then k else shaOf k
def fillOf (k:List Int):List Int:=keyCut k++List.replicate (64 - (keyCut k).length) 0
def xorB (l:List Int) (p:Int):List Int:=l.map fun x=>bits .xor .u8 x p
def padIn (k:List Int):List Int:=xorB (fillOf k) 54
def padOut (k:List Int):List Int:=xorB (fillOf k) 92
def macOf (k m:List Int):List Int:=shaOf (padOut k++shaOf (padIn k++m))
theorem keyCut_le (k:List Int):(keyCut k).length≤64:=by
 unfold keyCut
 split
 ·assumption
 ·rw [be];omega
theorem keyCut_bytes {k:List Int} (h:Bytes k):Bytes (keyCut k):=by
 unfold keyCut
 split
 ·exact h
 ·exact eL _
theorem bn (k:List Int):(fillOf k).length=64:=by
 have:=keyCut_le k
 simp [fillOf];omega
theorem d5 {k:List Int} (h:Bytes k):Bytes (fillOf k):=(keyCut_bytes h).append (Bytes.zeros _)
theorem xor_byte {x p:Int} (hx:0≤x∧x<256) (hp:0≤p∧p<256):0≤bits .xor .u8 x p∧bits .xor .u8 x p<256:=by
 rw [u8_xor x p hx.1 hx.2 hp.1 hp.2]
 have:x.toNat ^^^ p.toNat<2 ^ 8:=Nat.xor_lt_two_pow (by omega) (by omega)
 omega
theorem eT (l:List Int) (p:Int):(xorB l p).length=l.length:=by simp [xorB]
theorem gW {l:List Int} (h:Bytes l) {p:Int} (hp:0≤p∧p<256):Bytes (xorB l p):=by
 intro y hy
 obtain ⟨x,hx,rfl⟩:=List.mem_map.1 hy
 exact xor_byte (h x hx) hp
theorem bP (k:List Int):(padIn k).length=64:=by rw [padIn,eT,bn]
theorem bD (k:List Int):(padOut k).length=64:=by rw [padOut,eT,bn]
theorem fU {k:List Int} (h:Bytes k):Bytes (padIn k):=gW (d5 h) (by omega)
theorem fC {k:List Int} (h:Bytes k):Bytes (padOut k):=gW (d5 h) (by omega)
theorem bZ (k m:List Int):(macOf k m).length=32:=be _
theorem eN (k m:List Int):Bytes (macOf k m):=eL _
def xorUpto (l:List Int) (p:Int) (i:Nat):List Int:=xorB (l.take i) p++l.drop i
theorem fK (l:List Int) (p:Int) (i:Nat):(xorUpto l p i).length=l.length:=by simp [xorUpto,xorB];omega
theorem xorUpto_full (l:List Int) (p:Int) (i:Nat) (h:l.length≤i):xorUpto l p i=xorB l p:=by
 simp [xorUpto,List.take_of_length_le h,List.drop_of_length_le h]
theorem xorUpto_get (l:List Int) (p:Int) (i:Nat) (h:i<l.length):(xorUpto l p i).getD i 0=l.getD i 0:=by
 have e:min i l.length=i:=by omega
 simp [xorUpto,xorB,List.getElem?_append,e]
theorem xorUpto_set (l:List Int) (p:Int) (i:Nat) (h:i<l.length):(xorUpto l p i).set i (bits .xor .u8 (l.getD i 0) p)=xorUpto l p (i+1):=by
 unfold xorUpto
 have e:(xorB (l.take i) p).length=i:=by simp [xorB];omega
 rw [List.set_append_right _ _ (by omega),e,Nat.sub_self]
 have hd:l.drop i=l[i]::l.drop (i+1):=List.drop_eq_getElem_cons h
 rw [hd,List.set_cons_zero,List.take_succ_eq_append_getElem h,xorB,xorB,List.map_append,List.append_assoc]
 simp [h]
def pieceOf (k info:List Int):Nat→List Int
 | 0=>[]
 | i+1=>macOf k (pieceOf k info i++info++[((i+1:Nat):Int)])
theorem cP (k info:List Int) (i:Nat):(pieceOf k info (i+1)).length=32:=bZ _ _
theorem lh (k info:List Int) (i:Nat):(pieceOf k info i).length≤32:=by
 cases i with
 | zero=>simp [pieceOf]
 | succ i=>rw [cP];omega
theorem gN (k info:List Int) (i:Nat):Bytes (pieceOf k info i):=by
 cases i with
 | zero=>intro x hx;cases hx
 | succ i=>exact eN _ _
def rowsOf (k info:List Int):Nat→List Int
 | 0=>[]
 | i+1=>rowsOf k info i++pieceOf k info (i+1)
theorem cn (k info:List Int) (i:Nat):(rowsOf k info i).length=32 * i:=by
 induction i with
 | zero=>rfl
 | succ i ih=>rw [rowsOf,List.length_append,ih,cP];omega
theorem rowsOf_take (k info:List Int) (i j n:Nat) (h:n≤32 * i):(rowsOf k info (i+j)).take n=(rowsOf k info i).take n:=by
 induction j with
 | zero=>rfl
 | succ j ih =>
  rw [←Nat.add_assoc,rowsOf,List.take_append_of_le_length (by rw [cn];omega),ih]
def expandOf (k info:List Int) (n:Nat):List Int:=(rowsOf k info ((n+31) / 32)).take n
theorem f0 (k info:List Int) (n i:Nat) (h:n≤32 * i):expandOf k info n=(rowsOf k info i).take n:=by
 unfold expandOf
 have h1:(n+31) / 32≤i:=by omega
 obtain ⟨j,rfl⟩:∃j,i=(n+31) / 32+j:=⟨i - (n+31) / 32,by omega⟩
 rw [rowsOf_take _ _ _ _ _ (by omega)]
theorem lr (k info:List Int) (i:Nat):expandOf k info (32 * i)=rowsOf k info i:=by
 rw [f0 k info (32 * i) i (Nat.le_refl _),List.take_of_length_le (by rw [cn];omega)]
theorem expandOf_32 (k info:List Int):expandOf k info 32=macOf k (info++[1]):=by
 rw [show 32=32 * 1 from rfl,lr]
 rfl
def outAt (k info:List Int) (n i:Nat):List Int:=(rowsOf k info i).take n++List.replicate (n - 32 * i) 0
theorem outAt_length (k info:List Int) (n i:Nat):(outAt k info n i).length=n:=by simp [outAt,cn];omega
theorem outAt_zero (k info:List Int) (n:Nat):outAt k info n 0=List.replicate n 0:=by simp [outAt,rowsOf]
theorem outAt_full (k info:List Int) (n i:Nat) (h:n≤32 * i):outAt k info n i=expandOf k info n:=by
 rw [f0 k info n i h,outAt,show n - 32 * i=0 by omega,List.replicate_zero,List.append_nil]
theorem outAt_step (k info:List Int) (n i:Nat) (h:32 * i<n):splice (outAt k info n i) (32 * i) ((pieceOf k info (i+1)).take (n - 32 * i))=outAt k info n (i+1):=by
 have hr:=cn k info i
 have hp:=cP k info i
 have e1:(rowsOf k info i).take n=rowsOf k info i:=List.take_of_length_le (by omega)
 unfold splice outAt
 rw [e1,List.take_append_of_le_length (by omega),List.take_of_length_le (l:=rowsOf k info i) (by omega)]
 rw [rowsOf,List.take_append,e1,hr,List.drop_append,hr,List.drop_of_length_le (by rw [hr];omega),List.nil_append]
 rw [List.append_assoc]
 refine congrArg (rowsOf k info i ++ ·) (congrArg (List.take (n - 32 * i) (pieceOf k info (i+1)) ++ ·) ?_)
 have hl:((pieceOf k info (i+1)).take (n - 32 * i)).length=min (n - 32 * i) 32:=by rw [List.length_take,hp]
 rw [hl,List.drop_replicate]
 congr 1
 omega
def be4 (n:Int):List Int:=[n / 256 / 256 / 256 % 256,n / 256 / 256 % 256,n / 256 % 256,n % 256]
theorem db (n:Int):(be4 n).length=4:=rfl
theorem jp (n:Int):Bytes (be4 n):=by
 intro x hx
 simp only [be4,List.mem_cons,List.not_mem_nil,or_false] at hx
 omega
def deriveOf (k label:List Int) (n:Int):List Int:=macOf k (label++be4 n++[1])
theorem bk (k label:List Int) (n:Int):(deriveOf k label n).length=32:=bZ _ _
theorem fT (k label:List Int) (n:Int):Bytes (deriveOf k label n):=eN _ _
theorem jL (k label:List Int) (n:Int):expandOf k (label++be4 n) 32=deriveOf k label n:=expandOf_32 _ _
def jefe:List Int:=[74,101,102,101]
def want:List Int:=[119,104,97,116,32,100,111,32,121,97,32,119,97,110,116,32,102,111,114,32,110,111,116,104,105,110,103,63]
open Go Go.RowKit
theorem info_key:(Tryz.prog.info? 43).map (fun i=>(i.zero,i.size))=some (some (.agg (u8s (List.replicate 32 0)).toArray),32):=by kernel_rfl
theorem aD:∀w,(zeroValue 43).run Tryz.prog w=.ok (.agg (u8s (List.replicate 32 0)).toArray) w:=(zero_of_info info_key).1
theorem aq:(Tryz.prog.info? 43).map (·.size)=some 32:=(zero_of_info info_key).2
theorem aw:Tryz.prog.underlying 43=some (.array 32 5):=Tryz.underlying43
theorem info_beg:(Tryz.prog.info? 184).map (fun i=>(i.zero,i.size))=some (some (.agg ([.pointer none,.pointer none]:List Value).toArray),2):=by kernel_rfl
theorem dR:∀w,(zeroValue 184).run Tryz.prog w=.ok (.agg ([.pointer none,.pointer none]:List Value).toArray) w:=(zero_of_info info_beg).1
theorem dW:(Tryz.prog.info? 184).map (·.size)=some 2:=(zero_of_info info_beg).2
theorem jt:Tryz.prog.underlying 184=some (Tryz.prog.underlying 184).get!:=by kernel_rfl
theorem ag_hp:∀w,(isAgg 182).run Tryz.prog w=.ok false w:=by intro w;simp [go_sem]
theorem un_bss:Tryz.prog.underlying 219=some (.slice 56):=Tryz.underlying219
theorem info_bs:(Tryz.prog.info? 56).map (fun i=>(i.zero,i.size))=some (some (.slice none 0 0),1):=by kernel_rfl
theorem bV:(Tryz.prog.info? 5).map (fun i=>(i.zero,i.size))=some (some (.int .u8 0),1):=by kernel_rfl
theorem sl_all {w:World} {g r n cap:Nat} {l:List Int} {t:TypeId} (hr:Row w r (u8s l) t) (hne:r≠g) (hn:l.length=n) (h2:n≤cap):Sl w g (.slice (some ⟨r,0,none⟩) n cap) l :=
 ⟨_,cap,by rw [hn],by rw [hn];exact h2,fun _=>⟨r,0,rfl,hne,Seg.row hr⟩⟩
theorem a8 {w:World} {r n cap:Nat} {l:List Int} {t:TypeId} (hr:Row w r (u8s l) t) (hn:l.length=n) (h2:n≤cap):SlOld w (.slice (some ⟨r,0,none⟩) n cap) l :=
 ⟨_,cap,by rw [hn],by rw [hn];exact h2,fun _=>⟨r,0,rfl,Seg.row hr⟩⟩
theorem SlOld.len {w:World} {v:Value} {cs:List Int} (h:SlOld w v cs):∃p cap,v=.slice p cs.length cap∧cs.length≤cap:=by
 obtain ⟨p,cap,h1,h2,_⟩:=h
 exact ⟨p,cap,h1,h2⟩
theorem SlOld.below {w w':World} {v:Value} {cs:List Int} (h:SlOld w v cs) (hb:Below w.heap.size w w'):SlOld w' v cs:=by
 obtain ⟨p,cap,hv,hc,hs⟩:=h
 refine ⟨p,cap,hv,hc,fun h0=>?_⟩
 obtain ⟨b,off,hp,hseg⟩:=hs h0
 exact ⟨b,off,hp,hseg.below hb⟩
theorem SlOld.src0 {w:World} {p:Option Addr} {n c:Nat} {cs:List Int} (h:SlOld w (.slice p n c) cs):n=cs.length∧n≤c∧(0<cs.length→∃b off,p=some ⟨b,off,none⟩∧Seg w b off cs):=by
 obtain ⟨q,d,hv,hd,hs⟩:=h
 simp only [Value.slice.injEq] at hv
 obtain ⟨rfl,rfl,rfl⟩:=hv
 exact ⟨rfl,hd,hs⟩
section
variable {P:Program} {ops:Array Oper} {rest:List Oper} {a:Act} {w w0:World} {Q:Exit→Act→World→Prop} {dst:Option Tmp} {typ:TypeId} {pos:String} {aft:Array Edge} {gd:Option (Nat×Bool)} {S:List Nat} {rows:List (Nat×List Value×TypeId)}
theorem dy {d s:Operand} {dT sT:TypeId} (i:Nat) {g:Nat} {l:List Value} {t:TypeId} {off dLen dCap:Nat} {p:Option Addr} {sLen sCap:Nat} (cs:List Int) (n:Nat) (new:List Value) (hm:Mem w0 S w rows) (hi:rows[i]?=some (g,l,t))
  (hd:a.eval d=.slice (some ⟨g,off,none⟩) dLen dCap) (hs:a.eval s=.slice p sLen sCap) (elem:TypeId) (hu:P.underlying dT=some (.slice elem)) (hsz:(P.info? elem).map (·.size)=some 1)
  (hold:SlOld w (.slice p sLen sCap) cs) (hn:n=Nat.min sLen dLen) (hfit:off+n≤l.length) (hnew:splice l off (u8s (cs.take n))=new)
  (h:∀w',Mem w0 S w' (rows.set i (g,new,t))→wpList P ops Q rest (a.put dst (.int .i64 n)) w') :
  wpList P ops Q ({dst:=dst,op:=.call {callee:=.builtin .copy,args:=#[d,s],argTypes:=#[dT,sT]},type:=typ,pos:=pos,after:=aft,guard:=none}::rest) a w:=by
 obtain ⟨hl,hc,hsrc⟩:=hold.src0
 have hle:n≤cs.length:=by rw [hn,←hl];exact Nat.min_le_left _ _
 have htl:(cs.take n).length=n:=by simp;omega
 by_cases h0:0<n
 ·obtain ⟨b,o,rfl,hseg⟩:=hsrc (by omega)
  exact cI i off dLen dCap ⟨b,o,none⟩ sLen sCap (u8s (cs.take n)) n new hm hi hd hs elem hu hsz (by rw [aa,htl]) hn (hseg.take n).src hfit (ai _) hnew h
 ·have hn0:n=0:=by omega
  subst hn0
  have hnew':l=new:=by rw [←hnew];simp [splice,u8s]
  subst hnew'
  have hset:rows.set i (g,l,t)=rows:=by
   have hlt:i<rows.length:=(List.getElem?_eq_some_iff.1 hi).1
   have hge:rows[i]=(g,l,t):=(List.getElem?_eq_some_iff.1 hi).2
   rw [←hge,List.set_getElem_self]
  rw [hset] at h
  refine wpList_plain rfl fun K hK=>?_
  have hh:=hK _ _ (h _ hm)
  have hrun:(Builtin.copy_ #[dT,sT] typ #[.slice (some ⟨g,off,none⟩) dLen dCap,.slice p sLen sCap]).run P w=.ok (goInt 0) w:=by
   have hz:Nat.min sLen dLen=0:=hn.symm
   have hld:∀a:Addr,(loadCells a 0).run P w=.ok #[] w:=fun a=>rfl
   cases hq:P.info? elem with
   | none=>simp [hq] at hsz
   | some q =>
    cases p<;>simp [Builtin.copy_,run_underlying hu,Builtin.lenOf,Builtin.firstCells,sizeOf,typeInfo,hq,storeCells,hz,hld]
  unfold Oper.wp execOp
  simp only [resolve,invoke,builtin,Sem.run_bind,Sem.run_pure,Result.andThen_ok,List.map_toArray,List.map_cons,List.map_nil,hd,hs,hrun]
  exact hh
theorem run_bsl1 (w:World) {t elem:TypeId} (z v:Value) (hu:P.underlying t=some (.slice elem)) (hi:(P.info? elem).map (fun i=>(i.zero,i.size))=some (some z,1)) (hz:z.cells=#[z]) (hv:v.cells=#[v]) :
  (Instr.buildSlice t 1 #[(0,v)]).run P w=.ok (.slice (some ⟨w.heap.size,0,none⟩) 1 1) (w.alloc (.cells [v].toArray elem)):=by
 obtain ⟨hz1,hs1⟩:=zero_of_info hi
 cases hq:P.info? elem with
 | none=>simp [hq] at hi
 | some q =>
  have hs:q.size=1:=by simpa [hq] using hs1
  have e:Array.map (fun x=>([z][x % 1]?).getD default) (Array.range 1)=#[z]:=by
   apply Array.ext
   ·simp
   ·intro i h1 h2
    have h3:i=0:=by simpa using h2
    subst h3
    simp
  simp [Instr.buildSlice,run_underlying hu,sizeOf,typeInfo,hq,hs,hz1,hz,Instr.fill,hv,newRow,newObj]
  rw [e]
  rfl
theorem run_bsl3 (w:World) {t elem:TypeId} (z v0 v1 v2:Value) (hu:P.underlying t=some (.slice elem)) (hi:(P.info? elem).map (fun i=>(i.zero,i.size))=some (some z,1)) (hz:z.cells=#[z]) (h0:v0.cells=#[v0]) (h1:v1.cells=#[v1]) (h2:v2.cells=#[v2]) :
  (Instr.buildSlice t 3 #[(0,v0),(1,v1),(2,v2)]).run P w=.ok (.slice (some ⟨w.heap.size,0,none⟩) 3 3) (w.alloc (.cells [v0,v1,v2].toArray elem)):=by
 obtain ⟨hz1,hs1⟩:=zero_of_info hi
 cases hq:P.info? elem with
 | none=>simp [hq] at hi
 | some q =>
  have hs:q.size=1:=by simpa [hq] using hs1
  have e:Array.map (fun x=>([z][x % 1]?).getD default) (Array.range 3)=#[z,z,z]:=by
   apply Array.ext
   ·simp
   ·intro i h1 h2
    have h3:i=0∨i=1∨i=2:=by
     have:i<3:=by simpa using h2
     omega
    rcases h3 with rfl|rfl|rfl<;>simp
  simp [Instr.buildSlice,run_underlying hu,sizeOf,typeInfo,hq,hs,hz1,hz,Instr.fill,h0,h1,h2,newRow,newObj]
  rw [e]
  rfl
theorem bM {t elem:TypeId} {x:Operand} (hw:Region.wanted {dst:=dst,op:=.buildSlice t 1 #[(0,x)],type:=typ,pos:=pos,after:=aft,guard:=gd} (yielded ops a.tmps)=true) (z v:Value) (hu:P.underlying t=some (.slice elem)) (hi:(P.info? elem).map (fun i=>(i.zero,i.size))=some (some z,1)) (hz:z.cells=#[z]) (hx:a.eval x=v) (hv:v.cells=#[v]) (hm:Mem w0 S w rows)
  (h:∀w' g,Below w.heap.size w w'→Mem w0 S w' ((g,[v],elem)::rows)→wpList P ops Q rest (a.put dst (.slice (some ⟨g,0,none⟩) 1 1)) w') :
  wpList P ops Q ({dst:=dst,op:=.buildSlice t 1 #[(0,x)],type:=typ,pos:=pos,after:=aft,guard:=gd}::rest) a w:=by
 refine wpList_step fun K hK=>?_
 rw [if_pos hw]
 have hh:=hK _ _ (h _ _ ((Below.refl _ _).alloc (Nat.le_refl _) _) (hm.alloc [v] elem))
 unfold Oper.wp execOp
 simp only [List.map_toArray,List.map_cons,List.map_nil,hx,run_bsl1 (P:=P) w z v hu hi hz hv,Sem.run_bind,Sem.run_pure,Result.andThen_ok]
 exact hh
theorem wpl_bsl3 {t elem:TypeId} {x y u:Operand} (z v0 v1 v2:Value) (hu:P.underlying t=some (.slice elem)) (hi:(P.info? elem).map (fun i=>(i.zero,i.size))=some (some z,1)) (hz:z.cells=#[z]) (hx:a.eval x=v0) (hy:a.eval y=v1) (hv:a.eval u=v2) (h0:v0.cells=#[v0]) (h1:v1.cells=#[v1]) (h2:v2.cells=#[v2]) (hm:Mem w0 S w rows)
  (h:∀w' g,Below w.heap.size w w'→Mem w0 S w' ((g,[v0,v1,v2],elem)::rows)→wpList P ops Q rest (a.put dst (.slice (some ⟨g,0,none⟩) 3 3)) w') :
  wpList P ops Q ({dst:=dst,op:=.buildSlice t 3 #[(0,x),(1,y),(2,u)],type:=typ,pos:=pos,after:=aft,guard:=none}::rest) a w:=by
 refine wpList_plain rfl fun K hK=>?_
 have hh:=hK _ _ (h _ _ ((Below.refl _ _).alloc (Nat.le_refl _) _) (hm.alloc [v0,v1,v2] elem))
 unfold Oper.wp execOp
 simp only [List.map_toArray,List.map_cons,List.map_nil,hx,hy,hv,run_bsl3 (P:=P) w z v0 v1 v2 hu hi hz h0 h1 h2,Sem.run_bind,Sem.run_pure,Result.andThen_ok]
 exact hh
end
theorem iz {P:Program} {ops:Array Oper} {rest:List Oper} {a:Act} {w:World} {typ:TypeId} {pos:String} {aft:Array Edge} {Q:Exit→Act→World→Prop} {w0:World} {S:List Nat} {rows:List (Nat×List Value×TypeId)} {ty:TypeId} {x y:Operand} (i:Nat) {g:Nat} {l:List Value} {t:TypeId} (l':List Value) (hm:Mem w0 S w rows) (hi:rows[i]?=some (g,l,t)) (hx:a.eval x=.pointer (some ⟨g,0,none⟩))
  (hy:a.eval y=.agg l'.toArray) (n:Nat) (hs:(P.info? ty).map (·.size)=some n) (hn:l.length=n) (hn':l'.length=n) (h1:∀v∈l',v.oneCell'=true)
  (h:∀w',Upd g w w'→Mem w0 S w' (rows.set i (g,l',t))→wpList P ops Q rest a w') :
  wpList P ops Q ({dst:=none,op:=.store ty x y,type:=typ,pos:=pos,after:=aft,guard:=none}::rest) a w:=by
 refine wpList_plain rfl fun K hK=>?_
 have hr:=hm.get i hi
 have hh:=hK _ _ (h _ (Upd.setRow g w l'.toArray) (hm.upd i hi (Upd.setRow g w l'.toArray) (hr.setRow l')))
 unfold Oper.wp execOp
 simp only [hx,hy,Instr.storeAt,Instr.sureAddr,Sem.run_bind,Sem.run_pure,Result.andThen_ok,
  run_storeVar_row w g t ty l.toArray l'.toArray hr (by rw [hs];simp [hn']) (by simp [hn,hn']) (by simpa using h1)]
 exact hh
theorem Mem.callNew2 {w0 w w':World} {S:List Nat} {rows:List (Nat×List Value×TypeId)} (hm:Mem w0 S w rows) (hb:Below w.heap.size w w') {g h:Nat} {l k:List Value} {t u:TypeId} (hr:Row w' g l t) (hq:Row w' h k u) (hg:w.heap.size≤g) (hh:w.heap.size≤h) (hne:g≠h):Mem w0 S w' ((g,l,t)::(h,k,u)::rows):=by
 have h1:=hm.callNew hb hq hh
 refine ⟨h1.os,h1.tape,h1.output,h1.size,h1.block,?_,?_,?_⟩
 ·intro r hr'
  rcases List.mem_cons.1 hr' with rfl|hr'
  ·exact hr
  ·exact h1.row r hr'
 ·simp only [List.map_cons,List.nodup_cons]
  refine ⟨fun hc=>?_,by simpa using h1.nodup⟩
  rcases List.mem_cons.1 hc with hc|hc
  ·exact hne hc
  ·obtain ⟨r,hr',he⟩:=List.mem_map.1 hc
   have:=(hm.row r hr').lt
   omega
 ·intro r hr'
  rcases List.mem_cons.1 hr' with rfl|hr'
  ·exact Or.inr (Nat.le_trans hm.size hg)
  ·exact h1.fresh r hr'
theorem cF (cs:List Int) (n:Nat):splice (u8s (List.replicate n 0)) 0 (u8s cs)=u8s (cs++List.replicate (n - cs.length) 0):=by
 simp [splice,u8s,List.drop_replicate]
theorem jy (cs:List Int):splice (u8s (List.replicate 64 0)) 0 (u8s (cs.take cs.length))=u8s (cs++List.replicate (64 - cs.length) 0):=by
 rw [List.take_of_length_le (Nat.le_refl _)]
 exact cF cs 64
theorem kd (cs:List Int) (v:Value) (hbc:Bytes cs) (hlen:cs.length≤1099511627776) (w:World) (ht:Tab w) (hv:SlOld w v cs) :
  Calls Tryz.prog 159 #[v] w fun e w'=>e=.returned (.agg (u8s (fillOf cs)).toArray)∧Below w.heap.size w w':=by
 obtain ⟨p,cap,rfl,hcap⟩:=hv.len
 have hm:=Mem.start w
 have HT:Hid _:=ht
 have HB:Hid _:=hbc
 have HV:Hid (SlOld w (.slice p cs.length cap) cs):=hv
 have hfl:(u8s (fillOf cs)).length=64:=by rw [aa,bn]
 have HFL:Hid _:=hfl
 clear ht hbc hv hfl
 by_cases h64:cs.length≤64
 ·have h64i:(cs.length:Int)≤64:=by omega
  have hne:splice (u8s (List.replicate 64 0)) 0 (u8s (cs.take cs.length))=u8s (fillOf cs):=by rw [jy cs,fillOf,keyCut,if_pos h64]
  have HNE:Hid _:=hne
  clear hne
  go_enter Tryz.func159,Tryz.ntmps159
  go_wp2_with (first
   | ((with_reducible refine ae (some 2) (.alloc 108) ?_);refine ag _ cG hm ?_;clear hm;intro w1 g2 hm)
   | ((with_reducible refine ae (some 3) (.alloc 108) ?_);refine ag _ cG hm ?_;clear hm;intro w2 g3 hm)
   | ((with_reducible refine ae (some 10) (.call {callee:=.builtin .copy,args:=#[.tmp 8,.tmp 9],argTypes:=#[56,56]}) ?_);refine dy 0 cs cs.length (u8s (fillOf cs)) hm rfl rfl rfl _ aF aQ (SlOld.mem HV.out hm) (Nat.min_eq_left h64).symm (by simp [aa];omega) HNE.out ?_;clear hm;intro w3 hm)
   | ((with_reducible refine ae (some 11) (.load 108 (.tmp 3)) ?_);refine av 0 hm rfl rfl _ cD rfl 64 bw (HFL.out) ?_)
   | ((with_reducible refine ae none (.store 108 (.tmp 2) (.tmp 11)) ?_);refine ah 1 (u8s (fillOf cs)) hm rfl rfl rfl 64 bw (by simp [aa]) (HFL.out) (ai _) ?_;clear hm;intro w4 hm))
  exact aH 1 hm rfl Tryz.results159 rfl _ cD rfl 64 bw HFL.out rfl ⟨rfl,hm.below⟩
 ·have h64i:¬(cs.length:Int)≤64:=by omega
  have hne:splice (u8s (List.replicate 64 0)) 0 (u8s ((shaOf cs).take 32))=u8s (fillOf cs):=by
   have:=jy (shaOf cs)
   rw [be] at this
   rw [this,fillOf,keyCut,if_neg h64,be]
  have HNE:Hid _:=hne
  clear hne
  go_enter Tryz.func159,Tryz.ntmps159
  go_wp2_with (first
   | ((with_reducible refine ae (some 2) (.alloc 108) ?_);refine ag _ cG hm ?_;clear hm;intro w1 g2 hm)
   | ((with_reducible refine ae (some 3) (.alloc 108) ?_);refine ag _ cG hm ?_;clear hm;intro w2 g3 hm)
   | (go_at_call 189;refine (sum_any cs _ HB.out hlen _ (Tab.mem HT.out hm (by simp)) (SlOld.mem HV.out hm)).mono ?_;rintro e w3 ⟨rfl,hb⟩;replace hm:=hm.call hb;clear hb)
   | ((with_reducible refine ae (some 4) (.alloc 42) ?_);refine ag _ bz hm ?_;clear hm;intro w4 g4 hm)
   | ((with_reducible refine ae none (.store 42 (.tmp 4) (.tmp 13)) ?_);refine ah 0 (u8s (shaOf cs)) hm rfl rfl rfl 32 bB (by simp [aa]) (by rw [aa,be]) (ai _) ?_;clear hm;intro w5 hm))

  refine cU 2 (by kernel_rfl) (by kernel_rfl) hm ?_
  clear hm
  intro w6 hm
  simp only [List.take_succ_cons,List.take_zero,List.drop_succ_cons,List.drop_zero]
  still_step
  still_step
  refine wpStill_nil ?_
  go_wp2_with (first
   | ((with_reducible refine ae (some 16) (.call {callee:=.builtin .copy,args:=#[.tmp 14,.tmp 15],argTypes:=#[56,56]}) ?_);refine dy 1 (shaOf cs) 32 (u8s (fillOf cs)) hm rfl rfl rfl _ aF aQ (a8 (hm.get 0 rfl) (be _) (Nat.le_refl _)) rfl (by simp [aa]) HNE.out ?_;clear hm;intro w7 hm)
   | ((with_reducible refine ae (some 17) (.load 108 (.tmp 3)) ?_);refine av 1 hm rfl rfl _ cD rfl 64 bw (HFL.out) ?_)
   | ((with_reducible refine ae none (.store 108 (.tmp 2) (.tmp 17)) ?_);refine ah 2 (u8s (fillOf cs)) hm rfl rfl rfl 64 bw (by simp [aa]) (HFL.out) (ai _) ?_;clear hm;intro w8 hm))
  exact aH 2 hm rfl Tryz.results159 rfl _ cD rfl 64 bw HFL.out rfl ⟨rfl,hm.below⟩
theorem k4 (b:List Int) (p:Int) (hbl:b.length=64) (hbb:Bytes b) (hp:0≤p∧p<256) (w:World) (ht:Tab w) :
  Calls Tryz.prog 188 #[.agg (u8s b).toArray,.int .u8 p] w fun e w'=>∃g,e=.returned (.pointer (some ⟨g,0,none⟩))∧w.heap.size≤g∧Row w' g (hrow (wsOf (xorB b p)) (restOf (xorB b p)) ((xorB b p).length:Int)) 255∧Below w.heap.size w w':=by
 have hm:=Mem.start w
 have HT:Hid _:=ht
 have HB:Hid _:=hbb
 have HL:Hid _:=hbl
 have HX:Hid _:=gW hbb hp
 clear ht hbb hbl
 go_enter Tryz.func188,Tryz.ntmps188
 go_wp2_with (first
  | ((with_reducible refine ae (some 2) (.box 108 (.tmp 0)) ?_);refine az (u8s b) rfl hm ?_;clear hm;intro w1 g2 hm))

 go_loopw [7] (fun vi wr=>∃k:Nat,k≤64∧vi=.int .i64 k∧Mem w [] wr [(g2,u8s (xorUpto b p k),108)]) (fun vi _=>64 - (intOf vi).toNat)
 case atStart=>exact ⟨0,by omega,rfl,hm⟩
 case round =>
  clear hm
  obtain ⟨k,hk,rfl,hm⟩:=hrel
  by_cases hlt:k<64
  ·obtain ⟨c,hc⟩:∃c,c=b.getD k 0:=⟨_,rfl⟩
   have hln:(u8s (xorUpto b p k)).length=64:=by rw [aa,fK,HL.out]
   have hvc:(u8s (xorUpto b p k))[k]?=some (.int .u8 c):=by rw [cK _ _ (by rw [fK,HL.out];exact hlt),xorUpto_get _ _ _ (by rw [HL.out];exact hlt),hc]
   have hst:(u8s (xorUpto b p k)).set k (.int .u8 (bits .xor .u8 c p))=u8s (xorUpto b p (k+1)):=by rw [bW,hc,xorUpto_set _ _ _ (by rw [HL.out];exact hlt)]
   have HV:Hid _:=hvc
   have HS:Hid _:=hst
   have HLN:Hid _:=hln
   clear hvc hst hln hc
   go_wp2_with (first
    | ((with_reducible refine ae (some 12) (.load 5 (.tmp 11)) ?_);refine bm 0 k (.int .u8 c) hm rfl rfl eP (HV.out) ?_)
    | ((with_reducible refine ae none (.store 5 (.tmp 15) (.tmp 14)) ?_);refine bj 0 k (.int .u8 (bits .xor .u8 c p)) hm rfl (rfl) rfl aQ (by rw [HLN.out];omega) rfl rfl ?_;clear hm;intro w3 hm))

   have hn:Mem w [] w3 [(g2,u8s (xorUpto b p (k+1)),108)]:=by
    rw [HS.out] at hm
    exact hm
   clear hm
   go_roundw
   case rel=>exact ⟨k+1,by omega,by go_num,hn⟩
   case measure=>simp [intOf];omega
  ·have hk64:k=64:=by omega
   subst hk64
   rw [xorUpto_full b p 64 (by rw [HL.out];omega)] at hm
   have hxl:(xorB b p).length=64:=by rw [eT,HL.out]
   have HXL:Hid _:=hxl
   clear hxl
   go_wp2_with (first
    | (go_at_call 204;refine (new_any _).mono ?_;rintro e w4 ⟨g,rfl,hge,hr,hb⟩;rw [new_row] at hr;have HGT:Hid _:=Nat.ne_of_lt (Nat.lt_of_lt_of_le (Tab.lt (Tab.mem HT.out hm (by simp))) hge);replace hm:=hm.callNew hb hr hge;clear hb hr hge)
    | (go_at_call 161;refine (gy g [] (xorB b p) _ lf HX.out (by have:=HXL.out;simp;omega) _ (Tab.mem HT.out hm (by simp)) HGT.out (hm.get 0 rfl) (sl_all (hm.get 1 rfl) (fun h=>hm.ne 0 rfl h.symm) HXL.out (Nat.le_refl _))).mono ?_;rintro e w5 ⟨rfl,hr,hu⟩;replace hm:=hm.upd 0 rfl hu hr;clear hr hu))

   go_ret
   have hf:=hm.fresh _ (List.mem_cons_self ..)
   exact ⟨g,rfl,by simpa using hf,hm.get 0 rfl,hm.below⟩
open Go Go.ChangeShapes Go.WideShapes Go.ChangeAt Go.RowKit
theorem fc:Tryz.prog.cellsOf 43=32:=by kernel_rfl
theorem open_bool1 {H:Type} {enc:TypeId×Value→H} {W:World} {base:Nat} {v:Value} {d:DataW H} {ps:List MemPlace} (hok:Value.okWide Tryz.prog W .any base 4 v) (h:DataW.Trod enc Tryz.prog W 0 (fun _=>true) true 4 v d ps):∃q:Bool,v=.bool q:=by
 obtain ⟨fuel,hf⟩:=h
 obtain ⟨q,h1,_⟩:=DataW.trod_bool Tryz.underlying4 hf
 simp only [Value.okWide,Tryz.underlying4,Cell.okWide] at hok
 cases v<;>simp_all [Cell.ok]
open Go Go.RowKit
def Word (x:Int):Prop:=0≤x∧x<4294967296
def rotl (x n:Int):Int:=bits .or .u32 (x * 2 ^ n.toNat % 4294967296) (x / 2 ^ (32 - n).toNat)
def quart (a b c d:Int):Int×Int×Int×Int :=
 let a1:=(a+b) % 4294967296
 let d1:=rotl (bits .xor .u32 d a1) 16
 let c1:=(c+d1) % 4294967296
 let b1:=rotl (bits .xor .u32 b c1) 12
 let a2:=(a+b+b1) % 4294967296
 let d2:=rotl (bits .xor .u32 d1 a2) 8
 let c2:=(c+d1+d2) % 4294967296
 let b2:=rotl (bits .xor .u32 b1 c2) 7
 (a2,b2,c2,d2)
theorem xor_twice8 {x y:Int} (hx:0≤x∧x<256) (hy:0≤y∧y<256):bits .xor .u8 (bits .xor .u8 x y) y=x:=by
 have hl:x.toNat ^^^ y.toNat<2 ^ 8:=Nat.xor_lt_two_pow (by omega) (by omega)
 rw [u8_xor x y hx.1 hx.2 hy.1 hy.2,u8_xor _ y (by omega) (by omega) hy.1 hy.2,Int.toNat_natCast,Nat.xor_assoc,Nat.xor_self,Nat.xor_zero]
 have:=hx.1
 omega
def qTab:List (List Nat):=[[0,4,8,12],[1,5,9,13],[2,6,10,14],[3,7,11,15],[0,5,10,15],[1,6,11,12],[2,7,8,13],[3,4,9,14]]
def qAt (n i:Nat):Nat:=(qTab.getD n []).getD i 0
def qFlat:List Int:=[0,4,8,12,1,5,9,13,2,6,10,14,3,7,11,15,0,5,10,15,1,6,11,12,2,7,8,13,3,4,9,14]
theorem qAt_lt:∀n:Fin 8,∀i:Fin 4,qAt n.val i.val<16:=by decide +kernel
def qset (ws:List Int) (i j k l:Nat):List Int :=
 (((ws.set i (quart (ws.getD i 0) (ws.getD j 0) (ws.getD k 0) (ws.getD l 0)).1).set j (quart (ws.getD i 0) (ws.getD j 0) (ws.getD k 0) (ws.getD l 0)).2.1).set k (quart (ws.getD i 0) (ws.getD j 0) (ws.getD k 0) (ws.getD l 0)).2.2.1).set l (quart (ws.getD i 0) (ws.getD j 0) (ws.getD k 0) (ws.getD l 0)).2.2.2
def qrounds (ws:List Int):Nat→List Int
 | 0=>ws
 | n+1=>qset (qrounds ws n) (qAt (n % 8) 0) (qAt (n % 8) 1) (qAt (n % 8) 2) (qAt (n % 8) 3)
theorem qset_length (ws:List Int) (i j k l:Nat):(qset ws i j k l).length=ws.length:=by simp [qset]
theorem cx (ws:List Int) (n:Nat):(qrounds ws n).length=ws.length:=by
 induction n with
 | zero=>rfl
 | succ n ih=>rw [qrounds,qset_length,ih]
def Words (l:List Int):Prop:=∀x∈l,Word x
theorem Words.get {l:List Int} (h:Words l) (j:Nat):Word (l.getD j 0):=by
 rcases Nat.lt_or_ge j l.length with hj|hj
 ·have:=h l[j] (List.getElem_mem hj)
  simpa [hj] using this
 ·simp [List.getElem?_eq_none hj,Word]
theorem Words.set {l:List Int} (h:Words l) (i:Nat) {x:Int} (hx:Word x):Words (l.set i x):=by
 intro y hy
 rcases List.mem_or_eq_of_mem_set hy with hy|rfl
 ·exact h y hy
 ·exact hx
def lit4 (a b c d:Int):Int:=bits .or .u32 (bits .or .u32 (bits .or .u32 (d * 16777216) (c * 65536)) (b * 256)) a
def lfour (x:Int):List Int:=[x % 256,x / 256 % 256,x / 65536 % 256,x / 16777216 % 256]
def litAt (b:List Int) (i:Nat):Int:=lit4 (b.getD (4 * i) 0) (b.getD (4 * i+1) 0) (b.getD (4 * i+2) 0) (b.getD (4 * i+3) 0)
def litWords (b:List Int):Nat→List Int
 | 0=>[]
 | n+1=>litWords b n++[litAt b n]
theorem cd (b:List Int) (n:Nat):(litWords b n).length=n:=by
 induction n with
 | zero=>rfl
 | succ n ih=>simp [litWords,ih]
def headWs:List Int:=[1634760805,857760878,2036477234,1797285236]
def firstOf (k nonce:List Int) (c:Int):List Int:=headWs++(litWords k 8++(c::litWords nonce 3))
theorem eo (k nonce:List Int) (c:Int):(firstOf k nonce c).length=16:=by simp [firstOf,headWs,cd]
def asL (ws:List Int):List Int:=ws.flatMap lfour
theorem fq (ws:List Int):(asL ws).length=4 * ws.length:=by
 induction ws with
 | nil=>rfl
 | cons x l ih=>simp [asL,lfour] at ih ⊢;omega
theorem lfour_bytes (x:Int):Bytes (lfour x):=by
 intro y hy
 simp only [lfour,List.mem_cons,List.not_mem_nil,or_false] at hy
 rcases hy with rfl|rfl|rfl|rfl<;>omega
theorem asL_bytes (ws:List Int):Bytes (asL ws):=by
 intro y hy
 obtain ⟨x,_,hx⟩:=List.mem_flatMap.1 hy
 exact lfour_bytes x y hx
def sumOf (ws vs:List Int):List Int:=List.zipWith (fun x y=>(x+y) % 4294967296) ws vs
def blockOf (k nonce:List Int) (c:Int):List Int:=asL (sumOf (qrounds (firstOf k nonce c) 80) (firstOf k nonce c))
theorem di (ws vs:List Int) (h:ws.length=vs.length):(sumOf ws vs).length=ws.length:=by simp [sumOf,h]
theorem eJ (k nonce:List Int) (c:Int):(blockOf k nonce c).length=64:=by
 rw [blockOf,fq,di _ _ (by rw [cx]),cx,eo]
theorem lD (k nonce:List Int) (c:Int):Bytes (blockOf k nonce c):=asL_bytes _
def sumUpto (ws vs:List Int) (i:Nat):List Int:=(sumOf ws vs).take i++ws.drop i
theorem sumUpto_zero (ws vs:List Int):sumUpto ws vs 0=ws:=by simp [sumUpto]
theorem f3 (ws vs:List Int) (h:ws.length=vs.length) (i:Nat):(sumUpto ws vs i).length=ws.length:=by
 simp [sumUpto,sumOf,h];omega
theorem sumUpto_full (ws vs:List Int) (h:ws.length=vs.length) (n:Nat) (hn:ws.length=n):sumUpto ws vs n=sumOf ws vs:=by
 unfold sumUpto
 rw [List.take_of_length_le (by rw [di _ _ h];omega),List.drop_of_length_le (by omega),List.append_nil]
theorem sumUpto_get (ws vs:List Int) (h:ws.length=vs.length) (i:Nat) (hi:i<ws.length):(sumUpto ws vs i).getD i 0=ws.getD i 0:=by
 have e:((sumOf ws vs).take i).length=i:=by rw [List.length_take,di _ _ h];omega
 unfold sumUpto
 rw [List.getD_eq_getElem?_getD,List.getElem?_append_right (by omega),e,Nat.sub_self,List.getElem?_drop]
 simp
theorem sumUpto_set (ws vs:List Int) (h:ws.length=vs.length) (i:Nat) (hi:i<ws.length):(sumUpto ws vs i).set i ((ws.getD i 0+vs.getD i 0) % 4294967296)=sumUpto ws vs (i+1):=by
 unfold sumUpto
 have hl:(sumOf ws vs).length=ws.length:=di _ _ h
 have e:((sumOf ws vs).take i).length=i:=by rw [List.length_take];omega
 rw [List.set_append_right _ _ (by omega),e,Nat.sub_self,List.drop_eq_getElem_cons hi,List.set_cons_zero,List.take_succ_eq_append_getElem (by omega)]
 simp [sumOf,hi,show i<vs.length by omega]
def lRow (ws:List Int) (i:Nat):List Int:=asL (ws.take i)++List.replicate (64 - 4 * i) 0
theorem lRow_length (ws:List Int) (h:ws.length=16) (i:Nat) (hi:i≤16):(lRow ws i).length=64:=by simp [lRow,fq,h];omega
theorem lRow_full (ws:List Int) (h:ws.length=16):lRow ws 16=asL ws:=by
 unfold lRow
 rw [List.take_of_length_le (by omega)]
 simp
theorem lRow_step (ws:List Int) (h:ws.length=16) (i:Nat) (hi:i<16):splice (lRow ws i) (4 * i) (lfour (ws.getD i 0))=lRow ws (i+1):=by
 have hl:(asL (ws.take i)).length=4 * i:=by rw [fq];simp;omega
 have h4:(lfour (ws.getD i 0)).length=4:=rfl
 have e1:(lRow ws i).take (4 * i)=asL (ws.take i):=by
  unfold lRow
  rw [List.take_append_of_le_length (by omega),List.take_of_length_le (by omega)]
 have e2:(lRow ws i).drop (4 * i+4)=List.replicate (64 - 4 * (i+1)) 0:=by
  unfold lRow
  rw [List.drop_append,List.drop_of_length_le (by omega),hl,List.nil_append,List.drop_replicate]
  congr 1
  omega
 have e3:asL (ws.take (i+1))=asL (ws.take i)++lfour (ws.getD i 0):=by
  have hg:ws.getD i 0=ws[i]'(by omega):=by simp [show i<ws.length by omega]
  unfold asL
  rw [List.take_succ_eq_append_getElem (by omega),List.flatMap_append,hg,List.flatMap_cons,List.flatMap_nil,List.append_nil]
 unfold splice
 rw [h4,e1,e2,lRow,e3,List.append_assoc]
def keyAt (k nonce:List Int) (c:Int) (i:Nat):Int:=(blockOf k nonce ((c+((i / 64:Nat):Int)) % 4294967296)).getD (i % 64) 0
theorem kf (k nonce:List Int) (c:Int) (i:Nat):0≤keyAt k nonce c i∧keyAt k nonce c i<256:=(lD _ _ _).get _
def xorUp (k nonce:List Int) (c:Int) (m:List Int) (n:Nat):List Int:=m.mapIdx fun i x=>if i<n then bits .xor .u8 x (keyAt k nonce c i) else x
def xorOf (k nonce:List Int) (c:Int) (m:List Int):List Int:=m.mapIdx fun i x=>bits .xor .u8 x (keyAt k nonce c i)
theorem eh (k nonce:List Int) (c:Int) (m:List Int) (n:Nat):(xorUp k nonce c m n).length=m.length:=by simp [xorUp]
theorem iG (k nonce:List Int) (c:Int) (m:List Int):(xorOf k nonce c m).length=m.length:=by simp [xorOf]
theorem xorUp_zero (k nonce:List Int) (c:Int) (m:List Int):xorUp k nonce c m 0=m:=by
 apply List.ext_getElem
 ·simp [xorUp]
 ·intro i h1 h2
  simp [xorUp]
theorem gQ (k nonce:List Int) (c:Int) (m:List Int) (n:Nat) (h:m.length≤n):xorUp k nonce c m n=xorOf k nonce c m:=by
 apply List.ext_getElem
 ·simp [xorUp,xorOf]
 ·intro i h1 h2
  have:i<n:=by rw [eh] at h1;omega
  simp [xorUp,xorOf,this]
theorem byte_xor {x p:Int} (hx:0≤x∧x<256) (hp:0≤p∧p<256):0≤bits .xor .u8 x p∧bits .xor .u8 x p<256:=by
 rw [u8_xor x p hx.1 hx.2 hp.1 hp.2]
 have:x.toNat ^^^ p.toNat<2 ^ 8:=Nat.xor_lt_two_pow (by omega) (by omega)
 omega
theorem xorOf_bytes (k nonce:List Int) (c:Int) {m:List Int} (h:Bytes m):Bytes (xorOf k nonce c m):=by
 intro y hy
 obtain ⟨i,hi,rfl⟩:=List.getElem_of_mem hy
 have hm:i<m.length:=by rwa [iG] at hi
 simp only [xorOf,List.getElem_mapIdx]
 exact byte_xor (h _ (List.getElem_mem hm)) (kf _ _ _ _)
def maskL (l:List Int) (off n:Nat) (b:List Int):List Int:=l.mapIdx fun i x=>if off≤i∧i<off+n then bits .xor .u8 x (b.getD (i - off) 0) else x
theorem fp (l:List Int) (off n:Nat) (b:List Int):(maskL l off n b).length=l.length:=by simp [maskL]
theorem maskL_zero (l:List Int) (off:Nat) (b:List Int):maskL l off 0 b=l:=by
 apply List.ext_getElem
 ·simp [maskL]
 ·intro i h1 h2
  have:¬(off≤i∧i<off):=by omega
  simp [maskL,this]
theorem maskL_get (l:List Int) (off n:Nat) (b:List Int) (h:off+n<l.length):(maskL l off n b).getD (off+n) 0=l.getD (off+n) 0:=by
 simp [maskL,h]
theorem maskL_step (l:List Int) (off n:Nat) (b:List Int) (h:off+n<l.length):(maskL l off n b).set (off+n) (bits .xor .u8 (l.getD (off+n) 0) (b.getD n 0))=maskL l off (n+1) b:=by
 apply List.ext_getElem
 ·simp [maskL]
 ·intro i h1 h2
  have hi:i<l.length:=by rwa [fp] at h2
  rw [List.getElem_set]
  by_cases he:off+n=i
  ·subst he
   have:off≤off+n∧off+n<off+(n+1):=by omega
   rw [if_pos rfl]
   simp only [maskL,List.getElem_mapIdx,if_pos this,show off+n - off=n by omega]
   simp [h]
  ·rw [if_neg he]
   simp only [maskL,List.getElem_mapIdx]
   by_cases h3:off≤i∧i<off+n
   ·rw [if_pos h3,if_pos (by omega)]
   ·rw [if_neg h3,if_neg (by omega)]
theorem j7 (k nonce:List Int) (c:Int) (m:List Int) (j n:Nat) (hn:n≤64) :
  maskL (xorUp k nonce c m (64 * j)) (64 * j) n (blockOf k nonce ((c+(j:Int)) % 4294967296))=xorUp k nonce c m (64 * j+n):=by
 apply List.ext_getElem
 ·simp [maskL,xorUp]
 ·intro i h1 h2
  have hi:i<m.length:=by rwa [eh] at h2
  simp only [maskL,xorUp,List.getElem_mapIdx]
  by_cases h3:i<64 * j
  ·rw [if_neg (by omega),if_pos h3,if_pos (by omega)]
  ·by_cases h4:i<64 * j+n
   ·rw [if_pos ⟨by omega,h4⟩,if_neg h3,if_pos h4]
    have hk:keyAt k nonce c i=(blockOf k nonce ((c+(j:Int)) % 4294967296)).getD (i - 64 * j) 0:=by
     unfold keyAt
     rw [show i / 64=j by omega,show i % 64=i - 64 * j by omega]
    rw [hk]
   ·rw [if_neg (by omega),if_neg h3,if_neg h4]
theorem xorOf_twice (k nonce:List Int) (c:Int) {m:List Int} (h:Bytes m):xorOf k nonce c (xorOf k nonce c m)=m:=by
 apply List.ext_getElem
 ·simp [xorOf]
 ·intro i h1 h2
  simp only [xorOf,List.getElem_mapIdx]
  exact xor_twice8 (h _ (List.getElem_mem h2)) (kf _ _ _ _)
def riseK:List Int:=[0,1,2,3,4,5,6,7,8,9,10,11,12,13,14,15,16,17,18,19,20,21,22,23,24,25,26,27,28,29,30,31]
def nonceN:List Int:=[0,0,0,9,0,0,0,74,0,0,0,0]
open Go Go.RowKit
def padZ (n:Nat):Nat:=(119 - n % 64) % 64
def padOf (m:List Int):List Int:=m++[128]++List.replicate (padZ m.length) 0++be8 (m.length * 8)
theorem bh (n:Int):(be8 n).length=8:=rfl
theorem padOf_length (m:List Int):(padOf m).length % 64=0:=by
 simp [padOf,bh,padZ]
 omega
theorem jN (m d:List Int) (h:m.length % 64+d.length=64):splice (restOf m) (m.length % 64) d=tailOf m++d:=by
 rw [fQ m d (by omega),h]
 simp
theorem rest_one (m:List Int):(restOf m).set (m.length % 64) 128=tailOf m++([128]++List.replicate (63 - m.length % 64) 0):=by
 have hl:=cJ m
 unfold restOf
 rw [List.set_append_right _ _ (by omega),hl,Nat.sub_self,show 64 - m.length % 64=(63 - m.length % 64)+1 by omega,List.replicate_succ,List.set_cons_zero]
 rfl
theorem pad_ws (m:List Int):wsOf (padOf m)=fin (wsOf m) (restOf m) m.length:=by
 have hl:=cJ m
 unfold fin
 split
 ·rename_i h56
  have ez:padZ m.length=(63 - m.length % 64)+56:=by unfold padZ;omega
  have hd1:m.length % 64+([128]++List.replicate (63 - m.length % 64) (0:Int)).length=64:=by simp;omega
  have ep:padOf m=(m++([128]++List.replicate (63 - m.length % 64) 0))++(List.replicate 56 0++be8 (m.length * 8)):=by
   unfold padOf
   rw [ez,←List.replicate_append_replicate]
   simp
  have h0:(m++([128]++List.replicate (63 - m.length % 64) (0:Int))).length % 64=0:=by
   rw [List.length_append];omega
  rw [ep,j2 _ (List.replicate 56 0++be8 (m.length * 8)) (by rw [h0];rfl),j2 m _ hd1,full_rest m _ hd1,h0,jN m _ hd1,rest_one]
  rfl
 ·rename_i h56
  have ez:padZ m.length=55 - m.length % 64:=by unfold padZ;omega
  have hd:m.length % 64+([128]++List.replicate (55 - m.length % 64) 0++be8 (m.length * 8)).length=64:=by simp [bh];omega
  have ep:padOf m=m++([128]++List.replicate (55 - m.length % 64) 0++be8 (m.length * 8)):=by
   unfold padOf
   rw [ez]
   simp
  rw [ep,j2 m _ hd,jN m _ hd,rest_one]
  congr 1
  unfold splice
  rw [bh,List.take_append,List.take_of_length_le (by omega),hl,List.drop_of_length_le (by simp [hl];omega),List.take_append,List.take_of_length_le (by simp;omega),List.take_replicate]
  simp
  omega
theorem shaOf_pad (m:List Int):shaOf m=asB (absorb (padOf m) ((padOf m).length / 64)):=by
 unfold shaOf
 rw [←pad_ws]
 rfl
def putN (x:Int):Nat→List Int
 | 0=>[]
 | k+1=>putN x k++[x / 2 ^ (8 * (7 - k)) % 256]
theorem putN_8 (x:Int):putN x 8=be8 x:=by
 simp only [putN,be8,List.nil_append,List.cons_append,List.cons.injEq,and_true]
 refine ⟨?_,?_,?_,?_,?_,?_,?_,?_⟩<;>omega
theorem putN_length (x:Int) (k:Nat):(putN x k).length=k:=by
 induction k with
 | zero=>rfl
 | succ k ih=>simp [putN,ih]
open Go Go.RowKit
def nonceOf (p g:Int):List Int:=be4 p++be8 g
theorem dm (p g:Int):(nonceOf p g).length=12:=rfl
theorem eZ (p g:Int):Bytes (nonceOf p g):=(jp p).append (dH g)
def labEnc:List Int:=[101,110,99]
def labMac:List Int:=[109,97,99]
def labWrap:List Int:=[119,114,97,112]
theorem bN:Bytes labWrap:=by unfold Bytes labWrap;decide
def encKey (k:List Int):List Int:=deriveOf k labEnc 0
def macKey (k:List Int):List Int:=deriveOf k labMac 0
def msgOf (n a c:List Int):List Int:=be8 (a.length:Int)++a++n++c
theorem msgOf_length (n a c:List Int):(msgOf n a c).length=8+a.length+n.length+c.length:=by simp [msgOf,bh];omega
theorem msgOf_bytes {n a c:List Int} (hn:Bytes n) (ha:Bytes a) (hc:Bytes c):Bytes (msgOf n a c):=(((dH _).append ha).append hn).append hc
def tagOf (k n a c:List Int):List Int:=(macOf (macKey k) (msgOf n a c)).take 16
theorem dn (k n a c:List Int):(tagOf k n a c).length=16:=by simp [tagOf,bZ]
theorem tagOf_bytes (k n a c:List Int):Bytes (tagOf k n a c):=(eN _ _).take _
def encOf (k n m:List Int):List Int:=xorOf (encKey k) n 1 m
theorem cC (k n m:List Int):(encOf k n m).length=m.length:=iG _ _ _ _
theorem fR (k n:List Int) {m:List Int} (h:Bytes m):Bytes (encOf k n m):=xorOf_bytes _ _ _ h
theorem encOf_twice (k n:List Int) {m:List Int} (h:Bytes m):encOf k n (encOf k n m)=m:=xorOf_twice _ _ _ h
def sealOf (k n a m:List Int):List Int:=encOf k n m++tagOf k n a (encOf k n m)
theorem gH (k n a m:List Int):(sealOf k n a m).length=m.length+16:=by rw [sealOf,List.length_append,cC,dn]
theorem sealOf_bytes (k n a:List Int) {m:List Int} (h:Bytes m):Bytes (sealOf k n a m):=(fR k n h).append (tagOf_bytes _ _ _ _)
theorem sealOf_take (k n a m:List Int):(sealOf k n a m).take m.length=encOf k n m:=by
 rw [sealOf,←cC k n m,List.take_left]
theorem sealOf_drop (k n a m:List Int):(sealOf k n a m).drop m.length=tagOf k n a (encOf k n m):=by
 rw [sealOf,←cC k n m,List.drop_left]
def fits (k n a b:List Int):Bool:=decide (b.drop (b.length - 16)=tagOf k n a (b.take (b.length - 16)))
def kOne:List Int:=0::2::List.replicate 30 0
def secret:List Int:=[115,101,99,114,101,116]
end Go.Proofs.YtlpnafdkhoimhaaGreatDoor
