import Derived.Test.YtlpnafdkhoimhaaGreatDoorQr27
set_option maxRecDepth 100000
set_option maxHeartbeats 4000000
namespace Go.Proofs.YtlpnafdkhoimhaaGreatDoor
open Go Go.RowKit Go.Maps
theorem getV_ok {t:Slt} (h:SltOk t) (i:Int) (kek:List Int):(getV t.held i kek).1.length=32∧Bytes (getV t.held i kek).1:=by
 have hz:zero32.length=32∧Bytes zero32:=⟨by decide,by unfold Bytes zero32;decide⟩
 unfold getV
 split
 ·split
  ·exact hz
  ·next x hx =>
   have he:=h.ent i.toNat x hx
   unfold unwV
   split
   ·exact ⟨by rw [cC,List.length_take,he.len];rfl,fR _ _ (fun b hb=>he.bytes b (List.mem_of_mem_take hb))⟩
   ·exact hz
 ·exact hz
def slN (p:Pls) (ks:List ByteArray) (k:Nat):Int:=(lkp p (ks.take (k+1))).getD 0
def kst (held:Nat→Option Ent) (sl:Nat→Int) (root:List Int):Nat→List Int
 | 0=>root
 | k+1=>(getV held (sl k) (kst held sl root k)).1
def kerr (held:Nat→Option Ent) (sl:Nat→Int) (root:List Int) (k:Nat):Int:=(getV held (sl k) (kst held sl root k)).2
def kRun (held:Nat→Option Ent) (sl:Nat→Int) (root:List Int) (n:Nat):Nat→List Int×Int
 | 0=>(kst held sl root n,0)
 | f+1=>if kerr held sl root (n - (f+1))=0 then kRun held sl root n f else (zero32,if kerr held sl root (n - (f+1))=50 then 120 else kerr held sl root (n - (f+1)))
def keyR (held:Nat→Option Ent) (p:Pls) (root:List Int) (ks:List ByteArray):List Int×Int:=kRun held (slN p ks) root ks.length ks.length
theorem kst_ok {t:Slt} (h:SltOk t) (sl:Nat→Int) {root:List Int} (hl:root.length=32) (hb:Bytes root):∀k,(kst t.held sl root k).length=32∧Bytes (kst t.held sl root k)
 | 0=>⟨hl,hb⟩
 | _+1=>getV_ok h _ _
theorem kRun_ok {t:Slt} (h:SltOk t) (sl:Nat→Int) {root:List Int} (hl:root.length=32) (hb:Bytes root) (n:Nat):∀f,(kRun t.held sl root n f).1.length=32∧Bytes (kRun t.held sl root n f).1
 | 0=>kst_ok h sl hl hb n
 | f+1=>by
  unfold kRun
  split
  ·exact kRun_ok h sl hl hb n f
  ·exact ⟨(show zero32.length=32 by decide),(show Bytes zero32 by unfold Bytes zero32;decide)⟩
theorem keyAt_r {w:World} {rb m c g mb:Nat} {kv:Value} {sb hb:Nat} {d:Dk} {t:Slt} {root:List Int} {p:Pls} (h:RgAt w rb m sb c root p) (hs:SlAt w g mb kv sb hb d t) (ht:Tab w) (hq:QTab w) {ks:List ByteArray} (hk:PlOk ks) (Z:List Int) (z:Int) (hz:keyR t.held p root ks=(Z,z)) :
  Calls Tryz.prog 35 #[.pointer (some ⟨rb,0,none⟩),.agg (plv ks).toArray] w fun e w'=>e=.returned (.tuple #[.agg (u8s Z).toArray,.int .i64 z])∧Below w.heap.size w w':=by
 have hm:=Mem.start w
 have HR:Hid (RgAt w rb m sb c root p):=h
 have HK:Hid (∀_:Unit,PlOk ks):=fun _=>hk
 obtain ⟨n,hn⟩:∃n,n=ks.length:=⟨_,rfl⟩
 have hn3:n≤3:=by rw [hn];exact hk.len
 have HD:Hid (∀W,Calls Tryz.prog 61 #[.agg (plv ks).toArray] W fun e w'=>e=.returned (.int .i64 (n:Int))∧Below W.heap.size W w'):=fun W=>iB hk n hn W
 have HGA:Hid (∀(i:Int) (kek:List Int),kek.length=32→Bytes kek→∀W,Below w.heap.size w W→Calls Tryz.prog 68 #[.pointer (some ⟨sb,0,none⟩),.int .i64 i,.agg (u8s kek).toArray] W fun e w'=>e=.returned (.tuple #[.agg (u8s (getV t.held i kek).1).toArray,.int .i64 (getV t.held i kek).2])∧Below W.heap.size W w'):=fun i kek h1 h2 W hW=>get_any g mb kv sb hb d t i kek h1 h2 W (Tab.mem ht ((Mem.start w).call hW) (by simp)) (QTab.mem hq ((Mem.start w).call hW) (by simp)) (hs.below hW)
 have HOK:Hid (∀k,(kst t.held (slN p ks) root k).length=32∧Bytes (kst t.held (slN p ks) root k)):=fun k=>kst_ok hs.ok (slN p ks) h.rl h.rB k
 have HZ:Hid (∀_:Unit,kRun t.held (slN p ks) root n (n - 0)=(Z,z)):=fun _=>by rw [hn];exact hz
 have HRL:Hid (∀_:Unit,root.length=32):=fun _=>h.rl
 clear h hs ht hq hk hn hz
 go_enter Tryz.func35,Tryz.ntmps35
 go_wp2_with (first
  | ((with_reducible refine ae (some 3) (.box 76 (.tmp 1)) ?_);refine az (plv ks) rfl hm ?_;clear hm;intro w1 g3 hm)
  | ((with_reducible refine ae (some 4) (.alloc 43) ?_);go_must (refine ag _ aD hm ?_);clear hm;intro w2 g4 hm)
  | ((with_reducible refine ae (some 13) (.load 43 (.tmp 12)) ?_);go_must (refine aj (.agg (u8s root).toArray) rfl (au 0 (u8s root) ((HR.out.below hm.below).row) rfl _ aw rfl 32 aq (by rw [rgC_len HR.out.rl];omega) (rgC_root HR.out.rl)) ?_))
  | ((with_reducible refine ae (some 6) (.alloc 43) ?_);go_must (refine ag _ aD hm ?_);clear hm;intro w3 g6 hm)
  | ((with_reducible refine ae none (.store 43 (.tmp 6) (.tmp 13)) ?_);go_must (refine ah 0 (u8s root) hm rfl rfl rfl 32 aq (by rw [aa];rfl) (by rw [aa,HRL.out ()]) (ai _) ?_);clear hm;intro w4 hm)
  | ((with_reducible refine ae (some 14) (.load 76 (.tmp 3)) ?_);refine av 2 hm rfl rfl _ aI rfl 3 ax (by rfl) ?_)
  | (go_at_call 61;refine (HD.out _).mono ?_;rintro e w' ⟨he,hb⟩;subst he;replace hm:=hm.call hb;clear hb))
 go_loopw [16] (fun vi wr=>∃k:Nat,k≤n∧vi=.int .i64 (k:Int)∧∃K,Hid (∀_:Unit,K=kst t.held (slN p ks) root k∧kRun t.held (slN p ks) root n (n - k)=(Z,z))∧Mem w [] wr [(g6,u8s K,43),(g4,u8s (List.replicate 32 0),43),(g3,plv ks,76)]) (fun vi _=>match vi with | .int _ k=>n - k.toNat|_=>0)
 case atStart=>exact ⟨0,by omega,rfl,root,fun _=>⟨rfl,HZ.out ()⟩,hm⟩
 case round =>
  clear hm
  obtain ⟨k,hk,rfl,K,HKZ,hm⟩:=hrel
  have HKL:Hid (∀_:Unit,K.length=32):=fun _=>by rw [(HKZ.out ()).1];exact (HOK.out k).1
  by_cases hlt:k<n
  ·have hki:(k:Int)<(n:Int):=by omega
   have hw:IntKind.i64.wrap ((k:Int)+1)=(k:Int)+1:=dt _ (by omega) (by omega)
   obtain ⟨si,hsi⟩:∃x,x=slN p ks k:=⟨_,rfl⟩
   obtain ⟨X,hX⟩:∃x,x=(getV t.held si K).1:=⟨_,rfl⟩
   obtain ⟨ee,hee⟩:∃x,x=(getV t.held si K).2:=⟨_,rfl⟩
   have HTK:Hid (∀_:Unit,PlOk (ks.take (k+1))):=fun _=>jX (HK.out ()) _
   have HSI:Hid (∀_:Unit,si=(lkp p (ks.take (k+1))).getD 0):=fun _=>hsi
   have HU:Hid (∀W,Calls Tryz.prog 60 #[.agg (plv ks).toArray,.int .i64 ((k:Int)+1)] W fun e w'=>e=.returned (.agg (plv (ks.take (k+1))).toArray)∧Below W.heap.size W w'):=fun W=>by have:=upTo_r ks (k+1) (by omega) W;simpa using this
   have HG:Hid (∀W,Below w.heap.size w W→Calls Tryz.prog 68 #[.pointer (some ⟨sb,0,none⟩),.int .i64 si,.agg (u8s K).toArray] W fun e w'=>e=.returned (.tuple #[.agg (u8s X).toArray,.int .i64 ee])∧Below W.heap.size W w'):=fun W hW=>by
    rw [hX,hee]
    exact HGA.out si K (HKL.out ()) (by rw [(HKZ.out ()).1];exact (HOK.out k).2) W hW
   have HXK:Hid (∀_:Unit,X=kst t.held (slN p ks) root (k+1)):=fun _=>by rw [hX,hsi,(HKZ.out ()).1];rfl
   have HXL:Hid (∀_:Unit,X.length=32):=fun _=>by rw [HXK.out ()];exact (HOK.out (k+1)).1
   have HER:Hid (∀_:Unit,ee=kerr t.held (slN p ks) root k):=fun _=>by rw [hee,hsi,(HKZ.out ()).1];rfl
   have HST:Hid (∀_:Unit,(if ee=0 then kRun t.held (slN p ks) root n (n - (k+1)) else (zero32,if ee=50 then 120 else ee))=(Z,z)):=fun _=>by
    rw [←(HKZ.out ()).2,show n - k=(n - (k+1))+1 by omega]
    rw [HER.out ()]
    conv=>rhs;unfold kRun
    rw [show n - (n - (k+1)+1)=k by omega]
   clear hsi hX hee
   by_cases h0:ee=0
   ·have HXN:Hid (∀_:Unit,X=kst t.held (slN p ks) root (k+1)∧kRun t.held (slN p ks) root n (n - (k+1))=(Z,z)):=fun _=>⟨HXK.out (),by have:=HST.out ();rw [if_pos h0] at this;exact this⟩
    subst h0
    go_wp2_with fail
    refine aA ?_
    refine aC (T:=fun W=>∃l,Mem w [] W (l++[(g6,u8s K,43),(g4,u8s (List.replicate 32 0),43),(g3,plv ks,76)])) (by kernel_rfl) hm ?_
    intro wc hbw hmw
    clear hm
    have hm:=hmw
    clear hbw hmw
    refine aT 0 (v:=.pointer (some ⟨rb,0,none⟩)) rfl (by kernel_rfl) rfl (fun W _=>by go_simp) ⟨[],hm⟩ ?_
    go_simp
    refine aT 1 (v:=.pointer (some ⟨rb,0,none⟩)) rfl (by kernel_rfl) rfl (fun W _=>by go_simp) ⟨[],hm⟩ ?_
    go_simp
    refine aT 2 (v:=.pointer (some ⟨rb,32,none⟩)) rfl (by kernel_rfl) rfl (fun W _=>by go_simp) ⟨[],hm⟩ ?_
    go_simp
    refine aT 3 (v:=.pointer (some ⟨sb,0,none⟩)) rfl (by kernel_rfl) rfl (fun W hW=>aK 32 (.pointer (some ⟨sb,0,none⟩)) (by obtain ⟨l,hW⟩:=hW;exact (HR.out.below hW.below).row) rfl iW (ek HR.out.rl)) ⟨[],hm⟩ ?_
    go_simp
    refine aT 4 (v:=.pointer (some ⟨rb,0,none⟩)) rfl (by kernel_rfl) rfl (fun W _=>by go_simp) ⟨[],hm⟩ ?_
    go_simp
    refine aT 5 (v:=.pointer (some ⟨rb,0,none⟩)) rfl (by kernel_rfl) rfl (fun W _=>by go_simp) ⟨[],hm⟩ ?_
    go_simp
    refine aT 6 (v:=.pointer (some ⟨rb,33,none⟩)) rfl (by kernel_rfl) rfl (fun W _=>by go_simp) ⟨[],hm⟩ ?_
    go_simp
    refine aT 7 (v:=.map (some m)) rfl (by kernel_rfl) rfl (fun W hW=>aK 33 (.map (some m)) (by obtain ⟨l,hW⟩:=hW;exact (HR.out.below hW.below).row) rfl dA (du HR.out.rl)) ⟨[],hm⟩ ?_
    go_simp
    refine aT 8 (v:=.agg (plv ks).toArray) rfl (by kernel_rfl) rfl (fun W hW=>by obtain ⟨l,hW⟩:=hW;exact au 0 (plv ks) (hW.row (g3,plv ks,76) (by simp)) rfl _ aI rfl 3 ax (Nat.le_refl 3) rfl) ⟨[],hm⟩ ?_
    go_simp
    refine aT 9 (v:=.int .i64 (k:Int)) rfl (by kernel_rfl) rfl (fun W _=>by go_simp) ⟨[],hm⟩ ?_
    go_simp
    refine aT 10 (v:=.int .i64 ((k:Int)+1)) rfl (by kernel_rfl) rfl (fun W _=>by go_simp<;>first|rfl|exact hw) ⟨[],hm⟩ ?_
    go_simp
    refine aT 13 (v:=.agg (u8s K).toArray) rfl (by kernel_rfl) rfl (fun W hW=>by obtain ⟨l,hW⟩:=hW;exact au 0 (u8s K) (hW.row (g6,u8s K,43) (by simp)) rfl _ aw rfl 32 aq (by rw [aa,HKL.out ()];omega) (by rw [List.drop_zero,List.take_of_length_le (by rw [aa,HKL.out ()];omega)])) ⟨[],hm⟩ ?_
    go_simp
    refine wpAnyH_all (rs:=[11,18]) (by kernel_rfl) (by simp) ?_
    intro i hi
    simp only [List.mem_cons,List.not_mem_nil,or_false] at hi
    rcases hi with rfl|rfl
    ·refine cw 11 rfl rfl ?_
     intro Kc hK
     go_wp2_with (go_at_call 60;refine (HU.out _).mono ?_;rintro e w' ⟨he,hb⟩;subst he;replace hm:=hm.call hb;clear hb)
     refine hK _ _ ⟨[],hm⟩ ?_
     clear hK Kc
     go_simp
     refine aT 12 (v:=.int .i64 si) rfl (by kernel_rfl) rfl (fun W hW=>by obtain ⟨l,hW⟩:=hW;exact bi ((HR.out.below hW.below).look1 (HTK.out ()) si (HSI.out ())) rfl rfl) ⟨[],hm⟩ ?_
     go_simp
     refine wpAnyH_all (rs:=[14,18]) (by kernel_rfl) (by simp) ?_
     intro i hi
     simp only [List.mem_cons,List.not_mem_nil,or_false] at hi
     rcases hi with rfl|rfl
     ·refine cw 14 rfl rfl ?_
      intro Kc hK
      go_wp2_with (go_at_call 68;refine (HG.out _ hm.below).mono ?_;rintro e w' ⟨he,hb⟩;subst he;replace hm:=hm.call hb;clear hb)
      refine hK _ _ ⟨[],hm⟩ ?_
      clear hK Kc
      go_simp
      refine aT 15 (v:=.tuple #[.agg (u8s X).toArray,.int .i64 0]) rfl (by kernel_rfl) rfl (fun W _=>by go_simp) ⟨[],hm⟩ ?_
      go_simp
      refine aT 16 (v:=.agg (u8s X).toArray) rfl (by kernel_rfl) rfl (fun W _=>by go_simp) ⟨[],hm⟩ ?_
      go_simp
      refine aT 17 (v:=.int .i64 0) rfl (by kernel_rfl) rfl (fun W _=>by go_simp) ⟨[],hm⟩ ?_
      go_simp
      refine aO 18 (by kernel_rfl) rfl rfl ?_
      intro K hK
      refine ag _ aD hm ?_
      clear hm
      intro w8 g8 hm
      refine wpList_nil ?_
      refine hK _ _ ⟨[(g8,_,_)],hm⟩ ?_
      clear hK K
      go_simp
      refine aO 19 (by kernel_rfl) rfl rfl ?_
      intro K hK
      refine ah 0 (u8s X) hm rfl rfl rfl 32 aq (by simp [aa]) (by rw [aa,HXL.out ()]) (ai _) ?_
      clear hm
      intro w9 hm
      refine wpList_nil ?_
      refine hK _ _ ⟨[(g8,_,_)],hm⟩ ?_
      clear hK K
      go_simp
      refine aT 20 (v:=.int .i64 0) rfl (by kernel_rfl) rfl (fun W _=>by go_simp) ⟨[(g8,_,_)],hm⟩ ?_
      go_simp
      refine wpAnyH_done (by kernel_rfl) ?_ _
      simp only [endsIn]
      go_wp2_with (first
       | ((with_reducible refine ae (some 42) (.load 43 (.tmp 8)) ?_);go_must (refine av 0 hm rfl rfl _ aw rfl 32 aq (by rw [aa,HXL.out ()]) ?_))
       | ((with_reducible refine ae none (.store 43 (.tmp 6) (.tmp 42)) ?_);go_must (refine ah 1 (u8s X) hm rfl rfl rfl 32 aq (by rw [aa,HKL.out ()]) (by rw [aa,HXL.out ()]) (ai _) ?_);clear hm;intro w10 hm))
      go_roundw
      case rel=>exact ⟨k+1,by omega,by go_num,X,HXN,hm.tail⟩
      case measure=>show n - ((k:Int)+1).toNat<n - (k:Int).toNat;omega
     ·refine cw 18 rfl rfl ?_
      intro Kc hK
      refine ag _ aD hm ?_
      clear hm
      intro w8 g8 hm
      refine wpList_nil ?_
      refine hK _ _ ⟨[(g8,_,_)],hm⟩ ?_
      clear hK Kc
      go_simp
      refine aO 14 (by kernel_rfl) rfl rfl ?_
      intro K hK
      go_wp2_with (go_at_call 68;refine (HG.out _ hm.below).mono ?_;rintro e w' ⟨he,hb⟩;subst he;replace hm:=hm.call hb;clear hb)
      refine hK _ _ ⟨[(g8,_,_)],hm⟩ ?_
      clear hK K
      go_simp
      refine aT 15 (v:=.tuple #[.agg (u8s X).toArray,.int .i64 0]) rfl (by kernel_rfl) rfl (fun W _=>by go_simp) ⟨[(g8,_,_)],hm⟩ ?_
      go_simp
      refine aT 16 (v:=.agg (u8s X).toArray) rfl (by kernel_rfl) rfl (fun W _=>by go_simp) ⟨[(g8,_,_)],hm⟩ ?_
      go_simp
      refine aT 17 (v:=.int .i64 0) rfl (by kernel_rfl) rfl (fun W _=>by go_simp) ⟨[(g8,_,_)],hm⟩ ?_
      go_simp
      refine aO 19 (by kernel_rfl) rfl rfl ?_
      intro K hK
      refine ah 0 (u8s X) hm rfl rfl rfl 32 aq (by simp [aa]) (by rw [aa,HXL.out ()]) (ai _) ?_
      clear hm
      intro w9 hm
      refine wpList_nil ?_
      refine hK _ _ ⟨[(g8,_,_)],hm⟩ ?_
      clear hK K
      go_simp
      refine aT 20 (v:=.int .i64 0) rfl (by kernel_rfl) rfl (fun W _=>by go_simp) ⟨[(g8,_,_)],hm⟩ ?_
      go_simp
      refine wpAnyH_done (by kernel_rfl) ?_ _
      simp only [endsIn]
      go_wp2_with (first
       | ((with_reducible refine ae (some 42) (.load 43 (.tmp 8)) ?_);go_must (refine av 0 hm rfl rfl _ aw rfl 32 aq (by rw [aa,HXL.out ()]) ?_))
       | ((with_reducible refine ae none (.store 43 (.tmp 6) (.tmp 42)) ?_);go_must (refine ah 1 (u8s X) hm rfl rfl rfl 32 aq (by rw [aa,HKL.out ()]) (by rw [aa,HXL.out ()]) (ai _) ?_);clear hm;intro w10 hm))
      go_roundw
      case rel=>exact ⟨k+1,by omega,by go_num,X,HXN,hm.tail⟩
      case measure=>show n - ((k:Int)+1).toNat<n - (k:Int).toNat;omega
    ·refine cw 18 rfl rfl ?_
     intro Kc hK
     refine ag _ aD hm ?_
     clear hm
     intro w8 g8 hm
     refine wpList_nil ?_
     refine hK _ _ ⟨[(g8,_,_)],hm⟩ ?_
     clear hK Kc
     go_simp
     refine aO 11 (by kernel_rfl) rfl rfl ?_
     intro K hK
     go_wp2_with (go_at_call 60;refine (HU.out _).mono ?_;rintro e w' ⟨he,hb⟩;subst he;replace hm:=hm.call hb;clear hb)
     refine hK _ _ ⟨[(g8,_,_)],hm⟩ ?_
     clear hK K
     go_simp
     refine aT 12 (v:=.int .i64 si) rfl (by kernel_rfl) rfl (fun W hW=>by obtain ⟨l,hW⟩:=hW;exact bi ((HR.out.below hW.below).look1 (HTK.out ()) si (HSI.out ())) rfl rfl) ⟨[(g8,_,_)],hm⟩ ?_
     go_simp
     refine aO 14 (by kernel_rfl) rfl rfl ?_
     intro K hK
     go_wp2_with (go_at_call 68;refine (HG.out _ hm.below).mono ?_;rintro e w' ⟨he,hb⟩;subst he;replace hm:=hm.call hb;clear hb)
     refine hK _ _ ⟨[(g8,_,_)],hm⟩ ?_
     clear hK K
     go_simp
     refine aT 15 (v:=.tuple #[.agg (u8s X).toArray,.int .i64 0]) rfl (by kernel_rfl) rfl (fun W _=>by go_simp) ⟨[(g8,_,_)],hm⟩ ?_
     go_simp
     refine aT 16 (v:=.agg (u8s X).toArray) rfl (by kernel_rfl) rfl (fun W _=>by go_simp) ⟨[(g8,_,_)],hm⟩ ?_
     go_simp
     refine aT 17 (v:=.int .i64 0) rfl (by kernel_rfl) rfl (fun W _=>by go_simp) ⟨[(g8,_,_)],hm⟩ ?_
     go_simp
     refine aO 19 (by kernel_rfl) rfl rfl ?_
     intro K hK
     refine ah 0 (u8s X) hm rfl rfl rfl 32 aq (by simp [aa]) (by rw [aa,HXL.out ()]) (ai _) ?_
     clear hm
     intro w9 hm
     refine wpList_nil ?_
     refine hK _ _ ⟨[(g8,_,_)],hm⟩ ?_
     clear hK K
     go_simp
     refine aT 20 (v:=.int .i64 0) rfl (by kernel_rfl) rfl (fun W _=>by go_simp) ⟨[(g8,_,_)],hm⟩ ?_
     go_simp
     refine wpAnyH_done (by kernel_rfl) ?_ _
     simp only [endsIn]
     go_wp2_with (first
      | ((with_reducible refine ae (some 42) (.load 43 (.tmp 8)) ?_);go_must (refine av 0 hm rfl rfl _ aw rfl 32 aq (by rw [aa,HXL.out ()]) ?_))
      | ((with_reducible refine ae none (.store 43 (.tmp 6) (.tmp 42)) ?_);go_must (refine ah 1 (u8s X) hm rfl rfl rfl 32 aq (by rw [aa,HKL.out ()]) (by rw [aa,HXL.out ()]) (ai _) ?_);clear hm;intro w10 hm))
     go_roundw
     case rel=>exact ⟨k+1,by omega,by go_num,X,HXN,hm.tail⟩
     case measure=>show n - ((k:Int)+1).toNat<n - (k:Int).toNat;omega
   ·by_cases h5:ee=50
    ·have HRE:Hid (∀_:Unit,Ending.returned (.tuple #[.agg (u8s (List.replicate 32 0)).toArray,.int .i64 120])=.returned (.tuple #[.agg (u8s Z).toArray,.int .i64 z])):=fun _=>by
      have:=HST.out ()
      rw [if_neg h0,if_pos h5,Prod.mk.injEq] at this
      rw [←this.1,←this.2];rfl
     subst h5
     go_wp2_with fail
     refine aA ?_
     refine aC (T:=fun W=>∃l,Mem w [] W (l++[(g6,u8s K,43),(g4,u8s (List.replicate 32 0),43),(g3,plv ks,76)])) (by kernel_rfl) hm ?_
     intro wc hbw hmw
     clear hm
     have hm:=hmw
     clear hbw hmw
     refine aT 0 (v:=.pointer (some ⟨rb,0,none⟩)) rfl (by kernel_rfl) rfl (fun W _=>by go_simp) ⟨[],hm⟩ ?_
     go_simp
     refine aT 1 (v:=.pointer (some ⟨rb,0,none⟩)) rfl (by kernel_rfl) rfl (fun W _=>by go_simp) ⟨[],hm⟩ ?_
     go_simp
     refine aT 2 (v:=.pointer (some ⟨rb,32,none⟩)) rfl (by kernel_rfl) rfl (fun W _=>by go_simp) ⟨[],hm⟩ ?_
     go_simp
     refine aT 3 (v:=.pointer (some ⟨sb,0,none⟩)) rfl (by kernel_rfl) rfl (fun W hW=>aK 32 (.pointer (some ⟨sb,0,none⟩)) (by obtain ⟨l,hW⟩:=hW;exact (HR.out.below hW.below).row) rfl iW (ek HR.out.rl)) ⟨[],hm⟩ ?_
     go_simp
     refine aT 4 (v:=.pointer (some ⟨rb,0,none⟩)) rfl (by kernel_rfl) rfl (fun W _=>by go_simp) ⟨[],hm⟩ ?_
     go_simp
     refine aT 5 (v:=.pointer (some ⟨rb,0,none⟩)) rfl (by kernel_rfl) rfl (fun W _=>by go_simp) ⟨[],hm⟩ ?_
     go_simp
     refine aT 6 (v:=.pointer (some ⟨rb,33,none⟩)) rfl (by kernel_rfl) rfl (fun W _=>by go_simp) ⟨[],hm⟩ ?_
     go_simp
     refine aT 7 (v:=.map (some m)) rfl (by kernel_rfl) rfl (fun W hW=>aK 33 (.map (some m)) (by obtain ⟨l,hW⟩:=hW;exact (HR.out.below hW.below).row) rfl dA (du HR.out.rl)) ⟨[],hm⟩ ?_
     go_simp
     refine aT 8 (v:=.agg (plv ks).toArray) rfl (by kernel_rfl) rfl (fun W hW=>by obtain ⟨l,hW⟩:=hW;exact au 0 (plv ks) (hW.row (g3,plv ks,76) (by simp)) rfl _ aI rfl 3 ax (Nat.le_refl 3) rfl) ⟨[],hm⟩ ?_
     go_simp
     refine aT 9 (v:=.int .i64 (k:Int)) rfl (by kernel_rfl) rfl (fun W _=>by go_simp) ⟨[],hm⟩ ?_
     go_simp
     refine aT 10 (v:=.int .i64 ((k:Int)+1)) rfl (by kernel_rfl) rfl (fun W _=>by go_simp<;>first|rfl|exact hw) ⟨[],hm⟩ ?_
     go_simp
     refine aT 13 (v:=.agg (u8s K).toArray) rfl (by kernel_rfl) rfl (fun W hW=>by obtain ⟨l,hW⟩:=hW;exact au 0 (u8s K) (hW.row (g6,u8s K,43) (by simp)) rfl _ aw rfl 32 aq (by rw [aa,HKL.out ()];omega) (by rw [List.drop_zero,List.take_of_length_le (by rw [aa,HKL.out ()];omega)])) ⟨[],hm⟩ ?_
     go_simp
     refine wpAnyH_all (rs:=[11,18]) (by kernel_rfl) (by simp) ?_
     intro i hi
     simp only [List.mem_cons,List.not_mem_nil,or_false] at hi
     rcases hi with rfl|rfl
     ·refine cw 11 rfl rfl ?_
      intro Kc hK
      go_wp2_with (go_at_call 60;refine (HU.out _).mono ?_;rintro e w' ⟨he,hb⟩;subst he;replace hm:=hm.call hb;clear hb)
      refine hK _ _ ⟨[],hm⟩ ?_
      clear hK Kc
      go_simp
      refine aT 12 (v:=.int .i64 si) rfl (by kernel_rfl) rfl (fun W hW=>by obtain ⟨l,hW⟩:=hW;exact bi ((HR.out.below hW.below).look1 (HTK.out ()) si (HSI.out ())) rfl rfl) ⟨[],hm⟩ ?_
      go_simp
      refine wpAnyH_all (rs:=[14,18]) (by kernel_rfl) (by simp) ?_
      intro i hi
      simp only [List.mem_cons,List.not_mem_nil,or_false] at hi
      rcases hi with rfl|rfl
      ·refine cw 14 rfl rfl ?_
       intro Kc hK
       go_wp2_with (go_at_call 68;refine (HG.out _ hm.below).mono ?_;rintro e w' ⟨he,hb⟩;subst he;replace hm:=hm.call hb;clear hb)
       refine hK _ _ ⟨[],hm⟩ ?_
       clear hK Kc
       go_simp
       refine aT 15 (v:=.tuple #[.agg (u8s X).toArray,.int .i64 50]) rfl (by kernel_rfl) rfl (fun W _=>by go_simp) ⟨[],hm⟩ ?_
       go_simp
       refine aT 16 (v:=.agg (u8s X).toArray) rfl (by kernel_rfl) rfl (fun W _=>by go_simp) ⟨[],hm⟩ ?_
       go_simp
       refine aT 17 (v:=.int .i64 50) rfl (by kernel_rfl) rfl (fun W _=>by go_simp) ⟨[],hm⟩ ?_
       go_simp
       refine aO 18 (by kernel_rfl) rfl rfl ?_
       intro K hK
       refine ag _ aD hm ?_
       clear hm
       intro w8 g8 hm
       refine wpList_nil ?_
       refine hK _ _ ⟨[(g8,_,_)],hm⟩ ?_
       clear hK K
       go_simp
       refine aO 19 (by kernel_rfl) rfl rfl ?_
       intro K hK
       refine ah 0 (u8s X) hm rfl rfl rfl 32 aq (by simp [aa]) (by rw [aa,HXL.out ()]) (ai _) ?_
       clear hm
       intro w9 hm
       refine wpList_nil ?_
       refine hK _ _ ⟨[(g8,_,_)],hm⟩ ?_
       clear hK K
       go_simp
       refine aT 20 (v:=.int .i64 50) rfl (by kernel_rfl) rfl (fun W _=>by go_simp) ⟨[(g8,_,_)],hm⟩ ?_
       go_simp
       refine wpAnyH_done (by kernel_rfl) ?_ _
       simp only [endsIn]
       go_wp2_with (first
        | ((with_reducible refine ae (some 45) (.build 43 #[]) ?_);go_must (refine ay (u8s (List.replicate 32 0)) [] rfl (by kernel_rfl) ?_))
        | ((with_reducible refine ae none (.store 43 (.tmp 4) (.tmp 45)) ?_);go_must (refine ah 2 (u8s (List.replicate 32 0)) hm rfl rfl rfl 32 aq (by rw [aa];rfl) (by rw [aa];rfl) (ai _) ?_);clear hm;intro w10 hm))
       refine br 2 (.int .i64 120) hm rfl Tryz.results35 rfl rfl _ aw rfl 32 aq (by rw [aa];rfl) rfl ?_
       exact ⟨HRE.out (),hm.below⟩
      ·refine cw 18 rfl rfl ?_
       intro Kc hK
       refine ag _ aD hm ?_
       clear hm
       intro w8 g8 hm
       refine wpList_nil ?_
       refine hK _ _ ⟨[(g8,_,_)],hm⟩ ?_
       clear hK Kc
       go_simp
       refine aO 14 (by kernel_rfl) rfl rfl ?_
       intro K hK
       go_wp2_with (go_at_call 68;refine (HG.out _ hm.below).mono ?_;rintro e w' ⟨he,hb⟩;subst he;replace hm:=hm.call hb;clear hb)
       refine hK _ _ ⟨[(g8,_,_)],hm⟩ ?_
       clear hK K
       go_simp
       refine aT 15 (v:=.tuple #[.agg (u8s X).toArray,.int .i64 50]) rfl (by kernel_rfl) rfl (fun W _=>by go_simp) ⟨[(g8,_,_)],hm⟩ ?_
       go_simp
       refine aT 16 (v:=.agg (u8s X).toArray) rfl (by kernel_rfl) rfl (fun W _=>by go_simp) ⟨[(g8,_,_)],hm⟩ ?_
       go_simp
       refine aT 17 (v:=.int .i64 50) rfl (by kernel_rfl) rfl (fun W _=>by go_simp) ⟨[(g8,_,_)],hm⟩ ?_
       go_simp
       refine aO 19 (by kernel_rfl) rfl rfl ?_
       intro K hK
       refine ah 0 (u8s X) hm rfl rfl rfl 32 aq (by simp [aa]) (by rw [aa,HXL.out ()]) (ai _) ?_
       clear hm
       intro w9 hm
       refine wpList_nil ?_
       refine hK _ _ ⟨[(g8,_,_)],hm⟩ ?_
       clear hK K
       go_simp
       refine aT 20 (v:=.int .i64 50) rfl (by kernel_rfl) rfl (fun W _=>by go_simp) ⟨[(g8,_,_)],hm⟩ ?_
       go_simp
       refine wpAnyH_done (by kernel_rfl) ?_ _
       simp only [endsIn]
       go_wp2_with (first
        | ((with_reducible refine ae (some 45) (.build 43 #[]) ?_);go_must (refine ay (u8s (List.replicate 32 0)) [] rfl (by kernel_rfl) ?_))
        | ((with_reducible refine ae none (.store 43 (.tmp 4) (.tmp 45)) ?_);go_must (refine ah 2 (u8s (List.replicate 32 0)) hm rfl rfl rfl 32 aq (by rw [aa];rfl) (by rw [aa];rfl) (ai _) ?_);clear hm;intro w10 hm))
       refine br 2 (.int .i64 120) hm rfl Tryz.results35 rfl rfl _ aw rfl 32 aq (by rw [aa];rfl) rfl ?_
       exact ⟨HRE.out (),hm.below⟩
     ·refine cw 18 rfl rfl ?_
      intro Kc hK
      refine ag _ aD hm ?_
      clear hm
      intro w8 g8 hm
      refine wpList_nil ?_
      refine hK _ _ ⟨[(g8,_,_)],hm⟩ ?_
      clear hK Kc
      go_simp
      refine aO 11 (by kernel_rfl) rfl rfl ?_
      intro K hK
      go_wp2_with (go_at_call 60;refine (HU.out _).mono ?_;rintro e w' ⟨he,hb⟩;subst he;replace hm:=hm.call hb;clear hb)
      refine hK _ _ ⟨[(g8,_,_)],hm⟩ ?_
      clear hK K
      go_simp
      refine aT 12 (v:=.int .i64 si) rfl (by kernel_rfl) rfl (fun W hW=>by obtain ⟨l,hW⟩:=hW;exact bi ((HR.out.below hW.below).look1 (HTK.out ()) si (HSI.out ())) rfl rfl) ⟨[(g8,_,_)],hm⟩ ?_
      go_simp
      refine aO 14 (by kernel_rfl) rfl rfl ?_
      intro K hK
      go_wp2_with (go_at_call 68;refine (HG.out _ hm.below).mono ?_;rintro e w' ⟨he,hb⟩;subst he;replace hm:=hm.call hb;clear hb)
      refine hK _ _ ⟨[(g8,_,_)],hm⟩ ?_
      clear hK K
      go_simp
      refine aT 15 (v:=.tuple #[.agg (u8s X).toArray,.int .i64 50]) rfl (by kernel_rfl) rfl (fun W _=>by go_simp) ⟨[(g8,_,_)],hm⟩ ?_
      go_simp
      refine aT 16 (v:=.agg (u8s X).toArray) rfl (by kernel_rfl) rfl (fun W _=>by go_simp) ⟨[(g8,_,_)],hm⟩ ?_
      go_simp
      refine aT 17 (v:=.int .i64 50) rfl (by kernel_rfl) rfl (fun W _=>by go_simp) ⟨[(g8,_,_)],hm⟩ ?_
      go_simp
      refine aO 19 (by kernel_rfl) rfl rfl ?_
      intro K hK
      refine ah 0 (u8s X) hm rfl rfl rfl 32 aq (by simp [aa]) (by rw [aa,HXL.out ()]) (ai _) ?_
      clear hm
      intro w9 hm
      refine wpList_nil ?_
      refine hK _ _ ⟨[(g8,_,_)],hm⟩ ?_
      clear hK K
      go_simp
      refine aT 20 (v:=.int .i64 50) rfl (by kernel_rfl) rfl (fun W _=>by go_simp) ⟨[(g8,_,_)],hm⟩ ?_
      go_simp
      refine wpAnyH_done (by kernel_rfl) ?_ _
      simp only [endsIn]
      go_wp2_with (first
       | ((with_reducible refine ae (some 45) (.build 43 #[]) ?_);go_must (refine ay (u8s (List.replicate 32 0)) [] rfl (by kernel_rfl) ?_))
       | ((with_reducible refine ae none (.store 43 (.tmp 4) (.tmp 45)) ?_);go_must (refine ah 2 (u8s (List.replicate 32 0)) hm rfl rfl rfl 32 aq (by rw [aa];rfl) (by rw [aa];rfl) (ai _) ?_);clear hm;intro w10 hm))
      refine br 2 (.int .i64 120) hm rfl Tryz.results35 rfl rfl _ aw rfl 32 aq (by rw [aa];rfl) rfl ?_
      exact ⟨HRE.out (),hm.below⟩
    ·have hne:(ee==0)=false:=by simpa using h0
     have hne5:(ee==50)=false:=by simpa using h5
     have HRE:Hid (∀_:Unit,Ending.returned (.tuple #[.agg (u8s (List.replicate 32 0)).toArray,.int .i64 ee])=.returned (.tuple #[.agg (u8s Z).toArray,.int .i64 z])):=fun _=>by
      have:=HST.out ()
      rw [if_neg h0,if_neg h5,Prod.mk.injEq] at this
      rw [←this.1,←this.2];rfl
     go_wp2_with fail
     refine aA ?_
     refine aC (T:=fun W=>∃l,Mem w [] W (l++[(g6,u8s K,43),(g4,u8s (List.replicate 32 0),43),(g3,plv ks,76)])) (by kernel_rfl) hm ?_
     intro wc hbw hmw
     clear hm
     have hm:=hmw
     clear hbw hmw
     refine aT 0 (v:=.pointer (some ⟨rb,0,none⟩)) rfl (by kernel_rfl) rfl (fun W _=>by go_simp) ⟨[],hm⟩ ?_
     go_simp
     refine aT 1 (v:=.pointer (some ⟨rb,0,none⟩)) rfl (by kernel_rfl) rfl (fun W _=>by go_simp) ⟨[],hm⟩ ?_
     go_simp
     refine aT 2 (v:=.pointer (some ⟨rb,32,none⟩)) rfl (by kernel_rfl) rfl (fun W _=>by go_simp) ⟨[],hm⟩ ?_
     go_simp
     refine aT 3 (v:=.pointer (some ⟨sb,0,none⟩)) rfl (by kernel_rfl) rfl (fun W hW=>aK 32 (.pointer (some ⟨sb,0,none⟩)) (by obtain ⟨l,hW⟩:=hW;exact (HR.out.below hW.below).row) rfl iW (ek HR.out.rl)) ⟨[],hm⟩ ?_
     go_simp
     refine aT 4 (v:=.pointer (some ⟨rb,0,none⟩)) rfl (by kernel_rfl) rfl (fun W _=>by go_simp) ⟨[],hm⟩ ?_
     go_simp
     refine aT 5 (v:=.pointer (some ⟨rb,0,none⟩)) rfl (by kernel_rfl) rfl (fun W _=>by go_simp) ⟨[],hm⟩ ?_
     go_simp
     refine aT 6 (v:=.pointer (some ⟨rb,33,none⟩)) rfl (by kernel_rfl) rfl (fun W _=>by go_simp) ⟨[],hm⟩ ?_
     go_simp
     refine aT 7 (v:=.map (some m)) rfl (by kernel_rfl) rfl (fun W hW=>aK 33 (.map (some m)) (by obtain ⟨l,hW⟩:=hW;exact (HR.out.below hW.below).row) rfl dA (du HR.out.rl)) ⟨[],hm⟩ ?_
     go_simp
     refine aT 8 (v:=.agg (plv ks).toArray) rfl (by kernel_rfl) rfl (fun W hW=>by obtain ⟨l,hW⟩:=hW;exact au 0 (plv ks) (hW.row (g3,plv ks,76) (by simp)) rfl _ aI rfl 3 ax (Nat.le_refl 3) rfl) ⟨[],hm⟩ ?_
     go_simp
     refine aT 9 (v:=.int .i64 (k:Int)) rfl (by kernel_rfl) rfl (fun W _=>by go_simp) ⟨[],hm⟩ ?_
     go_simp
     refine aT 10 (v:=.int .i64 ((k:Int)+1)) rfl (by kernel_rfl) rfl (fun W _=>by go_simp<;>first|rfl|exact hw) ⟨[],hm⟩ ?_
     go_simp
     refine aT 13 (v:=.agg (u8s K).toArray) rfl (by kernel_rfl) rfl (fun W hW=>by obtain ⟨l,hW⟩:=hW;exact au 0 (u8s K) (hW.row (g6,u8s K,43) (by simp)) rfl _ aw rfl 32 aq (by rw [aa,HKL.out ()];omega) (by rw [List.drop_zero,List.take_of_length_le (by rw [aa,HKL.out ()];omega)])) ⟨[],hm⟩ ?_
     go_simp
     refine wpAnyH_all (rs:=[11,18]) (by kernel_rfl) (by simp) ?_
     intro i hi
     simp only [List.mem_cons,List.not_mem_nil,or_false] at hi
     rcases hi with rfl|rfl
     ·refine cw 11 rfl rfl ?_
      intro Kc hK
      go_wp2_with (go_at_call 60;refine (HU.out _).mono ?_;rintro e w' ⟨he,hb⟩;subst he;replace hm:=hm.call hb;clear hb)
      refine hK _ _ ⟨[],hm⟩ ?_
      clear hK Kc
      go_simp
      refine aT 12 (v:=.int .i64 si) rfl (by kernel_rfl) rfl (fun W hW=>by obtain ⟨l,hW⟩:=hW;exact bi ((HR.out.below hW.below).look1 (HTK.out ()) si (HSI.out ())) rfl rfl) ⟨[],hm⟩ ?_
      go_simp
      refine wpAnyH_all (rs:=[14,18]) (by kernel_rfl) (by simp) ?_
      intro i hi
      simp only [List.mem_cons,List.not_mem_nil,or_false] at hi
      rcases hi with rfl|rfl
      ·refine cw 14 rfl rfl ?_
       intro Kc hK
       go_wp2_with (go_at_call 68;refine (HG.out _ hm.below).mono ?_;rintro e w' ⟨he,hb⟩;subst he;replace hm:=hm.call hb;clear hb)
       refine hK _ _ ⟨[],hm⟩ ?_
       clear hK Kc
       go_simp
       refine aT 15 (v:=.tuple #[.agg (u8s X).toArray,.int .i64 ee]) rfl (by kernel_rfl) rfl (fun W _=>by go_simp) ⟨[],hm⟩ ?_
       go_simp
       refine aT 16 (v:=.agg (u8s X).toArray) rfl (by kernel_rfl) rfl (fun W _=>by go_simp) ⟨[],hm⟩ ?_
       go_simp
       refine aT 17 (v:=.int .i64 ee) rfl (by kernel_rfl) rfl (fun W _=>by go_simp) ⟨[],hm⟩ ?_
       go_simp
       refine aO 18 (by kernel_rfl) rfl rfl ?_
       intro K hK
       refine ag _ aD hm ?_
       clear hm
       intro w8 g8 hm
       refine wpList_nil ?_
       refine hK _ _ ⟨[(g8,_,_)],hm⟩ ?_
       clear hK K
       go_simp
       refine aO 19 (by kernel_rfl) rfl rfl ?_
       intro K hK
       refine ah 0 (u8s X) hm rfl rfl rfl 32 aq (by simp [aa]) (by rw [aa,HXL.out ()]) (ai _) ?_
       clear hm
       intro w9 hm
       refine wpList_nil ?_
       refine hK _ _ ⟨[(g8,_,_)],hm⟩ ?_
       clear hK K
       go_simp
       refine aT 20 (v:=.int .i64 ee) rfl (by kernel_rfl) rfl (fun W _=>by go_simp) ⟨[(g8,_,_)],hm⟩ ?_
       go_simp
       refine wpAnyH_done (by kernel_rfl) ?_ _
       simp only [endsIn]
       go_wp2_with (first
        | ((with_reducible refine ae (some 38) (.build 43 #[]) ?_);go_must (refine ay (u8s (List.replicate 32 0)) [] rfl (by kernel_rfl) ?_))
        | ((with_reducible refine ae none (.store 43 (.tmp 4) (.tmp 38)) ?_);go_must (refine ah 2 (u8s (List.replicate 32 0)) hm rfl rfl rfl 32 aq (by rw [aa];rfl) (by rw [aa];rfl) (ai _) ?_);clear hm;intro w10 hm))
       refine br 2 (.int .i64 ee) hm rfl Tryz.results35 rfl rfl _ aw rfl 32 aq (by rw [aa];rfl) rfl ?_
       exact ⟨HRE.out (),hm.below⟩
      ·refine cw 18 rfl rfl ?_
       intro Kc hK
       refine ag _ aD hm ?_
       clear hm
       intro w8 g8 hm
       refine wpList_nil ?_
       refine hK _ _ ⟨[(g8,_,_)],hm⟩ ?_
       clear hK Kc
       go_simp
       refine aO 14 (by kernel_rfl) rfl rfl ?_
       intro K hK
       go_wp2_with (go_at_call 68;refine (HG.out _ hm.below).mono ?_;rintro e w' ⟨he,hb⟩;subst he;replace hm:=hm.call hb;clear hb)
       refine hK _ _ ⟨[(g8,_,_)],hm⟩ ?_
       clear hK K
       go_simp
       refine aT 15 (v:=.tuple #[.agg (u8s X).toArray,.int .i64 ee]) rfl (by kernel_rfl) rfl (fun W _=>by go_simp) ⟨[(g8,_,_)],hm⟩ ?_
       go_simp
       refine aT 16 (v:=.agg (u8s X).toArray) rfl (by kernel_rfl) rfl (fun W _=>by go_simp) ⟨[(g8,_,_)],hm⟩ ?_
       go_simp
       refine aT 17 (v:=.int .i64 ee) rfl (by kernel_rfl) rfl (fun W _=>by go_simp) ⟨[(g8,_,_)],hm⟩ ?_
       go_simp
       refine aO 19 (by kernel_rfl) rfl rfl ?_
       intro K hK
       refine ah 0 (u8s X) hm rfl rfl rfl 32 aq (by simp [aa]) (by rw [aa,HXL.out ()]) (ai _) ?_
       clear hm
       intro w9 hm
       refine wpList_nil ?_
       refine hK _ _ ⟨[(g8,_,_)],hm⟩ ?_
       clear hK K
       go_simp
       refine aT 20 (v:=.int .i64 ee) rfl (by kernel_rfl) rfl (fun W _=>by go_simp) ⟨[(g8,_,_)],hm⟩ ?_
       go_simp
       refine wpAnyH_done (by kernel_rfl) ?_ _
       simp only [endsIn]
       go_wp2_with (first
        | ((with_reducible refine ae (some 38) (.build 43 #[]) ?_);go_must (refine ay (u8s (List.replicate 32 0)) [] rfl (by kernel_rfl) ?_))
        | ((with_reducible refine ae none (.store 43 (.tmp 4) (.tmp 38)) ?_);go_must (refine ah 2 (u8s (List.replicate 32 0)) hm rfl rfl rfl 32 aq (by rw [aa];rfl) (by rw [aa];rfl) (ai _) ?_);clear hm;intro w10 hm))
       refine br 2 (.int .i64 ee) hm rfl Tryz.results35 rfl rfl _ aw rfl 32 aq (by rw [aa];rfl) rfl ?_
       exact ⟨HRE.out (),hm.below⟩
     ·refine cw 18 rfl rfl ?_
      intro Kc hK
      refine ag _ aD hm ?_
      clear hm
      intro w8 g8 hm
      refine wpList_nil ?_
      refine hK _ _ ⟨[(g8,_,_)],hm⟩ ?_
      clear hK Kc
      go_simp
      refine aO 11 (by kernel_rfl) rfl rfl ?_
      intro K hK
      go_wp2_with (go_at_call 60;refine (HU.out _).mono ?_;rintro e w' ⟨he,hb⟩;subst he;replace hm:=hm.call hb;clear hb)
      refine hK _ _ ⟨[(g8,_,_)],hm⟩ ?_
      clear hK K
      go_simp
      refine aT 12 (v:=.int .i64 si) rfl (by kernel_rfl) rfl (fun W hW=>by obtain ⟨l,hW⟩:=hW;exact bi ((HR.out.below hW.below).look1 (HTK.out ()) si (HSI.out ())) rfl rfl) ⟨[(g8,_,_)],hm⟩ ?_
      go_simp
      refine aO 14 (by kernel_rfl) rfl rfl ?_
      intro K hK
      go_wp2_with (go_at_call 68;refine (HG.out _ hm.below).mono ?_;rintro e w' ⟨he,hb⟩;subst he;replace hm:=hm.call hb;clear hb)
      refine hK _ _ ⟨[(g8,_,_)],hm⟩ ?_
      clear hK K
      go_simp
      refine aT 15 (v:=.tuple #[.agg (u8s X).toArray,.int .i64 ee]) rfl (by kernel_rfl) rfl (fun W _=>by go_simp) ⟨[(g8,_,_)],hm⟩ ?_
      go_simp
      refine aT 16 (v:=.agg (u8s X).toArray) rfl (by kernel_rfl) rfl (fun W _=>by go_simp) ⟨[(g8,_,_)],hm⟩ ?_
      go_simp
      refine aT 17 (v:=.int .i64 ee) rfl (by kernel_rfl) rfl (fun W _=>by go_simp) ⟨[(g8,_,_)],hm⟩ ?_
      go_simp
      refine aO 19 (by kernel_rfl) rfl rfl ?_
      intro K hK
      refine ah 0 (u8s X) hm rfl rfl rfl 32 aq (by simp [aa]) (by rw [aa,HXL.out ()]) (ai _) ?_
      clear hm
      intro w9 hm
      refine wpList_nil ?_
      refine hK _ _ ⟨[(g8,_,_)],hm⟩ ?_
      clear hK K
      go_simp
      refine aT 20 (v:=.int .i64 ee) rfl (by kernel_rfl) rfl (fun W _=>by go_simp) ⟨[(g8,_,_)],hm⟩ ?_
      go_simp
      refine wpAnyH_done (by kernel_rfl) ?_ _
      simp only [endsIn]
      go_wp2_with (first
       | ((with_reducible refine ae (some 38) (.build 43 #[]) ?_);go_must (refine ay (u8s (List.replicate 32 0)) [] rfl (by kernel_rfl) ?_))
       | ((with_reducible refine ae none (.store 43 (.tmp 4) (.tmp 38)) ?_);go_must (refine ah 2 (u8s (List.replicate 32 0)) hm rfl rfl rfl 32 aq (by rw [aa];rfl) (by rw [aa];rfl) (ai _) ?_);clear hm;intro w10 hm))
      refine br 2 (.int .i64 ee) hm rfl Tryz.results35 rfl rfl _ aw rfl 32 aq (by rw [aa];rfl) rfl ?_
      exact ⟨HRE.out (),hm.below⟩
  ·have hkn:k=n:=by omega
   subst hkn
   have HE:Hid (∀_:Unit,Ending.returned (.tuple #[.agg (u8s K).toArray,.int .i64 0])=.returned (.tuple #[.agg (u8s Z).toArray,.int .i64 z])):=fun _=>by
    have h1:=HKZ.out ()
    have h2:=h1.2
    rw [Nat.sub_self] at h2
    unfold kRun at h2
    rw [←h1.1,Prod.mk.injEq] at h2
    rw [h2.1,h2.2]
   go_wp2_with (first
    | ((with_reducible refine ae (some 47) (.load 43 (.tmp 6)) ?_);go_must (refine av 0 hm rfl rfl _ aw rfl 32 aq (by rw [aa,HKL.out ()]) ?_))
    | ((with_reducible refine ae none (.store 43 (.tmp 4) (.tmp 47)) ?_);go_must (refine ah 1 (u8s K) hm rfl rfl rfl 32 aq (by rw [aa];rfl) (by rw [aa,HKL.out ()]) (ai _) ?_);clear hm;intro w10 hm))
   refine br 1 (.int .i64 0) hm rfl Tryz.results35 rfl rfl _ aw rfl 32 aq (by rw [aa,HKL.out ()]) rfl ?_
   exact ⟨HE.out (),hm.below⟩
end Go.Proofs.YtlpnafdkhoimhaaGreatDoor
