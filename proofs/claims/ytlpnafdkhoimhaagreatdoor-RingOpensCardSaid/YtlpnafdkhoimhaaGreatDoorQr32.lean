import Derived.Test.YtlpnafdkhoimhaaGreatDoorQr30
import Derived.Test.YtlpnafdkhoimhaaGreatDoorQr31
set_option maxRecDepth 100000
set_option maxHeartbeats 4000000
namespace Go.Proofs.YtlpnafdkhoimhaaGreatDoor
open Go Go.RowKit Go.Sort Go.Maps
def keyV (held:Nat→Option Ent) (p:Pls) (root:List Int) (ok:Bool) (ks:List ByteArray):List Int×Int:=if ok=false then (zero32,110) else if hasB p ks=false then (zero32,100) else keyR held p root ks
section
variable {P:Program} {a:Act} {w:World} {dst:Option Tmp} {typ:TypeId} {pos:String} {aft:Array Edge} {gd:Option (Nat×Bool)}
theorem exec_addS {t:TypeId} {x y:Operand} {rt:TypeId} (s s' r:ByteArray) (hr:r=s++s') (hx:a.eval x=.string s) (hy:a.eval y=.string s') (hl:s.size+s'.size≤1000000000) :
  (execOp a.eval {dst:=dst,op:=.binOp .add t x y rt,type:=typ,pos:=pos,after:=aft,guard:=gd}).run P w=.ok (.value (.string r)) w:=by
 subst hr
 unfold execOp
 simp only [hx,hy]
 simp [eqGuard,binOp,Op.stringOp]
 omega
end
theorem key_r {w:World} {rb m sb c:Nat} {root:List Int} {p:Pls} (h:RgAt w rb m sb c root p) {g mb:Nat} {kv:Value} {hb:Nat} {d:Dk} {t:Slt} (hsl:SlAt w g mb kv sb hb d t) (ht:Tab w) (hq:QTab w) (s:ByteArray) (hs:s.size≤1000) (hM:MaxL w) (ks:List ByteArray) (hks:ks=segsB s) (Z:List Int) (z:Int) (hz:keyV t.held p root (isP (bs s)) ks=(Z,z)) :
  Calls Tryz.prog 12 #[.pointer (some ⟨rb,0,none⟩),.string s] w fun e w'=>e=.returned (.tuple #[.agg (u8s Z).toArray,.int .i64 z])∧Below w.heap.size w w':=by
 have hm:=Mem.start w
 have HR:Hid (RgAt w rb m sb c root p):=h
 have HM:Hid (MaxL w):=hM
 have hk:PlOk ks:=by rw [hks];exact cX s
 obtain ⟨b0,hb0⟩:∃b,b=isP (bs s):=⟨_,rfl⟩
 obtain ⟨b2,hb2⟩:∃b,b=hasB p ks:=⟨_,rfl⟩
 have HPL:Hid (∀W,MaxL W→Calls Tryz.prog 33 #[.string s] W fun e w'=>e=.returned (.tuple #[.agg (plv ks).toArray,.bool b0])∧Below W.heap.size W w'):=fun W hW=>by rw [hks,hb0];exact jh s W hs hW
 have HH:Hid (∀W,Below w.heap.size w W→Calls Tryz.prog 34 #[.pointer (some ⟨rb,0,none⟩),.agg (plv ks).toArray] W fun e w'=>e=.returned (.bool b2)∧Below W.heap.size W w'):=fun W hW=>has_r (HR.out.below hW) hk b2 hb2
 have HKA:Hid (∀W (Z':List Int) (z':Int),keyR t.held p root ks=(Z',z')→Below w.heap.size w W→Calls Tryz.prog 35 #[.pointer (some ⟨rb,0,none⟩),.agg (plv ks).toArray] W fun e w'=>e=.returned (.tuple #[.agg (u8s Z').toArray,.int .i64 z'])∧Below W.heap.size W w'):=fun W Z' z' hz' hW=>keyAt_r (HR.out.below hW) (hsl.below hW) (Tab.mem ht ((Mem.start w).call hW) (by simp)) (QTab.mem hq ((Mem.start w).call hW) (by simp)) hk Z' z' hz'
 have HZ:Hid (∀_:Unit,(if b0=false then (zero32,110) else if b2=false then (zero32,100) else keyR t.held p root ks)=(Z,z)):=fun _=>by rw [hb0,hb2];exact hz
 have HZL:Hid (∀_:Unit,keyR t.held p root ks=(Z,z)→Z.length=32):=fun _ hr=>by have:=(kRun_ok hsl.ok (slN p ks) h.rl h.rB ks.length ks.length).1;rw [show kRun t.held (slN p ks) root ks.length ks.length=(Z,z) from hr] at this;exact this
 clear h hsl ht hq hM hks hz hk hb0 hb2 hs
 cases b0 with
 | false =>
  have HE:Hid (∀_:Unit,Ending.returned (.tuple #[.agg (u8s (List.replicate 32 0)).toArray,.int .i64 110])=.returned (.tuple #[.agg (u8s Z).toArray,.int .i64 z])):=fun _=>by
   have h1:=HZ.out ()
   rw [if_pos rfl] at h1
   rw [Prod.mk.injEq] at h1
   rw [←h1.1,←h1.2];rfl
  go_enter Tryz.func12,Tryz.ntmps12
  go_wp2_with (first
   | ((with_reducible refine ae (some 4) (.alloc 43) ?_);go_must (refine ag _ aD hm ?_);clear hm;intro w1 g4 hm)
   | (go_at_call 33;refine (HPL.out _ (HM.out.below hm.below)).mono ?_;rintro e w' ⟨he,hb⟩;subst he;replace hm:=hm.call hb;clear hb)
   | ((with_reducible refine ae (some 6) (.alloc 76) ?_);refine ag _ aR hm ?_;clear hm;intro w2 g6 hm)
   | ((with_reducible refine ae none (.store 76 (.tmp 6) (.tmp 11)) ?_);refine ah 0 (plv ks) hm rfl rfl rfl 3 ax rfl rfl (aB _) ?_;clear hm;intro w3 hm)
   | ((with_reducible refine ae (some 19) (.load 76 (.tmp 6)) ?_);refine av 0 hm rfl rfl _ aI rfl 3 ax (by rfl) ?_)
   | (go_at_call 34;refine (HH.out _ hm.below).mono ?_;rintro e w' ⟨he,hb⟩;subst he;replace hm:=hm.call hb;clear hb)
   | ((with_reducible refine ae (some 16) (.build 43 #[]) ?_);go_must (refine ay (u8s (List.replicate 32 0)) [] rfl (by kernel_rfl) ?_))
   | ((with_reducible refine ae none (.store 43 (.tmp 4) (.tmp 16)) ?_);go_must (refine ah 1 (u8s (List.replicate 32 0)) hm rfl rfl rfl 32 aq (by rw [aa];rfl) (by rw [aa];rfl) (ai _) ?_);clear hm;intro w4 hm))
  refine br 1 (.int .i64 110) hm rfl Tryz.results12 rfl rfl _ aw rfl 32 aq (by rw [aa];rfl) rfl ?_
  exact ⟨HE.out (),hm.below⟩
 | true =>
  cases b2 with
  | false =>
   have HE:Hid (∀_:Unit,Ending.returned (.tuple #[.agg (u8s (List.replicate 32 0)).toArray,.int .i64 100])=.returned (.tuple #[.agg (u8s Z).toArray,.int .i64 z])):=fun _=>by
    have h1:=HZ.out ()
    rw [if_neg (by simp),if_pos rfl] at h1
    rw [Prod.mk.injEq] at h1
    rw [←h1.1,←h1.2];rfl
   go_enter Tryz.func12,Tryz.ntmps12
   go_wp2_with (first
    | ((with_reducible refine ae (some 4) (.alloc 43) ?_);go_must (refine ag _ aD hm ?_);clear hm;intro w1 g4 hm)
    | (go_at_call 33;refine (HPL.out _ (HM.out.below hm.below)).mono ?_;rintro e w' ⟨he,hb⟩;subst he;replace hm:=hm.call hb;clear hb)
    | ((with_reducible refine ae (some 6) (.alloc 76) ?_);refine ag _ aR hm ?_;clear hm;intro w2 g6 hm)
    | ((with_reducible refine ae none (.store 76 (.tmp 6) (.tmp 11)) ?_);refine ah 0 (plv ks) hm rfl rfl rfl 3 ax rfl rfl (aB _) ?_;clear hm;intro w3 hm)
    | ((with_reducible refine ae (some 19) (.load 76 (.tmp 6)) ?_);refine av 0 hm rfl rfl _ aI rfl 3 ax (by rfl) ?_)
    | (go_at_call 34;refine (HH.out _ hm.below).mono ?_;rintro e w' ⟨he,hb⟩;subst he;replace hm:=hm.call hb;clear hb)
    | ((with_reducible refine ae (some 22) (.build 43 #[]) ?_);go_must (refine ay (u8s (List.replicate 32 0)) [] rfl (by kernel_rfl) ?_))
    | ((with_reducible refine ae none (.store 43 (.tmp 4) (.tmp 22)) ?_);go_must (refine ah 1 (u8s (List.replicate 32 0)) hm rfl rfl rfl 32 aq (by rw [aa];rfl) (by rw [aa];rfl) (ai _) ?_);clear hm;intro w4 hm))
   refine br 1 (.int .i64 100) hm rfl Tryz.results12 rfl rfl _ aw rfl 32 aq (by rw [aa];rfl) rfl ?_
   exact ⟨HE.out (),hm.below⟩
  | true =>
   have HZ2:Hid (∀_:Unit,keyR t.held p root ks=(Z,z)):=fun _=>by have h1:=HZ.out ();rw [if_neg (by simp),if_neg (by simp)] at h1;exact h1
   have HL:Hid (∀_:Unit,Z.length=32):=fun _=>HZL.out () (HZ2.out ())
   go_enter Tryz.func12,Tryz.ntmps12
   go_wp2_with (first
    | ((with_reducible refine ae (some 4) (.alloc 43) ?_);go_must (refine ag _ aD hm ?_);clear hm;intro w1 g4 hm)
    | (go_at_call 33;refine (HPL.out _ (HM.out.below hm.below)).mono ?_;rintro e w' ⟨he,hb⟩;subst he;replace hm:=hm.call hb;clear hb)
    | ((with_reducible refine ae (some 6) (.alloc 76) ?_);refine ag _ aR hm ?_;clear hm;intro w2 g6 hm)
    | ((with_reducible refine ae none (.store 76 (.tmp 6) (.tmp 11)) ?_);refine ah 0 (plv ks) hm rfl rfl rfl 3 ax rfl rfl (aB _) ?_;clear hm;intro w3 hm)
    | ((with_reducible refine ae (some 19) (.load 76 (.tmp 6)) ?_);refine av 0 hm rfl rfl _ aI rfl 3 ax (by rfl) ?_)
    | (go_at_call 34;refine (HH.out _ hm.below).mono ?_;rintro e w' ⟨he,hb⟩;subst he;replace hm:=hm.call hb;clear hb)
    | ((with_reducible refine ae (some 24) (.load 76 (.tmp 6)) ?_);refine av 0 hm rfl rfl _ aI rfl 3 ax (by rfl) ?_)
    | (go_at_call 35;refine (HKA.out _ Z z (HZ2.out ()) hm.below).mono ?_;rintro e w' ⟨he,hb⟩;subst he;replace hm:=hm.call hb;clear hb)
    | ((with_reducible refine ae none (.store 43 (.tmp 4) (.tmp 26)) ?_);go_must (refine ah 1 (u8s Z) hm rfl rfl rfl 32 aq (by rw [aa];rfl) (by rw [aa,HL.out ()]) (ai _) ?_);clear hm;intro w4 hm))
   refine br 1 (.int .i64 z) hm rfl Tryz.results12 rfl rfl _ aw rfl 32 aq (by rw [aa,HL.out ()]) rfl ?_
   exact ⟨rfl,hm.below⟩
def mntL:ByteArray:=⟨#[109,111,117,110,116,47]⟩
def mntOf (Z:List Int) (s:ByteArray):List Int:=deriveOf Z (strB (mntL++s)) 0
theorem mount_r {w:World} {rb m sb c:Nat} {root:List Int} {p:Pls} (h:RgAt w rb m sb c root p) {g mb:Nat} {kv:Value} {hb:Nat} {d:Dk} {t:Slt} (hsl:SlAt w g mb kv sb hb d t) (ht:Tab w) (hq:QTab w) (s:ByteArray) (hs:s.size≤1000) (hM:MaxL w) (mt:ByteArray) (hmt:mt.size≤1000) (ks:List ByteArray) (hks:ks=segsB s) (Z:List Int) (z:Int) (hz:keyV t.held p root (isP (bs s)) ks=(Z,z)) (hZl:Z.length=32) (hZb:Bytes Z) (Y:List Int) (hY:Y=if z=0 then mntOf Z mt else zero32) :
  Calls Tryz.prog 22 #[.pointer (some ⟨rb,0,none⟩),.string s,.string mt] w fun e w'=>e=.returned (.tuple #[.agg (u8s Y).toArray,.int .i64 z])∧Below w.heap.size w w':=by
 have hm:=Mem.start w
 have HT:Hid (Tab w):=ht
 have HK:Hid (∀W,Below w.heap.size w W→Calls Tryz.prog 12 #[.pointer (some ⟨rb,0,none⟩),.string s] W fun e w'=>e=.returned (.tuple #[.agg (u8s Z).toArray,.int .i64 z])∧Below W.heap.size W w'):=fun W hW=>key_r (h.below hW) (hsl.below hW) (Tab.mem ht ((Mem.start w).call hW) (by simp)) (QTab.mem hq ((Mem.start w).call hW) (by simp)) s hs (hM.below hW) ks hks Z z hz
 have HZL:Hid (∀_:Unit,Z.length=32):=fun _=>hZl
 obtain ⟨lb,hlb⟩:∃lb,lb=mntL++mt:=⟨_,rfl⟩
 have HLB:Hid (∀_:Unit,lb=mntL++mt):=fun _=>hlb
 have HSZ:Hid (∀_:Unit,mntL.size+mt.size≤1000000000):=fun _=>by have:mntL.size=6:=rfl;omega
 have HD:Hid (∀W,Tab W→Calls Tryz.prog 54 #[.agg (u8s Z).toArray,.string lb,.int .u32 0] W fun e w'=>e=.returned (.agg (u8s (mntOf Z mt)).toArray)∧Below W.heap.size W w'):=fun W hW=>by
  have:=gP Z lb 0 hZl hZb (by rw [hlb,ByteArray.size_append];have:mntL.size=6:=rfl;omega) (by omega) W hW
  rw [hlb] at this ⊢
  exact this
 have HDL:Hid (∀_:Unit,(mntOf Z mt).length=32):=fun _=>bk _ _ _
 clear h hsl ht hq hM hks hz hs hZl hZb hlb hmt
 by_cases h0:z=0
 ·subst h0
  rw [if_pos rfl] at hY
  subst hY
  obtain ⟨Y,hY⟩:∃Y,Y=mntOf Z mt:=⟨_,rfl⟩
  rw [←hY] at HD HDL ⊢
  clear hY
  go_enter Tryz.func22,Tryz.ntmps22
  go_wp2_with (first
   | ((with_reducible refine ae (some 6) (.alloc 43) ?_);go_must (refine ag _ aD hm ?_);clear hm;intro w1 g6 hm)
   | (go_at_call 12;refine (HK.out _ hm.below).mono ?_;rintro e w' ⟨he,hb⟩;subst he;replace hm:=hm.call hb;clear hb)
   | ((with_reducible refine ae (some 8) (.alloc 43) ?_);go_must (refine ag _ aD hm ?_);clear hm;intro w2 g8 hm)
   | ((with_reducible refine ae none (.store 43 (.tmp 8) (.tmp 14)) ?_);go_must (refine ah 0 (u8s Z) hm rfl rfl rfl 32 aq (by rw [aa];rfl) (by rw [aa,HZL.out ()]) (ai _) ?_);clear hm;intro w3 hm)
   | ((with_reducible refine ae (some 20) (.load 43 (.tmp 8)) ?_);go_must (refine av 0 hm rfl rfl _ aw rfl 32 aq (by rw [aa,HZL.out ()]) ?_))
   | ((with_reducible refine ae (some 22) (.binOp .add 9 (.const (.string {data:=#[109,111,117,110,116,47]})) (.tmp 21) 9) ?_);go_must (refine aj (.string lb) rfl (exec_addS mntL mt lb (HLB.out ()) rfl rfl (HSZ.out ())) ?_))
   | (go_at_call 54;refine (HD.out _ (Tab.mem HT.out hm (by simp))).mono ?_;rintro e w' ⟨he,hb⟩;subst he;replace hm:=hm.call hb;clear hb)
   | ((with_reducible refine ae none (.store 43 (.tmp 6) (.tmp 23)) ?_);go_must (refine ah 1 (u8s Y) hm rfl rfl rfl 32 aq (by rw [aa];rfl) (by rw [aa,HDL.out ()]) (ai _) ?_);clear hm;intro w4 hm))
  refine br 1 (.int .i64 0) hm rfl Tryz.results22 rfl rfl _ aw rfl 32 aq (by rw [aa,HDL.out ()]) rfl ?_
  exact ⟨rfl,hm.below⟩
 ·rw [if_neg h0] at hY
  have hne:(z==0)=false:=by simpa using h0
  have HE:Hid (∀_:Unit,u8s (List.replicate 32 0)=u8s Y):=fun _=>by rw [hY];rfl
  clear hY
  go_enter Tryz.func22,Tryz.ntmps22
  go_wp2_with (first
   | ((with_reducible refine ae (some 6) (.alloc 43) ?_);go_must (refine ag _ aD hm ?_);clear hm;intro w1 g6 hm)
   | (go_at_call 12;refine (HK.out _ hm.below).mono ?_;rintro e w' ⟨he,hb⟩;subst he;replace hm:=hm.call hb;clear hb)
   | ((with_reducible refine ae (some 8) (.alloc 43) ?_);go_must (refine ag _ aD hm ?_);clear hm;intro w2 g8 hm)
   | ((with_reducible refine ae none (.store 43 (.tmp 8) (.tmp 14)) ?_);go_must (refine ah 0 (u8s Z) hm rfl rfl rfl 32 aq (by rw [aa];rfl) (by rw [aa,HZL.out ()]) (ai _) ?_);clear hm;intro w3 hm)
   | ((with_reducible refine ae (some 18) (.build 43 #[]) ?_);go_must (refine ay (u8s (List.replicate 32 0)) [] rfl (by kernel_rfl) ?_))
   | ((with_reducible refine ae none (.store 43 (.tmp 6) (.tmp 18)) ?_);go_must (refine ah 1 (u8s (List.replicate 32 0)) hm rfl rfl rfl 32 aq (by rw [aa];rfl) (by rw [aa];rfl) (ai _) ?_);clear hm;intro w4 hm))
  refine br 1 (.int .i64 z) hm rfl Tryz.results22 rfl rfl _ aw rfl 32 aq (by rw [aa];rfl) rfl ?_
  exact ⟨by rw [HE.out ()],hm.below⟩
theorem zr_ring:(Tryz.prog.info? 92).map (fun i=>i.zero)=some (some (Value.agg (u8s (List.replicate 32 0)++[Value.pointer none,Value.map none]).toArray)):=by kernel_rfl
theorem un_ring:∃fs,Tryz.prog.underlying 92=some (.struct fs):=⟨_,Tryz.underlying92⟩
theorem pl_ring:(match Tryz.prog.underlying 92 with|some (.struct fs)=>fs.toList.mapM (fun f=>(Tryz.prog.info? f.type).map fun i=>(f.offset,i.size))|_=>none)=some [(0,32),(32,1),(33,1)]:=by kernel_rfl
theorem fill_val (place:Nat→Option (Nat×Nat)) (L:List Value) (i off:Nat) (x:Value) (hx:x.cells=[x].toArray) (rest:List (Nat×Value)) (hp:place i=some (off,1)) (hl:off+1≤L.length) :
  Instr.fill place L.toArray ((i,x)::rest)=Instr.fill place (splice L off [x]).toArray rest:=by
 rw [←k7 place L i off [x] rest hp hl]
 unfold Instr.fill
 rw [hx]
 rfl
theorem built_ring {root:List Int} (h:root.length=32) {sb m:Nat}:Tryz.prog.built 92 [(0,.agg (u8s root).toArray),(1,.pointer (some ⟨sb,0,none⟩)),(2,.map (some m))]=some (rgC root sb m).toArray:=by
 have h1:=zr_ring
 cases hit:Tryz.prog.info? 92 with
 | none=>simp [hit] at h1
 | some it =>
  obtain ⟨fs,hu⟩:=un_ring
  have h2:=pl_ring
  rw [hu] at h2
  simp only [hit,Option.map_some,Option.some.injEq] at h1
  rw [iF _ hit hu h1 h2]
  show Instr.fill _ (u8s (List.replicate 32 0)++[Value.pointer none,Value.map none]).toArray [(0,.agg (u8s root).toArray),(1,.pointer (some ⟨sb,0,none⟩)),(2,.map (some m))]=_
  have lA:(u8s root).length=32:=by rw [aa,h]
  rw [k7 _ _ 0 0 (u8s root) _ (by rw [lA];rfl) (by simp [lA,aa]),fill_val _ _ 1 32 _ rfl _ rfl (by simp [splice,lA,aa]),fill_val _ _ 2 33 _ rfl _ rfl (by simp [splice,lA,aa])]
  show some _=some _
  congr 2
  have e1:=ej [] (u8s (List.replicate 32 0)++[Value.pointer none,Value.map none]) (u8s root) 0 rfl
  rw [List.nil_append] at e1
  rw [e1,List.nil_append,lA,List.drop_append_of_le_length (by rw [aa];simp),List.drop_of_length_le (by rw [aa];simp),List.nil_append,ej (u8s root) _ _ 32 lA]
  rw [show u8s root++([Value.pointer (some ⟨sb,0,none⟩)]++[Value.pointer none,Value.map none].drop [Value.pointer (some (⟨sb,0,none⟩:Addr))].length)=(u8s root++[Value.pointer (some ⟨sb,0,none⟩)])++[Value.map none] by simp]
  rw [ej (u8s root++[Value.pointer (some ⟨sb,0,none⟩)]) _ _ 33 (by simp [lA])]
  simp [rgC]
section
variable {P:Program} {ops:Array Oper} {rest:List Oper} {a:Act} {w:World} {Q:Exit→Act→World→Prop} {dst:Option Tmp} {typ:TypeId} {pos:String} {aft:Array Edge}
theorem wpl_boxV {ty:TypeId} {x:Operand} (l:List Value) (hx:a.eval x=.agg l.toArray) (h:∀w' q,Below w.heap.size w w'→w.heap.size≤q→Row w' q l ty→wpList P ops Q rest (a.put dst (.pointer (some ⟨q,0,none⟩))) w') :
  wpList P ops Q ({dst:=dst,op:=.box ty x,type:=typ,pos:=pos,after:=aft,guard:=none}::rest) a w:=by
 refine az l hx (Mem.start w) (fun w' q hm=>?_)
 have hf:=hm.fresh _ (List.mem_cons_self ..)
 simp only [List.not_mem_nil,false_or] at hf
 exact h w' q hm.below hf (hm.get 0 rfl)
end
theorem newR_r (root:List Int) (hl:root.length=32) (hb:Bytes root) (sb:Nat) (w:World) :
  Calls Tryz.prog 19 #[.agg (u8s root).toArray,.pointer (some ⟨sb,0,none⟩)] w fun e w'=>∃rb m,e=.returned (.pointer (some ⟨rb,0,none⟩))∧RgAt w' rb m sb 0 root []∧w.heap.size≤rb∧w.heap.size≤m∧Below w.heap.size w w':=by
 have hm:=Mem.start w
 have HL:Hid (root.length=32):=hl
 have HB:Hid (Bytes root):=hb
 clear hl hb
 go_enter Tryz.func19,Tryz.ntmps19
 go_wp2_with (first
  | ((with_reducible refine ae (some 2) (.box 43 (.tmp 0)) ?_);go_must (refine az (u8s root) rfl hm ?_);clear hm;intro w1 g2 hm)
  | ((with_reducible refine ae (some 5) (.load 43 (.tmp 2)) ?_);go_must (refine av 0 hm rfl rfl _ aw rfl 32 aq (by rw [aa,HL.out]) ?_))
  | ((with_reducible refine ae (some 7) (.makeMap 90 none) ?_);go_must (refine wpl_mkM hm ?_);clear hm;intro w2 m hmp hm0 hm;have hms:Hid (w.heap.size≤w2.heap.size):=hm.size;have HMP:Hid (w2.heap[m]?=some (.map #[] 0)):=hmp;clear hmp)
  | ((with_reducible refine ae (some 8) (.build 92 #[(0,.tmp 5),(1,.tmp 6),(2,.tmp 7)]) ?_);go_must (refine ay (rgC root sb m) [(0,.agg (u8s root).toArray),(1,.pointer (some ⟨sb,0,none⟩)),(2,.map (some m))] rfl (built_ring HL.out) ?_))
  | ((with_reducible refine ae (some 9) (.box 92 (.tmp 8)) ?_);go_must (refine wpl_boxV (rgC root sb m) rfl ?_);intro w3 rb hb3 hrb3 hr3;have HR3:Hid (Row w3 rb (rgC root sb m) 92∧Below w2.heap.size w2 w3):=⟨hr3,hb3⟩;replace hm:=hm.call hb3;clear hr3 hb3))
 go_ret
 have h2:=HR3.out.2.size
 have h3:=hm.size
 refine ⟨rb,m,rfl,⟨HR3.out.1,⟨0,Nat.le_refl _,((KM.new HMP.out).below HR3.out.2).same (fun k v=>⟨fun h=>h.elim,fun ⟨ks,n,_,h,_⟩=>by cases h⟩)⟩,HL.out,HB.out⟩,Nat.le_trans (hms.out) hrb3,hm0,hm.below⟩
open Go Go.RowKit Go.Sort Go.Maps
structure Rv (w0 w:World) (g mb:Nat) (kv:Value) (sb hb:Nat) (d:Dk) (t:Slt) (k rb m c:Nat) (root:List Int) (p:Pls) (rows:List (Nat×List Value×TypeId)):Prop where
 sv:Sv w0 w g mb kv sb hb d t k rows
 rg:RgAt w rb m sb c root p
 nr:w0.heap.size≤rb
 nm:w0.heap.size≤m
 ar:rb ∉ footS g mb kv sb hb
 am:m ∉ footS g mb kv sb hb
 ap:∀r∈rows,r.1≠rb
section
variable {w0 w w':World} {g mb:Nat} {kv:Value} {sb hb:Nat} {d d':Dk} {t t':Slt} {k k' rb m c c':Nat} {root:List Int} {p p':Pls} {rows:List (Nat×List Value×TypeId)}
theorem Rv.below (h:Rv w0 w g mb kv sb hb d t k rb m c root p rows) (hbb:Below w.heap.size w w'):Rv w0 w' g mb kv sb hb d t k rb m c root p rows:=⟨h.sv.below hbb,h.rg.below hbb,h.nr,h.nm,h.ar,h.am,h.ap⟩
theorem Rv.tail {r:Nat×List Value×TypeId} (h:Rv w0 w g mb kv sb hb d t k rb m c root p (r::rows)):Rv w0 w g mb kv sb hb d t k rb m c root p rows:=⟨h.sv.tail,h.rg,h.nr,h.nm,h.ar,h.am,fun q hq=>h.ap q (List.mem_cons_of_mem _ hq)⟩
theorem Rv.add (h:Rv w0 w g mb kv sb hb d t k rb m c root p rows) {q:Nat} {l:List Value} {ty:TypeId} (hbb:Below w.heap.size w w') (hr:Row w' q l ty) (hq:w.heap.size≤q):Rv w0 w' g mb kv sb hb d t k rb m c root p ((q,l,ty)::rows):=by
 have h1:rb<w.heap.size:=Row.lt h.rg.row
 refine ⟨h.sv.add hbb hr hq,h.rg.below hbb,h.nr,h.nm,h.ar,h.am,fun r hr=>?_⟩
 rcases List.mem_cons.1 hr with rfl|hr
 ·show q≠rb;omega
 ·exact h.ap r hr
theorem RgAt.keep (h:RgAt w rb m sb c root p) (h1:w'.heap[rb]?=w.heap[rb]?) (h2:w'.heap[m]?=w.heap[m]?):RgAt w' rb m sb c root p:=by
 obtain ⟨q,hq,km⟩:=h.map
 exact ⟨by unfold Row;rw [h1];exact h.row,⟨q,hq,km.keep h2⟩,h.rl,h.rB⟩
theorem RgAt.mono (h:RgAt w rb m sb c root p) (hc:c≤c'):RgAt w rb m sb c' root p:=by
 obtain ⟨q,hq,km⟩:=h.map
 exact ⟨h.row,⟨q,Nat.le_trans hq hc,km⟩,h.rl,h.rB⟩
theorem Rv.updR (h:Rv w0 w g mb kv sb hb d t k rb m c root p rows) (i:Nat) {q:Nat} {l l':List Value} {ty:TypeId} (hi:rows[i]?=some (q,l,ty)) (hu:Upd q w w') (hr:Row w' q l' ty):Rv w0 w' g mb kv sb hb d t k rb m c root p (rows.set i (q,l',ty)):=by
 have hmem:(q,l,ty)∈rows:=List.mem_of_getElem? hi
 obtain ⟨q9,_,km⟩:=h.rg.map
 obtain ⟨es,cc,hmap⟩:=km.isMap
 have hqm:q≠m:=b6 (h.sv.mem.row _ hmem) hmap
 refine ⟨h.sv.upd i hi hu hr,h.rg.keep (hu.block rb (Row.lt h.rg.row) (fun e=>h.ap _ hmem e.symm)) (hu.block m km.lt (fun e=>hqm e.symm)),h.nr,h.nm,h.ar,h.am,fun r hr=>?_⟩
 rcases List.mem_or_eq_of_mem_set hr with hr|rfl
 ·exact h.ap r hr
 ·exact h.ap (q,l,ty) hmem
theorem cT (h:SlAt w g mb kv sb hb d t):∀q∈footS g mb kv sb hb,q<w.heap.size:=by
 intro q hq
 simp only [footS,List.mem_cons] at hq
 rcases hq with rfl|rfl|hq
 ·exact Row.lt h.row
 ·obtain ⟨_,_,km⟩:=h.map
  exact km.lt
 ·exact h.dk.lt q hq
theorem Rv.updM (h:Rv w0 w g mb kv sb hb d t k rb m c root p rows) (hu:UpdS [m] w w') (hrg:RgAt w' rb m sb c' root p'):Rv w0 w' g mb kv sb hb d t k rb m c' root p' rows:=by
 obtain ⟨q9,_,km⟩:=h.rg.map
 obtain ⟨es,cc,hmap⟩:=km.isMap
 have hm:=h.sv.mem
 refine ⟨⟨⟨hu.os.trans hm.os,hu.tape.trans hm.tape,hu.output.trans hm.output,Nat.le_trans hm.size hu.size,fun q hq hn=>?_,fun r hr=>hu.row (hm.row r hr) ?_,hm.nodup,hm.fresh⟩,h.sv.at_.keep (fun q hq=>hu.block q (cT h.sv.at_ q hq) ?_),h.sv.inv,h.sv.cm,h.sv.new,h.sv.apart⟩,hrg,h.nr,h.nm,h.ar,h.am,h.ap⟩
 ·refine (hu.block q (Nat.lt_of_lt_of_le hq hm.size) ?_).trans (hm.block q hq hn)
  have:=h.nm
  simp;omega
 ·simp only [List.mem_singleton]
  exact b6 (hm.row r hr) hmap
 ·simp only [List.mem_singleton]
  rintro rfl
  exact h.am hq
theorem Rv.turn (h:Rv w0 w g mb kv sb hb d t k rb m c root p rows) (hs:Sv w0 w' g mb kv sb hb d' t' k' rows) (hu:UpdS (footS g mb kv sb hb) w w'):Rv w0 w' g mb kv sb hb d' t' k' rb m c root p rows:=by
 obtain ⟨q9,_,km⟩:=h.rg.map
 exact ⟨hs,h.rg.keep (hu.block rb (Row.lt h.rg.row) h.ar) (hu.block m km.lt h.am),h.nr,h.nm,h.ar,h.am,h.ap⟩
theorem Rv.maxl (h:Rv w0 w g mb kv sb hb d t k rb m c root p rows) (hM:MaxL w0):MaxL w:=hM.below h.sv.mem.below
end
theorem create_no {w0 w:World} {g mb:Nat} {kv:Value} {sb hb:Nat} {d:Dk} {t:Slt} {k rb m c:Nat} {root:List Int} {p:Pls} {rows:List (Nat×List Value×TypeId)} (h:Rv w0 w g mb kv sb hb d t k rb m c root p rows) (hM:MaxL w0) (s:ByteArray) (hs:s.size≤1000) (slot:Int) (dr:List Int) (e0:Int) (he0:e0=vacE p (isP (bs s)) (segsB s)) (h0:e0≠0) :
  Calls Tryz.prog 14 #[.pointer (some ⟨rb,0,none⟩),.string s,.int .i64 slot,.agg (u8s dr).toArray] w fun e w'=>e=.returned (.int .i64 e0)∧Below w.heap.size w w':=by
 have hm:=Mem.start w
 have HV:Hid (∀W,Below w.heap.size w W→Calls Tryz.prog 40 #[.pointer (some ⟨rb,0,none⟩),.string s] W fun e w'=>e=.returned (.tuple #[.agg (plv (okPl e0 (segsB s))).toArray,.int .i64 e0])∧Below W.heap.size W w'):=fun W hW=>by
  rw [he0];exact kK (h.rg.below hW) s hs ((h.maxl hM).below hW)
 have hne:(e0==0)=false:=by simpa using h0
 obtain ⟨X,hX⟩:∃X,X=okPl e0 (segsB s):=⟨_,rfl⟩
 rw [←hX] at HV
 clear h hM hs he0 hX h0
 go_enter Tryz.func14,Tryz.ntmps14
 go_wp2_with (first
  | ((with_reducible refine ae (some 7) (.box 43 (.tmp 3)) ?_);go_must (refine az (u8s dr) rfl hm ?_);clear hm;intro w1 g7 hm)
  | (go_at_call 40;refine (HV.out _ hm.below).mono ?_;rintro e w' ⟨he,hb⟩;subst he;replace hm:=hm.call hb;clear hb)
  | ((with_reducible refine ae (some 9) (.alloc 76) ?_);refine ag _ aR hm ?_;clear hm;intro w2 g9 hm)
  | ((with_reducible refine ae none (.store 76 (.tmp 9) (.tmp 17)) ?_);refine ah 0 (plv X) hm rfl rfl rfl 3 ax rfl rfl (aB _) ?_;clear hm;intro w3 hm))
 go_ret
 exact ⟨rfl,hm.below⟩
theorem create_v {w0 w:World} {g mb:Nat} {kv:Value} {sb hb:Nat} {d:Dk} {t:Slt} {k rb m c:Nat} {root:List Int} {p:Pls} {rows:List (Nat×List Value×TypeId)} (h:Rv w0 w g mb kv sb hb d t k rb m c root p rows) (ht:Tab w0) (hq:QTab w0) (hM:MaxL w0) (hk:k≤1000000) (hp:t.puts<200) (hcc:c≤90000) (s:ByteArray) (hs:s.size≤1000) (ks:List ByteArray) (hks:ks=segsB s) (hv:vacE p (isP (bs s)) ks=0) (i:Nat) (hi:i<24) (K:List Int) (hkr:keyR t.held p root ks.dropLast=(K,0)) (dr:List Int) (hdl:dr.length=32) (hdb:Bytes dr) (t':Slt) (ht':t'=putS t i (entN t i K dr)) :
  Calls Tryz.prog 14 #[.pointer (some ⟨rb,0,none⟩),.string s,.int .i64 (i:Int),.agg (u8s dr).toArray] w fun e w'=>e=.returned (.int .i64 0)∧∃d',Rv w0 w' g mb kv sb hb d' t' (k+1000) rb m (c+1) root ((ks,(i:Int))::p) rows:=by
 have hm:=Mem.start w
 have hpk:PlOk ks:=by rw [hks];exact cX s
 have HKS:Hid (∀_:Unit,PlOk ks):=fun _=>hpk
 have HRL:Hid (root.length=32):=h.rg.rl
 have HRB:Hid (Bytes root):=h.rg.rB
 have HRV:Hid (Rv w0 w g mb kv sb hb d t k rb m c root p rows):=h
 have hKok:K.length=32∧Bytes K:=by have:=kRun_ok h.sv.at_.ok (slN p ks.dropLast) h.rg.rl h.rg.rB ks.dropLast.length ks.dropLast.length;rw [show kRun t.held (slN p ks.dropLast) root ks.dropLast.length ks.dropLast.length=(K,0) from hkr] at this;exact this
 have HKL:Hid (∀_:Unit,K.length=32):=fun _=>hKok.1
 have HDL:Hid (∀_:Unit,dr.length=32):=fun _=>hdl
 have HV:Hid (∀W,Below w.heap.size w W→Calls Tryz.prog 40 #[.pointer (some ⟨rb,0,none⟩),.string s] W fun e w'=>e=.returned (.tuple #[.agg (plv ks).toArray,.int .i64 0])∧Below W.heap.size W w'):=fun W hW=>by
  have:=kK (h.rg.below hW) s hs ((h.maxl hM).below hW)
  rw [←hks,hv] at this
  exact this
 have HP:Hid (∀W,Calls Tryz.prog 41 #[.agg (plv ks).toArray] W fun e w'=>e=.returned (.agg (plv ks.dropLast).toArray)∧Below W.heap.size W w'):=fun W=>kG hpk W
 have HKA:Hid (∀W,Below w.heap.size w W→Calls Tryz.prog 35 #[.pointer (some ⟨rb,0,none⟩),.agg (plv ks.dropLast).toArray] W fun e w'=>e=.returned (.tuple #[.agg (u8s K).toArray,.int .i64 0])∧Below W.heap.size W w'):=fun W hW=>keyAt_r (h.rg.below hW) (h.sv.at_.below hW) ((h.below hW).sv.tab ht) ((h.below hW).sv.qtab hq) hpk.drop K 0 hkr
 have HPU:Hid (∀W,Below w.heap.size w W→Calls Tryz.prog 42 #[.pointer (some ⟨sb,0,none⟩),.int .i64 (i:Int),.agg (u8s K).toArray,.agg (u8s dr).toArray] W fun e w'=>e=.returned (.int .i64 0)∧(∃d',Sv w0 w' g mb kv sb hb d' t' (k+1000) rows)∧UpdS (footS g mb kv sb hb) W w'):=fun W hW=>put_w (h.below hW).sv ht hq hk hp i hi K dr hKok.1 hKok.2 hdl hdb t' ht'
 have HNF:Hid (∀q,w.heap.size≤q→q ∉ footS g mb kv sb hb):=fun q hq9 hf=>by have:=cT h.sv.at_ q hf;omega
 clear h hM hks hv hkr hKok hdl hdb ht' hpk hs hp
 go_enter Tryz.func14,Tryz.ntmps14
 go_wp2_with (first
  | ((with_reducible refine ae (some 7) (.box 43 (.tmp 3)) ?_);go_must (refine az (u8s dr) rfl hm ?_);clear hm;intro w1 g7 hm)
  | (go_at_call 40;refine (HV.out _ hm.below).mono ?_;rintro e w' ⟨he,hb⟩;subst he;replace hm:=hm.call hb;clear hb)
  | ((with_reducible refine ae (some 9) (.alloc 76) ?_);refine ag _ aR hm ?_;clear hm;intro w2 g9 hm)
  | ((with_reducible refine ae none (.store 76 (.tmp 9) (.tmp 17)) ?_);refine ah 0 (plv ks) hm rfl rfl rfl 3 ax rfl rfl (aB _) ?_;clear hm;intro w3 hm)
  | ((with_reducible refine ae (some 24) (.load 76 (.tmp 9)) ?_);refine av 0 hm rfl rfl _ aI rfl 3 ax (by rfl) ?_)
  | (go_at_call 41;refine (HP.out _).mono ?_;rintro e w' ⟨he,hb⟩;subst he;replace hm:=hm.call hb;clear hb)
  | (go_at_call 35;refine (HKA.out _ hm.below).mono ?_;rintro e w' ⟨he,hb⟩;subst he;replace hm:=hm.call hb;clear hb)
  | ((with_reducible refine ae (some 11) (.alloc 43) ?_);go_must (refine ag _ aD hm ?_);clear hm;intro w4 g11 hm)
  | ((with_reducible refine ae none (.store 43 (.tmp 11) (.tmp 27)) ?_);go_must (refine ah 0 (u8s K) hm rfl rfl rfl 32 aq (by rw [aa];rfl) (by rw [aa,HKL.out ()]) (ai _) ?_);clear hm;intro w5 hm))
 have hf9:=hm.fresh (g9,plv ks,76) (by simp)
 have hf11:=hm.fresh (g11,u8s K,43) (by simp)
 have hf7:=hm.fresh (g7,u8s dr,43) (by simp)
 simp only [List.not_mem_nil,false_or] at hf9 hf11 hf7
 refine aA ?_
 refine aC (T:=fun W=>Row W rb (rgC root sb m) 92∧Row W g11 (u8s K) 43∧Row W g7 (u8s dr) 43) (by kernel_rfl) hm ?_
 intro wc hbw hmw
 clear hm hbw
 have hm:=hmw
 clear hmw
 have HT:Hid (Row wc rb (rgC root sb m) 92∧Row wc g11 (u8s K) 43∧Row wc g7 (u8s dr) 43):=⟨(HRV.out.rg.below hm.below).row,hm.get 0 rfl,hm.get 2 rfl⟩
 refine aT 0 (v:=.pointer (some ⟨rb,0,none⟩)) rfl (by kernel_rfl) rfl (fun W _=>by go_simp) HT.out ?_
 go_simp
 refine aT 1 (v:=.pointer (some ⟨rb,0,none⟩)) rfl (by kernel_rfl) rfl (fun W _=>by go_simp) HT.out ?_
 go_simp
 refine aT 2 (v:=.pointer (some ⟨rb,32,none⟩)) rfl (by kernel_rfl) rfl (fun W _=>by go_simp) HT.out ?_
 go_simp
 refine aT 3 (v:=.pointer (some ⟨sb,0,none⟩)) rfl (by kernel_rfl) rfl (fun W hW=>aK 32 (.pointer (some ⟨sb,0,none⟩)) hW.1 rfl iW (ek HRL.out)) HT.out ?_
 go_simp
 refine aT 4 (v:=.int .i64 (i:Int)) rfl (by kernel_rfl) rfl (fun W _=>by go_simp) HT.out ?_
 go_simp
 refine aT 5 (v:=.agg (u8s K).toArray) rfl (by kernel_rfl) rfl (fun W hW=>au 0 (u8s K) hW.2.1 rfl _ aw rfl 32 aq (by rw [aa,HKL.out ()];omega) (by rw [List.drop_zero,List.take_of_length_le (by rw [aa,HKL.out ()];omega)])) HT.out ?_
 go_simp
 refine aT 6 (v:=.agg (u8s dr).toArray) rfl (by kernel_rfl) rfl (fun W hW=>au 0 (u8s dr) hW.2.2 rfl _ aw rfl 32 aq (by rw [aa,HDL.out ()];omega) (by rw [List.drop_zero,List.take_of_length_le (by rw [aa,HDL.out ()];omega)])) HT.out ?_
 go_simp
 refine aO 7 (by kernel_rfl) rfl rfl ?_
 intro Kc hK
 go_wp2_with (go_at_call 42;refine (HPU.out _ hm.below).mono ?_;rintro e w6 ⟨he,hsv6,hu6⟩;subst he;have HSV6:Hid (∃d',Sv w0 w6 g mb kv sb hb d' t' (k+1000) rows):=hsv6;have HU6:Hid (UpdS (footS g mb kv sb hb) wc w6):=hu6;clear hsv6 hu6)
 refine hK _ _ ⟨HU6.out.row HT.out.1 HRV.out.ar,HU6.out.row HT.out.2.1 (HNF.out _ hf11),HU6.out.row HT.out.2.2 (HNF.out _ hf7)⟩ ?_
 clear hK Kc
 go_simp
 refine aT 8 (v:=.int .i64 0) rfl (by kernel_rfl) rfl (fun W _=>by go_simp) ⟨HU6.out.row HT.out.1 HRV.out.ar,HU6.out.row HT.out.2.1 (HNF.out _ hf11),HU6.out.row HT.out.2.2 (HNF.out _ hf7)⟩ ?_
 go_simp
 refine wpAnyH_done (by kernel_rfl) ?_ _
 simp only [endsIn]
 obtain ⟨d6,hsv6⟩:=HSV6.out
 have HV6:Hid (Rv w0 w6 g mb kv sb hb d6 t' (k+1000) rb m c root p rows):=(HRV.out.below hm.below).turn hsv6 HU6.out
 have HG9:Hid (Row w6 g9 (plv ks) 76):=HU6.out.row (hm.get 1 rfl) (HNF.out _ hf9)
 have HCUR:Hid (RgAt w6 rb m sb c root p):=HV6.out.rg
 clear hm hsv6 HSV6 HU6 HT
 have hm:=Mem.start w6
 go_wp2_with fail
 refine aA ?_
 refine aC (T:=fun W=>Row W rb (rgC root sb m) 92∧Row W g9 (plv ks) 76) (by kernel_rfl) hm ?_
 intro wc hbw hmw
 clear hm hbw
 have hm:=hmw
 clear hmw
 have HC9:=HCUR.out.below hm.below
 have HT:Hid (Row wc rb (rgC root sb m) 92∧Row wc g9 (plv ks) 76):=⟨HC9.row,Row.bel HG9.out hm.below⟩
 obtain ⟨q9,hq9,km9⟩:=HC9.map
 obtain ⟨es9,c9,hmap9⟩:=km9.isMap
 have hne1:rb≠m:=b6 HT.out.1 hmap9
 have hne2:g9≠m:=b6 HT.out.2 hmap9
 have HQ9:Hid (q9≤c):=hq9
 have HKM9:Hid (KM Tryz.prog 76 wc m q9 (rgK p)):=km9
 obtain ⟨kl9,hkl9⟩:=je (HKS.out ())
 have HKL9:Hid (keyOf Tryz.prog 76 (.agg (plv ks).toArray)=some kl9):=hkl9
 clear HC9 hq9 km9 hmap9 hkl9
 refine aT 0 (v:=.pointer (some ⟨rb,0,none⟩)) rfl (by kernel_rfl) rfl (fun W _=>by go_simp) HT.out ?_
 go_simp
 refine aT 1 (v:=.pointer (some ⟨rb,0,none⟩)) rfl (by kernel_rfl) rfl (fun W _=>by go_simp) HT.out ?_
 go_simp
 refine aT 2 (v:=.pointer (some ⟨rb,33,none⟩)) rfl (by kernel_rfl) rfl (fun W _=>by go_simp) HT.out ?_
 go_simp
 refine aT 3 (v:=.map (some m)) rfl (by kernel_rfl) rfl (fun W hW=>aK 33 (.map (some m)) hW.1 rfl dA (du HRL.out)) HT.out ?_
 go_simp
 refine aT 4 (v:=.agg (plv ks).toArray) rfl (by kernel_rfl) rfl (fun W hW=>au 0 (plv ks) hW.2 rfl _ aI rfl 3 ax (Nat.le_refl 3) rfl) HT.out ?_
 go_simp
 refine aT 5 (v:=.int .i64 (i:Int)) rfl (by kernel_rfl) rfl (fun W _=>by go_simp) HT.out ?_
 go_simp
 refine aO 6 (by kernel_rfl) rfl rfl ?_
 intro Kc hK
 refine ge HKM9.out dD eX (by have:=HQ9.out;omega) HKL9.out rfl rfl rfl ?_
 intro w9 km8 hu9
 have HKM8:Hid (KM Tryz.prog 76 w9 m (q9+1) (putK (rgK p) (.agg (plv ks).toArray) (.int .i64 (i:Int)))):=km8
 have HU9:Hid (Upd m wc w9):=hu9
 have HT9:Hid (Row w9 rb (rgC root sb m) 92∧Row w9 g9 (plv ks) 76):=⟨hu9.row HT.out.1 hne1,hu9.row HT.out.2 hne2⟩
 clear km8 hu9
 refine wpList_nil ?_
 refine hK _ _ HT9.out ?_
 clear hK Kc
 go_simp
 refine wpAnyH_done (by kernel_rfl) ?_ _
 simp only [endsIn]
 go_wp2_with fail
 go_ret
 exact ⟨rfl,d6,(HV6.out.below hm.below).updM (UpdS.of_upd HU9.out (by simp)) ⟨HT9.out.1,⟨q9+1,by have:=HQ9.out;omega,HKM8.out.same (rgK_put (HKS.out ()) (i:Int))⟩,HRL.out,HRB.out⟩⟩
open Go Go.RowKit Go.Sort Go.Maps
def txt (ks:List ByteArray):ByteArray:=mkS (jn 47 (ks.map bs))
theorem paths_r {w:World} {rb m sb c:Nat} {root:List Int} {p:Pls} (h:RgAt w rb m sb c root p) (hcc:c≤90000) (hlp:∀(L:List (List ByteArray)) ks,IsU p ks L→L.length≤100) :
  Calls Tryz.prog 11 #[.pointer (some ⟨rb,0,none⟩)] w fun e w'=>∃v L,e=.returned v∧w'.ownsRow w.heap.size 9 1 v L.length (strs (L.map txt))∧IsU p [] L∧Below w.heap.size w w':=by
 have hm:=Mem.start w
 have HLP:Hid (∀(L:List (List ByteArray)) ks,IsU p ks L→L.length≤100):=hlp
 have HUN:Hid (∀W,Below w.heap.size w W→Calls Tryz.prog 31 #[.pointer (some ⟨rb,0,none⟩),.agg (plv []).toArray] W fun e w'=>∃v L,e=.returned v∧PlSl W.heap.size w' v L∧IsU p [] L∧Below W.heap.size W w'):=fun W hW=>under_r (h.below hW) hcc PlOk.nil
 clear h hlp
 go_enter Tryz.func11,Tryz.ntmps11
 go_wp2_with (first
  | ((with_reducible refine ae (some 7) (.build 76 #[]) ?_);refine ay (plv []) [] rfl (by kernel_rfl) ?_)
  | (go_at_call 31;refine (HUN.out _ hm.below).mono ?_;rintro e w1 ⟨v,L,he,hps,hiu,hb⟩;subst he;have HPS:Hid (PlSl w.heap.size w1 v L):=hps;have HIU:Hid (IsU p [] L):=hiu;replace hm:=hm.call hb;obtain ⟨pp,cap,hvv,hpp⟩:=id hps;clear hpp;obtain ⟨N,hN⟩:∃N,N=L.length:=⟨_,rfl⟩;rw [←hN] at hvv;subst hvv;have HN:Hid (∀_:Unit,N=L.length):=fun _=>hN;clear hb hps hiu hN))
 have hN9:N≤100:=by rw [HN.out ()];exact HLP.out L [] HIU.out
 have HB1:Hid (Below w.heap.size w w1):=hm.below
 clear hm HUN
 go_loopw [3,10] (fun vx vi wr=>∃(i:Nat) (v:Value),v=vx∧i≤N∧vi=.int .i64 (i:Int)∧Hid (Below w1.heap.size w1 wr∧wr.ownsRow w1.heap.size 9 1 v i (strs ((L.take i).map txt)))) (fun _ vi _=>match vi with | .int _ q=>N - q.toNat|_=>0)
 case atStart=>exact ⟨0,_,rfl,by omega,rfl,Below.refl _ _,⟨rfl,Or.inl ⟨rfl,rfl⟩⟩⟩
 case round =>
  obtain ⟨i,v,rfl,hi,rfl,HS⟩:=hrel
  have hm:=Mem.start wr
  by_cases hlt:i<N
  ·have hki:(i:Int)<(N:Int):=by omega
   have hw:IntKind.i64.wrap ((i:Int)+1)=(i:Int)+1:=dt _ (by omega) (by omega)
   have hjL:i<L.length:=by rw [←HN.out ()];exact hlt
   obtain ⟨x,hx⟩:∃x,x=L[i]:=⟨_,rfl⟩
   have HLI:Hid (∀_:Unit,L[i]?=some x):=fun _=>by rw [hx];simp [hjL]
   have HXX:Hid (∀_:Unit,PlOk x):=fun _=>by rw [hx];exact ((HIU.out.mem _).1 (List.getElem_mem hjL)).1
   obtain ⟨r,hr⟩:∃r,r=txt x:=⟨_,rfl⟩
   have HTX:Hid (∀W,Calls Tryz.prog 32 #[.agg (plv x).toArray] W fun e w'=>e=.returned (.string r)∧Below W.heap.size W w'):=fun W=>text_r (HXX.out ()) r hr W
   have HRX:Hid (∀_:Unit,strs ((L.take (i+1)).map txt)=strs ((L.take i).map txt)++[.string r]):=fun _=>by rw [List.take_add_one,HLI.out (),hr];simp [strs]
   obtain ⟨p2,cap2,hv2,hc2⟩:=HPS.out.below HS.out.1
   rw [←HN.out ()] at hv2
   simp only [Value.slice.injEq,true_and] at hv2
   obtain ⟨hv3,hv4⟩:=hv2
   subst hv3
   subst hv4
   obtain ⟨b,hb1,hb2,hb3,hb4⟩:=hc2 (by rw [←HN.out ()];omega)
   subst hb1
   have HC:Hid (∀q y,(plv x)[q]?=some y→wr.cell? ⟨b,i * 3+q,none⟩=some y):=fun q y hy=>hb4 i x (HLI.out ()) q y hy
   clear hx hc2 hb4 hb2 hb3 hr
   go_wp2_with (first
    | ((with_reducible refine ae (some 12) (.indexAddr 74 (.tmp 8) (.tmp 10)) ?_);go_must (refine aj (.pointer (some ⟨b,i * 3,none⟩)) rfl (hO i rfl rfl rfl hlt) ?_))
    | ((with_reducible refine ae (some 13) (.load 76 (.tmp 12)) ?_);go_must (refine iq (plv x) (i * 3) rfl HC.out _ aI rfl 3 ax rfl ?_))
    | ((with_reducible refine ae (some 5) (.alloc 76) ?_);refine ag _ aR hm ?_;clear hm;intro w3 g5 hm)
    | ((with_reducible refine ae none (.store 76 (.tmp 5) (.tmp 13)) ?_);refine ah 0 (plv x) hm rfl rfl rfl 3 ax rfl rfl (aB _) ?_;clear hm;intro w4 hm)
    | ((with_reducible refine ae (some 15) (.load 76 (.tmp 5)) ?_);refine av 0 hm rfl rfl _ aI rfl 3 ax (by rfl) ?_)
    | (go_at_call 32;refine (HTX.out _).mono ?_;rintro e w' ⟨he,hb⟩;subst he;replace hm:=hm.call hb;clear hb)
    | ((with_reducible refine ae (some 17) (.buildSlice 29 1 #[(0,.tmp 16)]) ?_);go_must (refine bM rfl (.string ByteArray.empty) (.string r) jU info_str rfl rfl rfl hm ?_);clear hm;intro w8 g8 hb8 hm;clear hb8)
    | ((with_reducible refine ae (some 18) (.call {callee:=.builtin .append,args:=#[.tmp 14,.tmp 17],argTypes:=#[29,29]}) ?_);go_must (refine ky (.string ByteArray.empty) 1 16 rfl jU made_str rfl (by omega) (by omega) (eD HS.out.2 hm.below) (Nat.le_trans HS.out.1.size hm.size) rfl rfl (hm.get 0 rfl) rfl (by simp [Value.oneCell']) (by omega) ?_);intro v9 w9 ho9 hg9 hl9;have H9:Hid (w9.ownsRow w1.heap.size 9 1 v9 (i+1) (strs ((L.take i).map txt)++[.string r])∧Below w1.heap.size w1 w9):=⟨ho9,iC (cA HS.out.1 HS.out.1.size hm.below) (eD HS.out.2 hm.below) hg9⟩;clear ho9 hg9 hl9))
   go_roundw
   case rel=>exact ⟨i+1,v9,rfl,by omega,by go_num,H9.out.2,by rw [HRX.out ()];exact H9.out.1⟩
   case measure=>show N - ((i:Int)+1).toNat<N - (i:Int).toNat;omega
  ·have hin:i=N:=by omega
   subst hin
   have HE:Hid (∀_:Unit,L.take i=L):=fun _=>List.take_of_length_le (by rw [HN.out ()];exact Nat.le_refl _)
   go_wp2_with fail
   go_ret
   refine ⟨_,L,rfl,?_,HIU.out,cA HB1.out HB1.out.size HS.out.1⟩
   have h9:=HS.out.2
   rw [HE.out (),HN.out ()] at h9
   exact kj HB1.out.size h9
def keyB13 (n:Int):List Int:=n::(List.replicate 29 0++[7,0])
theorem aJ (n:Int):(keyB13 n).length=32:=by simp [keyB13]
theorem bO {n:Int} (h:0≤n∧n<256):Bytes (keyB13 n):=by
 intro x hx
 simp only [keyB13,List.mem_cons,List.mem_append,List.mem_replicate,List.not_mem_nil,or_false] at hx
 omega
theorem built_key13 (n:Int):Tryz.prog.built 43 [(0,.int .u8 n),(30,.int .u8 7)]=some (u8s (keyB13 n)).toArray:=by kernel_rfl
theorem dM (n:Int) (w:World):Calls Tryz.prog 26 #[.int .u8 n] w fun e w'=>e=.returned (.agg (u8s (keyB13 n)).toArray)∧Below w.heap.size w w':=by
 have hm:=Mem.start w
 go_enter Tryz.func26,Tryz.ntmps26
 go_wp2_with (first
  | ((with_reducible refine ae (some 2) (.alloc 43) ?_);go_must (refine ag _ aD hm ?_);clear hm;intro w1 g2 hm)
  | ((with_reducible refine ae (some 4) (.build 43 #[(0,.tmp 3),(30,.const (.int .u8 7))]) ?_);go_must (refine ay (u8s (keyB13 n)) [(0,.int .u8 n),(30,.int .u8 7)] rfl (built_key13 n) ?_))
  | ((with_reducible refine ae none (.store 43 (.tmp 2) (.tmp 4)) ?_);go_must (refine ah 0 (u8s (keyB13 n)) hm rfl rfl rfl 32 aq (by rw [aa];rfl) (by rw [aa,aJ]) (ai _) ?_);clear hm;intro w2 hm))
 refine aH 0 hm rfl Tryz.results26 rfl _ aw rfl 32 aq (by rw [aa,aJ]) rfl ?_
 exact ⟨rfl,hm.below⟩
open Go Go.RowKit Go.Sort Go.Maps
theorem clamp64:clampK 64=64:=by decide
theorem iu (w:World) (ht:Tab w) (hq:QTab w) :
  Calls Tryz.prog 9 #[] w fun e w'=>∃g mb kv sb hb d rb m,e=.returned (.tuple #[.pointer (some ⟨rb,0,none⟩),.pointer (some ⟨sb,0,none⟩),.bool true])∧Rv w w' g mb kv sb hb d newS 1000 rb m 0 (keyB13 0) [] []:=by
 have hm:=Mem.start w
 have HT:Hid (Tab w):=ht
 have HQ:Hid (QTab w):=hq
 clear ht hq
 go_enter Tryz.func9,Tryz.ntmps9
 go_wp2_with (first
  | (go_at_call 17;go_must (refine (new_anyD 64 _).mono ?_);rintro e w1 ⟨g,rfl,mb,kv,hd,hf,hb1⟩;rw [clamp64] at hd;have HD:Hid (DkAt w1 g mb kv (Dk.new 64)):=hd;have HF:Hid (∀q∈foot g mb kv,w.heap.size≤q):=fun q hq=>Nat.le_trans hm.size (hf q hq);replace hm:=hm.call hb1;clear hd hf hb1)
  | (go_at_call 18;go_must (refine (make_new (by omega) (by omega) hm HD.out HF.out (by simp) HT.out HQ.out).mono ?_);rintro e w2 ⟨sb,hb,rfl,st,_,_,_⟩;obtain ⟨d0,hd0⟩:∃x,x=makeD (Dk.new 64):=⟨_,rfl⟩;rw [←hd0] at st;clear hd0 hm HD HF)
  | (go_at_call 26;go_must (refine (dM _ _).mono ?_);rintro e w3 ⟨rfl,hb3⟩;replace st:=st.below hb3;clear hb3)
  | (go_at_call 19;go_must (refine (newR_r (keyB13 0) (aJ 0) (bO (by omega)) sb _).mono ?_);rintro e w4 ⟨rb,m,rfl,hrg,hrb,hmm,hb4⟩;have HST:Hid (Rv w w4 g mb kv sb hb d0 newS 1000 rb m 0 (keyB13 0) [] []):=⟨st.below hb4,hrg,Nat.le_trans st.mem.size hrb,Nat.le_trans st.mem.size hmm,fun hf=>(by have:=cT st.at_ _ hf;omega),fun hf=>(by have:=cT st.at_ _ hf;omega),fun r hr=>(by cases hr)⟩;clear hrg hrb hmm hb4 st))
 go_ret3
 exact ⟨g,mb,kv,sb,hb,d0,rb,m,rfl,HST.out⟩
end Go.Proofs.YtlpnafdkhoimhaaGreatDoor
