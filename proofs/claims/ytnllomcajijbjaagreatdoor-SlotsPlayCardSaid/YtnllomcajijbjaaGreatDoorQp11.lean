import Derived.Test.YtnllomcajijbjaaGreatDoorQp09
set_option maxRecDepth 100000
set_option maxHeartbeats 4000000
namespace Go.Proofs.YtnllomcajijbjaaGreatDoor
open Go Go.RowKit Go.Maps
theorem new_some (k:Nat) (hk:k≤4000) (w:World) :
  Calls Tryz.prog 5 #[.int .i64 (k:Int)] w fun e w'=>∃g,e=.returned (.pointer (some ⟨g,0,none⟩))∧∃mb kv,DkAt w' g mb kv (Dk.new (k))∧(∀q∈foot g mb kv,w.heap.size≤q)∧Below w.heap.size w w':=by
 have hm:=Mem.start w
 have h1:¬((0:Int) > (k:Int)):=by omega
 have h2:¬((4000:Int)<(k:Int)):=by omega
 go_enter Tryz.func5,Tryz.ntmps5
 go_wp2_with (first
  | ((with_reducible refine aa (some 6) (.makeSlice 50 (.tmp 5) (.tmp 5)) ?_);go_must (refine fY (k) rfl (by first|rfl|omega) rfl (by first|rfl|omega) (by omega) hm ?_);clear hm;intro w1 kb hm)
  | ((with_reducible refine aa (some 7) (.makeMap 51 none) ?_);go_must (refine gY hm ?_);intro w2 mb hm2 hmap hmb;have hkm:w.heap.size≤mb:=Nat.le_trans hm.size hmb;clear hm hmb;have hm:=hm2;clear hm2)
  | ((with_reducible refine aa (some 8) (.build 53 #[(0,.tmp 6),(1,.tmp 7)]) ?_);go_must (refine aM (drow (.slice (some ⟨kb,0,none⟩) (k) (k)) mb 0 0 false) _ rfl (by kernel_rfl) ?_))
  | ((with_reducible refine aa (some 9) (.box 53 (.tmp 8)) ?_);go_must (refine fk (drow (.slice (some ⟨kb,0,none⟩) (k) (k)) mb 0 0 false) rfl hm ?_);intro w3 g hb3 hm3;have hmap3:=(hb3.block mb (Array.getElem?_eq_some_iff.1 hmap).1).trans hmap;clear hm hmap hb3;have hm:=hm3;clear hm3))
 go_ret
 refine ⟨g,rfl,mb,.slice (some ⟨kb,0,none⟩) (k) (k),⟨Dk.new_ok _ (by omega),hm.get 0 rfl,⟨_,_,rfl,Nat.le_refl _,fun _=>⟨kb,[],rfl,by rw [List.append_nil];exact hm.get 1 rfl⟩⟩,⟨0,_,fF hmap3,PM.none⟩⟩,?_,hm.below⟩
 intro q hq
 have h1:=hm.fresh _ (List.mem_cons_self ..)
 have h2:=hm.tail.fresh _ (List.mem_cons_self ..)
 simp only [List.not_mem_nil,false_or] at h1 h2
 simp only [foot,kbOf,List.mem_cons] at hq
 rcases hq with rfl|rfl|hq
 ·exact h1
 ·exact hkm
 ·split at hq
  ·cases hq
  ·simp only [List.mem_cons,List.not_mem_nil,or_false] at hq
   subst hq
   exact h2
theorem new_none (n:Int) (hn:n<0) (w:World) :
  Calls Tryz.prog 5 #[.int .i64 n] w fun e w'=>∃g,e=.returned (.pointer (some ⟨g,0,none⟩))∧∃mb kv,DkAt w' g mb kv (Dk.new (0))∧(∀q∈foot g mb kv,w.heap.size≤q)∧Below w.heap.size w w':=by
 have hm:=Mem.start w
 have h1:(0:Int) > n:=by omega
 go_enter Tryz.func5,Tryz.ntmps5
 go_wp2_with (first
  | ((with_reducible refine aa (some 6) (.makeSlice 50 (.tmp 5) (.tmp 5)) ?_);go_must (refine fY (0) rfl (by first|rfl|omega) rfl (by first|rfl|omega) (by omega) hm ?_);clear hm;intro w1 kb hm)
  | ((with_reducible refine aa (some 7) (.makeMap 51 none) ?_);go_must (refine gY hm ?_);intro w2 mb hm2 hmap hmb;have hkm:w.heap.size≤mb:=Nat.le_trans hm.size hmb;clear hm hmb;have hm:=hm2;clear hm2)
  | ((with_reducible refine aa (some 8) (.build 53 #[(0,.tmp 6),(1,.tmp 7)]) ?_);go_must (refine aM (drow (.slice (some ⟨kb,0,none⟩) (0) (0)) mb 0 0 false) _ rfl (by kernel_rfl) ?_))
  | ((with_reducible refine aa (some 9) (.box 53 (.tmp 8)) ?_);go_must (refine fk (drow (.slice (some ⟨kb,0,none⟩) (0) (0)) mb 0 0 false) rfl hm ?_);intro w3 g hb3 hm3;have hmap3:=(hb3.block mb (Array.getElem?_eq_some_iff.1 hmap).1).trans hmap;clear hm hmap hb3;have hm:=hm3;clear hm3))
 go_ret
 refine ⟨g,rfl,mb,.slice (some ⟨kb,0,none⟩) (0) (0),⟨Dk.new_ok _ (by omega),hm.get 0 rfl,⟨_,_,rfl,Nat.le_refl _,fun _=>⟨kb,[],rfl,by rw [List.append_nil];exact hm.get 1 rfl⟩⟩,⟨0,_,fF hmap3,PM.none⟩⟩,?_,hm.below⟩
 intro q hq
 have h1:=hm.fresh _ (List.mem_cons_self ..)
 have h2:=hm.tail.fresh _ (List.mem_cons_self ..)
 simp only [List.not_mem_nil,false_or] at h1 h2
 simp only [foot,kbOf,List.mem_cons] at hq
 rcases hq with rfl|rfl|hq
 ·exact h1
 ·exact hkm
 ·split at hq
  ·cases hq
  ·simp only [List.mem_cons,List.not_mem_nil,or_false] at hq
   subst hq
   exact h2
theorem new_many (n:Int) (hn:4000<n) (w:World) :
  Calls Tryz.prog 5 #[.int .i64 n] w fun e w'=>∃g,e=.returned (.pointer (some ⟨g,0,none⟩))∧∃mb kv,DkAt w' g mb kv (Dk.new (4000))∧(∀q∈foot g mb kv,w.heap.size≤q)∧Below w.heap.size w w':=by
 have hm:=Mem.start w
 have h1:¬((0:Int) > n):=by omega
 have h2:(4000:Int)<n:=by omega
 go_enter Tryz.func5,Tryz.ntmps5
 go_wp2_with (first
  | ((with_reducible refine aa (some 6) (.makeSlice 50 (.tmp 5) (.tmp 5)) ?_);go_must (refine fY (4000) rfl (by first|rfl|omega) rfl (by first|rfl|omega) (by omega) hm ?_);clear hm;intro w1 kb hm)
  | ((with_reducible refine aa (some 7) (.makeMap 51 none) ?_);go_must (refine gY hm ?_);intro w2 mb hm2 hmap hmb;have hkm:w.heap.size≤mb:=Nat.le_trans hm.size hmb;clear hm hmb;have hm:=hm2;clear hm2)
  | ((with_reducible refine aa (some 8) (.build 53 #[(0,.tmp 6),(1,.tmp 7)]) ?_);go_must (refine aM (drow (.slice (some ⟨kb,0,none⟩) (4000) (4000)) mb 0 0 false) _ rfl (by kernel_rfl) ?_))
  | ((with_reducible refine aa (some 9) (.box 53 (.tmp 8)) ?_);go_must (refine fk (drow (.slice (some ⟨kb,0,none⟩) (4000) (4000)) mb 0 0 false) rfl hm ?_);intro w3 g hb3 hm3;have hmap3:=(hb3.block mb (Array.getElem?_eq_some_iff.1 hmap).1).trans hmap;clear hm hmap hb3;have hm:=hm3;clear hm3))
 go_ret
 refine ⟨g,rfl,mb,.slice (some ⟨kb,0,none⟩) (4000) (4000),⟨Dk.new_ok _ (by omega),hm.get 0 rfl,⟨_,_,rfl,Nat.le_refl _,fun _=>⟨kb,[],rfl,by rw [List.append_nil];exact hm.get 1 rfl⟩⟩,⟨0,_,fF hmap3,PM.none⟩⟩,?_,hm.below⟩
 intro q hq
 have h1:=hm.fresh _ (List.mem_cons_self ..)
 have h2:=hm.tail.fresh _ (List.mem_cons_self ..)
 simp only [List.not_mem_nil,false_or] at h1 h2
 simp only [foot,kbOf,List.mem_cons] at hq
 rcases hq with rfl|rfl|hq
 ·exact h1
 ·exact hkm
 ·split at hq
  ·cases hq
  ·simp only [List.mem_cons,List.not_mem_nil,or_false] at hq
   subst hq
   exact h2
def clampK (n:Int):Nat:=if n<0 then 0 else if 4000<n then 4000 else n.toNat
theorem i3 (n:Int) (w:World) :
  Calls Tryz.prog 5 #[.int .i64 n] w fun e w'=>∃g,e=.returned (.pointer (some ⟨g,0,none⟩))∧∃mb kv,DkAt w' g mb kv (Dk.new (clampK n))∧(∀q∈foot g mb kv,w.heap.size≤q)∧Below w.heap.size w w':=by
 unfold clampK
 by_cases h0:n<0
 ·rw [if_pos h0]
  exact new_none n h0 w
 ·rw [if_neg h0]
  by_cases h1:4000<n
  ·rw [if_pos h1]
   exact new_many n h1 w
  ·rw [if_neg h1]
   obtain ⟨k,rfl⟩:∃k:Nat,n=(k:Int):=⟨n.toNat,by omega⟩
   exact new_some k (by omega) w
theorem power_neg (g mb:Nat) (kv:Value) (s l a:Int) (ha:0 > a) (w:World) (hr:Row w g (drow kv mb s l false) 53) :
  Calls Tryz.prog 7 #[.pointer (some ⟨g,0,none⟩),.int .i64 a] w fun e w'=>e=.returned (.tuple #[])∧Row w' g (drow kv mb s 0 false) 53∧Upd g w w':=by
 have h1:(0:Int) > a:=ha
 have hm:=Mem.enter hr
 clear hr
 go_enter Tryz.func7,Tryz.ntmps7
 go_wp2_with (first
  | ((with_reducible refine aa (some 7) (.load 4 (.tmp 6)) ?_);refine bi 0 4 (.bool false) hm rfl rfl e6 (rfl) ?_)
  | ((with_reducible refine aa none (.store 3 (.tmp 13) (.tmp 11)) ?_);refine bm 0 3 (.int .i64 0) hm rfl (rfl) rfl dw (by show _<5;omega) rfl rfl ?_;clear hm;intro w1 hm;replace hm:Mem w [g] _ [(g,drow kv mb s 0 false,53)]:=hm))
 first|go_ret|go_end0
 exact ⟨rfl,hm.get 0 rfl,hm.toUpd⟩
theorem power_pos (g mb:Nat) (kv:Value) (s l a:Int) (ha:¬0 > a) (w:World) (hr:Row w g (drow kv mb s l false) 53) :
  Calls Tryz.prog 7 #[.pointer (some ⟨g,0,none⟩),.int .i64 a] w fun e w'=>e=.returned (.tuple #[])∧Row w' g (drow kv mb s a false) 53∧Upd g w w':=by
 have h1:¬((0:Int) > a):=ha
 have hm:=Mem.enter hr
 clear hr
 go_enter Tryz.func7,Tryz.ntmps7
 go_wp2_with (first
  | ((with_reducible refine aa (some 7) (.load 4 (.tmp 6)) ?_);refine bi 0 4 (.bool false) hm rfl rfl e6 (rfl) ?_)
  | ((with_reducible refine aa none (.store 3 (.tmp 13) (.tmp 11)) ?_);refine bm 0 3 (.int .i64 a) hm rfl (rfl) rfl dw (by show _<5;omega) rfl rfl ?_;clear hm;intro w1 hm;replace hm:Mem w [g] _ [(g,drow kv mb s a false,53)]:=hm))
 first|go_ret|go_end0
 exact ⟨rfl,hm.get 0 rfl,hm.toUpd⟩
theorem power_off (g mb:Nat) (kv:Value) (s l a:Int) (w:World) (hr:Row w g (drow kv mb s l true) 53) :
  Calls Tryz.prog 7 #[.pointer (some ⟨g,0,none⟩),.int .i64 a] w fun e w'=>e=.returned (.tuple #[])∧w'=w:=by
 have hc:w.cell? ⟨g,4,none⟩=some (.bool true):=by rw [hr.cell];rfl
 clear hr
 go_enter Tryz.func7,Tryz.ntmps7
 go_wp2
 first|go_ret|go_end0
 exact ⟨rfl,rfl⟩
theorem power_any (g mb:Nat) (kv:Value) (d:Dk) (a:Int) (w:World) (hd:DkAt w g mb kv d) :
  Calls Tryz.prog 7 #[.pointer (some ⟨g,0,none⟩),.int .i64 a] w fun e w'=>e=.returned (.tuple #[])∧DkAt w' g mb kv (d.power a)∧UpdS (foot g mb kv) w w':=by
 have hr:=hd.row
 unfold Dk.power
 obtain ⟨n,kept,pend,s,l,o⟩:=d
 simp only at hr
 cases o with
 | true =>
  rw [if_pos rfl]
  refine (power_off g mb kv s l a w hr).mono ?_
  rintro e w' ⟨rfl,hw⟩
  subst hw
  exact ⟨rfl,hd,UpdS.refl _ _⟩
 | false =>
  rw [if_neg (by simp)]
  by_cases h:0 > a
  ·refine (power_neg g mb kv s l a h w hr).mono ?_
   rintro e w' ⟨rfl,h1,h2⟩
   rw [show max a 0=0 by omega]
   exact ⟨rfl,hd.turn h2 h1 rfl rfl rfl,UpdS.of_upd h2 (hF ..)⟩
  ·refine (power_pos g mb kv s l a h w hr).mono ?_
   rintro e w' ⟨rfl,h1,h2⟩
   rw [show max a 0=a by omega]
   exact ⟨rfl,hd.turn h2 h1 rfl rfl rfl,UpdS.of_upd h2 (hF ..)⟩
theorem read_good (g mb:Nat) (kv:Value) (d:Dk) (i:Nat) (ho:d.off=false) (hi:i<d.n) (w:World) (hd:DkAt w g mb kv d) :
  Calls Tryz.prog 48 #[.pointer (some ⟨g,0,none⟩),.int .i64 i] w fun e w'=>∃q,e=.returned (.tuple #[.slice (some ⟨q,0,none⟩) 64 64,.int .i64 0])∧w.heap.size≤q∧Row w' q (u8s (d.now i)) 83∧Below w.heap.size w w':=by
 have c4:w.cell? ⟨g,4,none⟩=some (.bool d.off):=by rw [hd.row.cell];rfl
 rw [ho] at c4
 have hm:=Mem.start w
 have HD:Hid _:=hd
 have HH:Hid (d.has i=true):=by show _=_;simp [Dk.has];omega
 have HI:Hid (i<d.n):=hi
 have HZ:Hid ((u8s zeroK).length=64):=by show _=_;rw [ab];exact aL
 have HL:Hid ((u8s (d.now i)).length=64):=by show _=_;rw [ab];exact hd.ok.now hi
 clear hd ho hi
 go_enter Tryz.func48,Tryz.ntmps48
 go_wp2_with (first
  | (go_at_call 51;refine (iD g mb kv d i _ HD.out).mono ?_;rintro e w1 ⟨he,hw⟩;rw [HH.out] at he;subst he;replace hw:=hw.symm;subst hw)
  | (go_at_call 52;refine (now_any g mb kv d i HI.out _ (HD.out.mem hm)).mono ?_;rintro e w2 ⟨he,hb⟩;subst he;replace hm:=hm.call hb;clear hb)
  | ((with_reducible refine aa (some 6) (.alloc 83) ?_);refine aj _ cz hm ?_;clear hm;intro w3 q hm)
  | ((with_reducible refine aa none (.store 83 (.tmp 6) (.tmp 17)) ?_);refine ap 0 (u8s (d.now i)) hm rfl rfl rfl 64 cb (HZ.out) (HL.out) (aq _) ?_;clear hm;intro w4 hm)
  | ((with_reducible refine aa (some 18) (.slice 83 (.tmp 6) none none none) ?_);refine gA 64 cJ ev 0 64 (by omega) (by omega) rfl (Or.inr ⟨rfl,rfl⟩) (Or.inr ⟨rfl,rfl⟩) ?_))
 go_ret2
 have hf:=hm.fresh _ (List.mem_cons_self ..)
 exact ⟨q,rfl,by simpa using hf,hm.get 0 rfl,hm.below⟩
end Go.Proofs.YtnllomcajijbjaaGreatDoor
namespace Go.Proofs.YtnllomcajijbjaaGreatDoor
open Go Go.RowKit Go.Maps
theorem write_off (g mb:Nat) (kv:Value) (d:Dk) (i:Int) (v:Value) (ho:d.step.off=true) (hnu:d.Num) (w:World) (hd:DkAt w g mb kv d) :
  Calls Tryz.prog 38 #[.pointer (some ⟨g,0,none⟩),.int .i64 i,v] w fun e w'=>e=.returned (.int .i64 61)∧DkAt w' g mb kv d.step∧UpdS (foot g mb kv) w w':=by
 have HD:Hid _:=hd
 have HNU:Hid _:=hnu
 have HO:Hid (d.step.off=true):=ho
 clear hd hnu ho
 go_enter Tryz.func38,Tryz.ntmps38
 go_wp2_with (first
  | (go_at_call 50;refine (ew g mb kv d HNU.out _ HD.out).mono ?_;rintro e w1 ⟨he,hd1,hu1⟩;rw [HO.out] at he;subst he;clear HD;have HD:Hid _:=hd1;have HU1:Hid _:=hu1;clear hd1 hu1;have hm:=Mem.start w1))
 go_ret
 exact ⟨rfl,HD.out,HU1.out⟩
theorem write_no (g mb:Nat) (kv:Value) (d:Dk) (i:Int) (v:Value) (ho:d.step.off=false) (hh:d.has i=false) (hnu:d.Num) (w:World) (hd:DkAt w g mb kv d) :
  Calls Tryz.prog 38 #[.pointer (some ⟨g,0,none⟩),.int .i64 i,v] w fun e w'=>e=.returned (.int .i64 60)∧DkAt w' g mb kv d.step∧UpdS (foot g mb kv) w w':=by
 have HD:Hid _:=hd
 have HNU:Hid _:=hnu
 have HO:Hid (d.step.off=false):=ho
 have HH:Hid (d.has i=false):=hh
 clear hd hnu ho hh
 go_enter Tryz.func38,Tryz.ntmps38
 go_wp2_with (first
  | (go_at_call 50;refine (ew g mb kv d HNU.out _ HD.out).mono ?_;rintro e w1 ⟨he,hd1,hu1⟩;rw [HO.out] at he;subst he;clear HD;have HD:Hid _:=hd1;have HU1:Hid _:=hu1;clear hd1 hu1;have hm:=Mem.start w1)
  | (go_at_call 51;refine (iD g mb kv d.step i _ HD.out).mono ?_;rintro e w2 ⟨he,hw⟩;rw [show d.step.has i=false from HH.out] at he;subst he;replace hw:=hw.symm;subst hw))
 go_ret
 exact ⟨rfl,HD.out,HU1.out⟩
theorem write_long (g mb:Nat) (kv:Value) (d:Dk) (i:Int) (n cap:Nat) (p:Option Addr) (ho:d.step.off=false) (hh:d.has i=true) (hn:64<n) (hnu:d.Num) (w:World) (hd:DkAt w g mb kv d) :
  Calls Tryz.prog 38 #[.pointer (some ⟨g,0,none⟩),.int .i64 i,.slice p n cap] w fun e w'=>e=.returned (.int .i64 60)∧DkAt w' g mb kv d.step∧UpdS (foot g mb kv) w w':=by
 have HD:Hid _:=hd
 have HNU:Hid _:=hnu
 have HO:Hid (d.step.off=false):=ho
 have HH:Hid (d.has i=true):=hh
 have hn1:(n:Int) > 64:=by omega
 clear hd hnu ho hh
 go_enter Tryz.func38,Tryz.ntmps38
 go_wp2_with (first
  | (go_at_call 50;refine (ew g mb kv d HNU.out _ HD.out).mono ?_;rintro e w1 ⟨he,hd1,hu1⟩;rw [HO.out] at he;subst he;clear HD;have HD:Hid _:=hd1;have HU1:Hid _:=hu1;clear hd1 hu1;have hm:=Mem.start w1)
  | (go_at_call 51;refine (iD g mb kv d.step i _ HD.out).mono ?_;rintro e w2 ⟨he,hw⟩;rw [show d.step.has i=true from HH.out] at he;subst he;replace hw:=hw.symm;subst hw))
 go_ret
 exact ⟨rfl,HD.out,HU1.out⟩
theorem iR (g mb:Nat) (kv:Value) (d:Dk) (i:Nat) (bs:List Int) (v:Value) (ho:d.step.off=false) (hi:i<d.n) (hl:bs.length≤64) (hbb:Bytes bs) (hnu:d.Num) (w:World) (hd:DkAt w g mb kv d) (hs:SlA w (foot g mb kv) v bs) :
  Calls Tryz.prog 38 #[.pointer (some ⟨g,0,none⟩),.int .i64 i,v] w fun e w'=>e=.returned (.int .i64 0)∧DkAt w' g mb kv (d.step.put i (over (d.now i) bs))∧UpdS (foot g mb kv) w w':=by
 have HD:Hid _:=hd
 have HNU:Hid _:=hnu
 have HO:Hid (d.step.off=false):=ho
 obtain ⟨p,cap,rfl,hcap,_⟩:=id hs
 obtain ⟨bl,hbl⟩:∃bl,bl=bs.length:=⟨_,rfl⟩
 have HS:Hid (SlA w (foot g mb kv) (.slice p bl cap) bs):=by rw [hbl];exact hs
 have HH:Hid (d.has (i:Int)=true):=by show _=_;simp [Dk.has];omega
 have hbl1:¬((bl:Int) > 64):=by omega
 have hbl2:bl≤64:=by omega
 have HI:Hid (i<d.step.n):=hi
 obtain ⟨N,hN⟩:∃N,N=d.now i:=⟨_,rfl⟩
 have HNN:Hid (∀_:Unit,d.step.now i=N):=fun _=>hN.symm
 have hNl:N.length=64:=by rw [hN];exact hd.ok.now hi
 have HZ:Hid ((u8s zeroK).length=64):=by show _=_;rw [ab];exact aL
 have HNL:Hid ((u8s N).length=64):=by show _=_;rw [ab];exact hNl
 have HOL:Hid ((over N bs).length=64):=over_length hNl hl
 have HOU:Hid ((u8s (over N bs)).length=64):=by show _=_;rw [ab];exact HOL.out
 have HOB:Hid (Bytes (over N bs)):=over_bytes (by rw [hN];exact hd.ok.nowB hi) hbb
 have HSP:Hid (splice (u8s N) 0 (u8s (bs.take bl))=u8s (over N bs)):=by
  show _=_
  rw [hbl,List.take_of_length_le (Nat.le_refl _),←splice_over]
  simp [splice,u8s]
 rw [←hN,←hbl]
 clear hd hnu ho hs hN hNl hi hl hbl hbb hcap
 go_enter Tryz.func38,Tryz.ntmps38
 go_wp2_with (first
  | (go_at_call 50;refine (ew g mb kv d HNU.out _ HD.out).mono ?_;rintro e w1 ⟨he,hd1,hu1⟩;rw [HO.out] at he;subst he;clear HD;have HD:Hid _:=hd1;have HU1:Hid _:=hu1;clear hd1 hu1;have hm:=Mem.start w1)
  | (go_at_call 51;refine (iD g mb kv d.step i _ HD.out).mono ?_;rintro e w2 ⟨he,hw⟩;rw [show d.step.has i=true from HH.out] at he;subst he;replace hw:=hw.symm;subst hw)
  | (go_at_call 52;refine (now_any g mb kv d.step i HI.out _ (HD.out.mem hm)).mono ?_;rintro e w3 ⟨he,hb⟩;rw [HNN.out ()] at he;subst he;replace hm:=hm.call hb;clear hb)
  | ((with_reducible refine aa (some 7) (.alloc 83) ?_);refine aj _ cz hm ?_;clear hm;intro w4 q hm)
  | ((with_reducible refine aa none (.store 83 (.tmp 7) (.tmp 22)) ?_);refine ap 0 (u8s N) hm rfl rfl rfl 64 cb (HZ.out) (HNL.out) (aq _) ?_;clear hm;intro w5 hm)
  | ((with_reducible refine aa (some 23) (.slice 83 (.tmp 7) none none none) ?_);refine gA 64 cJ ev 0 64 (by omega) (by omega) rfl (Or.inr ⟨rfl,rfl⟩) (Or.inr ⟨rfl,rfl⟩) ?_)
  | ((with_reducible refine aa (some 25) (.call {callee:=.builtin .copy,args:=#[.tmp 23,.tmp 24],argTypes:=#[33,33]}) ?_);go_must (refine cZ 0 bs bl (u8s (over N bs)) hm rfl rfl rfl _ un_bsD ev (SlOld.mem (SlA.old (SlA.upd HS.out HU1.out)) hm) (by show bl=min bl 64;omega) (by rw [HNL.out];omega) HSP.out ?_);clear hm;intro w6 hm))
 refine cG 6 (by kernel_rfl) (by kernel_rfl) hm ?_
 clear hm
 intro w7 hm
 simp only [List.take_succ_cons,List.take_zero,List.drop_succ_cons,List.drop_zero]
 still_step
 still_step
 still_step
 refine fB 1 (.map (some mb)) (DkAt.row (HD.out.mem hm)) rfl dL rfl ?_
 still_step
 refine iE 0 0 (u8s (over N bs)) hm rfl rfl _ cJ rfl 64 cb (by rw [HOU.out];omega) (by rw [List.drop_zero,List.take_of_length_le (by rw [HOU.out];omega)]) ?_
 refine wpStill_nil ?_
 go_wp2_with (first
  | ((with_reducible refine aa none (.mapUpdate 51 (.tmp 29) (.tmp 30) (.tmp 31)) ?_);go_must (refine wpl_put i (over N bs) (HD.out.mem hm) HI.out HOL.out HOB.out rfl rfl rfl rfl ?_);intro w8 hd8 hu8;have HD8:Hid _:=hd8;have HU8:Hid _:=hu8;clear hd8 hu8))
 go_ret
 exact ⟨rfl,HD8.out,(HU1.out.trans (UpdS.of_below hm.below)).trans (UpdS.of_upd HU8.out (foot_m ..))⟩
theorem write_anyD (g mb:Nat) (kv:Value) (d:Dk) (i:Int) (bs:List Int) (v:Value) (hbb:Bytes bs) (hnu:d.Num) (w:World) (hd:DkAt w g mb kv d) (hs:SlA w (foot g mb kv) v bs) :
  Calls Tryz.prog 38 #[.pointer (some ⟨g,0,none⟩),.int .i64 i,v] w fun e w'=>e=.returned (.int .i64 (d.wcode i bs))∧DkAt w' g mb kv (d.write i bs)∧UpdS (foot g mb kv) w w':=by
 unfold Dk.wcode Dk.write
 cases ho:d.step.off with
 | true =>
  rw [if_pos rfl,if_neg (by simp)]
  exact write_off g mb kv d i v ho hnu w hd
 | false =>
  rw [if_neg (by simp)]
  cases hf:d.fits i bs with
  | true =>
   simp only [Dk.fits,Bool.and_eq_true,decide_eq_true_eq] at hf
   rw [if_pos rfl,if_pos ⟨rfl,rfl⟩]
   obtain ⟨k,rfl⟩:∃k:Nat,i=(k:Int):=⟨i.toNat,by omega⟩
   exact iR g mb kv d k bs v ho (by omega) hf.2 hbb hnu w hd hs
  | false =>
   rw [if_neg (by simp),if_neg (by simp)]
   cases hh:d.has i with
   | false=>exact write_no g mb kv d i v ho hh hnu w hd
   | true =>
    obtain ⟨p,cap,rfl,_,_⟩:=hs
    refine write_long g mb kv d i bs.length cap p ho hh ?_ hnu w hd
    unfold Dk.has at hh
    unfold Dk.fits at hf
    rw [hh,Bool.true_and] at hf
    simpa using hf
end Go.Proofs.YtnllomcajijbjaaGreatDoor
namespace Go.Proofs.YtnllomcajijbjaaGreatDoor
open Go Go.RowKit Go.Maps
def Dk.flOf (d:Dk) (left:Lit→Bool) (i:Nat):List Int :=
 match d.pend i with
 | some l=>if left (.int .i64 (i:Int))=true then d.kept i else l
 | none=>d.kept i
def Dk.fl (d:Dk) (left:Lit→Bool):Dk:={d with kept:=d.flOf left}
theorem Dk.flOf_done (d:Dk) (left:Lit→Bool) (h:∀k,left k=false):d.flOf left=d.now:=by
 funext i
 unfold Dk.flOf Dk.now
 cases d.pend i<;>simp [h]
theorem Dk.flOf_step (d:Dk) (left:Lit→Bool) (i:Nat) (l:List Int) (hp:d.pend i=some l):d.flOf (fun z=>left z && !z.sameKey (.int .i64 (i:Int)))=upf (d.flOf left) i l:=by
 funext j
 by_cases he:j=i
 ·subst he
  rw [bo]
  simp [Dk.flOf,hp,Lit.sameKey]
 ·rw [aR _ _ he]
  unfold Dk.flOf
  cases hj:d.pend j with
  | none=>rfl
  | some x =>
   have hne:¬((j:Int)=(i:Int)):=by omega
   simp [Lit.sameKey,hne]
theorem DkAt.congr {w:World} {g mb:Nat} {kv:Value} {d d':Dk} (h:DkAt w g mb kv d) (he:d=d'):DkAt w g mb kv d':=he▸h
theorem Dk.flOf_start {D:DataW Value} (d:Dk) (pm:PM D d.pend):d.flOf (Maps.has D)=d.kept:=by
 funext i
 unfold Dk.flOf
 cases hp:d.pend i with
 | none=>rfl
 | some l =>
  simp only
  rw [if_pos (by rw [pm.hasN i,hp];rfl)]
theorem flush_off (g mb:Nat) (kv:Value) (d:Dk) (ho:d.step.off=true) (hnu:d.Num) (w:World) (hd:DkAt w g mb kv d) :
  Calls Tryz.prog 39 #[.pointer (some ⟨g,0,none⟩)] w fun e w'=>e=.returned (.int .i64 61)∧DkAt w' g mb kv d.step∧UpdS (foot g mb kv) w w':=by
 have HD:Hid _:=hd
 have HNU:Hid _:=hnu
 have HO:Hid (d.step.off=true):=ho
 clear hd hnu ho
 go_enter Tryz.func39,Tryz.ntmps39
 go_wp2_with (first
  | (go_at_call 50;refine (ew g mb kv d HNU.out _ HD.out).mono ?_;rintro e w1 ⟨he,hd1,hu1⟩;rw [HO.out] at he;subst he;clear HD;have HD:Hid _:=hd1;have HU1:Hid _:=hu1;clear hd1 hu1;have hm:=Mem.start w1))
 go_ret
 exact ⟨rfl,HD.out,HU1.out⟩
theorem flush_good (g mb:Nat) (kv:Value) (d:Dk) (ho:d.step.off=false) (hnu:d.Num) (w:World) (hd:DkAt w g mb kv d) :
  Calls Tryz.prog 39 #[.pointer (some ⟨g,0,none⟩)] w fun e w'=>e=.returned (.int .i64 0)∧DkAt w' g mb kv d.step.flushed∧UpdS (foot g mb kv) w w':=by
 have HD:Hid _:=hd
 have HNU:Hid _:=hnu
 have HO:Hid (d.step.off=false):=ho
 clear hd hnu ho
 go_enter Tryz.func39,Tryz.ntmps39
 go_wp2_with (first
  | (go_at_call 50;refine (ew g mb kv d HNU.out _ HD.out).mono ?_;rintro e w1 ⟨he,hd1,hu1⟩;rw [HO.out] at he;subst he;clear HD;have HD:Hid _:=hd1;have HU1:Hid _:=hu1;clear hd1 hu1;have hm:=Mem.start w1)
  | ((with_reducible refine aa (some 11) (.load 51 (.tmp 10)) ?_);refine el 1 (.map (some mb)) (DkAt.row HD.out) rfl dL rfl ?_;obtain ⟨qn,D,ho,pm⟩:=HD.out.map;have HPM:Hid _:=pm;have HOW:Hid _:=ho;clear ho pm)
  | ((with_reducible refine aa (some 12) (.range 51 (.tmp 11)) ?_);go_must (refine wpList_range_own _ rfl _ _ rfl 3 83 cg gp rdV mb qn D rfl HOW.out ?_);intro w2 hrg0 hg0 hs0))
 have HST:Hid (DkAt w2 g mb kv (d.step.fl (Maps.has D))∧UpdS (foot g mb kv) w w2):=by
  have hb:Below w1.heap.size w1 w2:=⟨hg0.os,hg0.tape,hg0.output,hg0.size,fun k hk=>hg0.block k hk (by simp)⟩
  refine ⟨(HD.out.below hb).congr ?_,HU1.out.trans (UpdS.of_below hb)⟩
  rw [Dk.fl,Dk.flOf_start d.step HPM.out]
 have HFT:Hid (∀k∈foot g mb kv,k<w1.heap.size):=HD.out.lt
 have HOK:Hid d.step.Ok:=HD.out.ok
 have HW1:Hid (w.heap.size≤w1.heap.size):=HU1.out.size
 have HRG:Hid _:=hrg0
 clear hrg0 hg0 hs0 HOW hm HNU HO
 go_frame
 go_loopw [3] (fun _ wr=>∃(left:Lit→Bool) (cnt:Nat),wr.ranges Tryz.prog 3 rdV mb w1.heap.size qn D left cnt∧DkAt wr g mb kv (d.step.fl left)∧UpdS (foot g mb kv) w wr)
  (fun _ wr=>wr.rangeLeft mb w1.heap.size)
 case atStart=>exact ⟨_,_,HRG.out,HST.out.1,HST.out.2⟩
 case round =>
  obtain ⟨left,cnt,hrg,hdr,hur⟩:=hrel
  have HR:Hid _:=hdr
  have HUR:Hid _:=hur
  have HRR:Hid _:=hrg
  have HRL:Hid (wr.rangeLeft mb w1.heap.size=cnt):=hrg.left_eq
  clear hdr hur HRG HST HD HU1 hrg
  go_wp2_with (first
   | (at_next;refine wpList_next_ranges _ rfl _ rfl 3 cg rdV (fun x:Int=>Value.int .i64 x) id (fun key kl hk=>by obtain ⟨x,hx,_⟩:=Maps.keyOf_i64 gn hk;exact ⟨x,hx⟩) (fun v _ _=>⟨v,rfl⟩) mb w1.heap.size qn D _ _ rfl HRR.out ?_ ?_)
   | go_in)
  ·intro _ hl0
   have HL0:Hid _:=hl0
   clear hl0
   go_wp2_with (first
    | ((with_reducible refine aa (some 28) (.load 51 (.tmp 27)) ?_);refine el 1 (.map (some mb)) (DkAt.row HR.out) rfl dL rfl ?_)
    | ((with_reducible refine aa none (.call {callee:=.builtin .clear,args:=#[.tmp 28],argTypes:=#[51]}) ?_);go_must (refine wpl_clear HR.out rfl ?_);intro w9 hd9 hu9;have HD9:Hid _:=hd9;have HU9:Hid _:=hu9;clear hd9 hu9))
   go_ret
   refine ⟨rfl,HD9.out.congr ?_,HUR.out.trans (UpdS.of_upd HU9.out (foot_m ..))⟩
   show ({d.step.fl left with pend:=fun _=>none}:Dk)=d.step.flushed
   rw [Dk.fl,Dk.flOf_done d.step left HL0.out]
   rfl
  ·intro x c kl yd yp w3 cnt3 hkey hlk hv hat hrg3 hlt hg3 hs3 hen
   obtain ⟨x',ex,rfl,_⟩:=Maps.keyOf_i64 gn hkey
   obtain rfl:x=x':=encZ_inj ex
   have hhas:Maps.has D (.int .i64 x)=true:=has_true_of_atKey hat
   obtain ⟨i,rfl,hpi⟩:=(HPM.out.has x).1 hhas
   obtain ⟨l,hpl⟩:=Option.isSome_iff_exists.1 hpi
   have hc:c=.agg (u8s l).toArray:=by
    have h1:=HPM.out.val i l hpl (.held c)
    rw [hat] at h1
    have h2:=ef hv
    rw [h2] at h1
    simpa using h1
   subst hc
   have hok:=HOK.out.pend i l hpl
   have hb3:DkAt w3 g mb kv (d.step.fl left)∧UpdS (foot g mb kv) w w3:=by
    have hk:∀k∈foot g mb kv,w3.heap[k]?=wr.heap[k]?:=fun k hk=>hg3.block k (HR.out.lt k hk) (fun e=>by
     have:=HFT.out k hk
     simp only [Option.some.injEq] at e
     omega)
    refine ⟨HR.out.keep hk,⟨hg3.os.trans HUR.out.os,hg3.tape.trans HUR.out.tape,hg3.output.trans HUR.out.output,Nat.le_trans HUR.out.size hg3.size,fun k hk hn=>?_⟩⟩
    refine (hg3.block k (Nat.lt_of_lt_of_le hk HUR.out.size) (fun e=>?_)).trans (HUR.out.block k hk hn)
    have:=HW1.out
    simp only [Option.some.injEq] at e
    omega
   have HB3:Hid _:=hb3.1
   have HU3:Hid _:=hb3.2
   have HLL:Hid ((u8s l).length=64):=by show _=_;rw [ab];exact hok.2.1
   have HL1:Hid (l.length=64):=hok.2.1
   have HLB:Hid (Bytes l):=hok.2.2
   have HZ:Hid ((u8s zeroK).length=64):=by show _=_;rw [ab];exact aL
   have HPL:Hid (d.step.pend i=some l):=hpl
   have HRG3:Hid (w3.ranges Tryz.prog 3 rdV mb w1.heap.size qn D (fun z=>left z && !z.sameKey (.int .i64 (i:Int))) cnt3):=hrg3
   have hi:i<d.step.n:=hok.1
   obtain ⟨kb,cap,tl,hkv,hcap,hrk⟩:=hb3.1.kept.some (by show 0<d.step.n;omega)
   have HKV:Hid (∀_:Unit,kv=.slice (some ⟨kb,0,none⟩) d.step.n cap):=fun _=>hkv
   have HKB:Hid (∀_:Unit,kb∈kbOf kv):=fun _=>by rw [hkv];simp [kbOf];show ¬d.step.n=0;omega
   obtain ⟨n,hn⟩:∃n,n=d.step.n:=⟨_,rfl⟩
   have HN:Hid (∀_:Unit,d.step.n=n):=fun _=>hn.symm
   have HKE:Hid (kv=.slice (some ⟨kb,0,none⟩) n cap):=by show _=_;rw [hkv,hn];rfl
   rw [←hn] at hi
   have hm:=Mem.start w3
   clear hkey hlk hv hat hg3 hs3 ex hhas hpi hok hb3 hkv hcap hrk hn HR HUR hrg3 hpl HRR
   go_wp2_with (first
    | ((with_reducible refine aa (some 4) (.alloc 83) ?_);refine aj _ cz hm ?_;clear hm;intro w4 q hm)
    | ((with_reducible refine aa none (.store 83 (.tmp 4) (.tmp 17)) ?_);refine ap 0 (u8s l) hm rfl rfl rfl 64 cb (HZ.out) (HLL.out) (aq _) ?_;clear hm;intro w5 hm))
   refine cG 6 (by kernel_rfl) (by kernel_rfl) hm ?_
   clear hm
   intro w6 hm
   simp only [List.take_succ_cons,List.take_zero,List.drop_succ_cons,List.drop_zero]
   still_step
   still_step
   still_step
   refine fB 0 (.slice (some ⟨kb,0,none⟩) n cap) (DkAt.row (HB3.out.mem hm)) rfl fJ (by rw [←HKE.out];rfl) ?_
   still_step
   refine iE 0 0 (u8s l) hm rfl rfl _ cJ rfl 64 cb (by rw [HLL.out];omega) (by rw [List.drop_zero,List.take_of_length_le (by rw [HLL.out];omega)]) ?_
   refine wpStill_nil ?_
   go_wp2_with (first
    | ((with_reducible refine aa (some 24) (.indexAddr 50 (.tmp 21) (.tmp 22)) ?_);refine ae (.pointer (some ⟨kb,i * 64,none⟩)) rfl (eC i rfl rfl rfl hi) ?_)
    | ((with_reducible refine aa none (.store 83 (.tmp 24) (.tmp 23)) ?_);go_must (refine wpl_stK (d:=d.step.fl left) i l (by have h:=HB3.out.mem hm;rw [HKE.out] at h;exact h) (HN.out ()) hi rfl rfl HL1.out HLB.out ?_);intro w7 hd7 hu7;have HD7:Hid _:=hd7;have HU7:Hid _:=hu7;clear hd7 hu7))
   have hrg3':w3.ranges Tryz.prog 3 rdV mb w1.heap.size qn D (fun z=>left z && !z.sameKey (.int .i64 (i:Int))) cnt3:=HRG3.out
   have hrg7:=World.ranges.kept (World.ranges.kept hrg3' (dW hm.below) (by simp) (by simp)) (gv HU7.out) (by
    have:=(DkAt.ne_k (HB3.out.mem hm) kb (HKB.out ())).2
    intro e
    exact this (Option.some.inj e).symm) (by
    have:=HFT.out kb (by simp only [foot,List.mem_cons];exact Or.inr (Or.inr (HKB.out ())))
    intro e
    have:=Option.some.inj e
    omega)
   have HRG7:Hid (w7.ranges Tryz.prog 3 rdV mb w1.heap.size qn D (fun z=>left z && !z.sameKey (.int .i64 (i:Int))) cnt3):=hrg7
   have HRL7:Hid (w7.rangeLeft mb w1.heap.size=cnt3):=hrg7.left_eq
   clear hrg7 hrg3'
   go_frame
   go_roundw
   case rel =>
    refine ⟨_,cnt3,HRG7.out,?_,(HU3.out.trans (UpdS.of_below hm.below)).trans (UpdS.of_upd HU7.out (by simp only [foot,List.mem_cons];exact Or.inr (Or.inr (HKB.out ()))))⟩
    have h7:=HD7.out
    rw [←HKE.out] at h7
    refine h7.congr ?_
    show ({d.step.fl left with kept:=upf (d.step.flOf left) i l}:Dk)=d.step.fl _
    rw [Dk.fl,Dk.fl,Dk.flOf_step d.step left i l HPL.out]
   case measure=>rw [HRL7.out,HRL.out];exact hlt
theorem flush_any (g mb:Nat) (kv:Value) (d:Dk) (hnu:d.Num) (w:World) (hd:DkAt w g mb kv d) :
  Calls Tryz.prog 39 #[.pointer (some ⟨g,0,none⟩)] w fun e w'=>e=.returned (.int .i64 d.fcode)∧DkAt w' g mb kv d.flush∧UpdS (foot g mb kv) w w':=by
 unfold Dk.fcode Dk.flush
 cases ho:d.step.off with
 | true =>
  rw [if_pos rfl,if_pos rfl]
  exact flush_off g mb kv d ho hnu w hd
 | false =>
  rw [if_neg (by simp),if_neg (by simp)]
  exact flush_good g mb kv d ho hnu w hd
end Go.Proofs.YtnllomcajijbjaaGreatDoor
