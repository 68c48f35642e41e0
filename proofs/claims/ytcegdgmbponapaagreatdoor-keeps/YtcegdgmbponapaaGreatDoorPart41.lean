import Derived.Test.YtcegdgmbponapaaGreatDoorPart40
import Derived.Deep.SlicePairs
set_option maxRecDepth 100000
set_option maxHeartbeats 4000000
namespace Go.Proofs.YtcegdgmbponapaaGreatDoor
open Go.RowKit
attribute [local go_sem ↓] Go.wp_at_zero Go.wp_at_succ
def qch (L:Seat) (s:Sta):List ByteArray:=(qaG L s).map fun r=>⟨r.toArray⟩
theorem qda (L:Seat) (s:Sta):strs (qaG L s)=(qch L s).map .string:=by
 unfold qch strs str
 rw [List.map_map]
 rfl
theorem qd0 (L:Seat) (s:Sta):(qch L s).length=L.n:=by simp [qch,qaG]
theorem qhz {w:World} {L:Seat} {s:Sta} {G:Nat} {wv ov:Value} (kind a b:Int) (nm vl:ByteArray) (pm pt pl:Int) (tp:ByteArray) (yes:Bool) (tt:Int) (hg:Gm w G L.C L.n L.key wv s.p.done ov) (h:Bank w L s)
  (D:Sta→Prop) (hD:∀s',D s'→qaG L s'=qaG L s∧s'.p.done=s.p.done∨(L.n:Int)≤wrap64 (s'.p.done-s.p.done)) (Q:Sta→Value→World→Prop) (hQ:∀s' v w w',Q s' v w→Below w.heap.size w w'→Q s' v w')
  (H1:∀w1,Below w.heap.size w w1→Calls Tryz.prog 109 #[.pointer (some ⟨G,0,none⟩),.agg #[.int .i64 kind,.int .i64 a,.int .i64 b,.string nm,.string vl,.int .i64 pm,.int .i64 pt,.int .i64 pl,.string tp,.bool yes,.int .i64 tt]] w1 fun e w2=>e=.returned (.bool true)∧∃s' wv',Bank w2 L s'∧Calm L s'∧Gm w2 G L.C L.n L.key wv' s'.p.done ov∧D s'∧Q s' wv' w2∧qaa (fun b=>Mine L s b∨b=G) w1 w2) :
  Calls Tryz.prog 64 #[.pointer (some ⟨G,0,none⟩),.agg #[.int .i64 kind,.int .i64 a,.int .i64 b,.string nm,.string vl,.int .i64 pm,.int .i64 pt,.int .i64 pl,.string tp,.bool yes,.int .i64 tt]] w fun e w'=>e=.returned (.bool true)∧∃s' wv',Bank w' L s'∧Calm L s'∧Gm w' G L.C L.n L.key wv' s'.p.done ov∧D s'∧Q s' wv' w'∧qaa (fun b=>Mine L s b∨b=G) w w':=by
 have hn8:=h.n8
 have HG:=hid hg
 have HBK:=hid h
 have HDD:=hid hD
 have HQ:=hid hQ
 have HH1:=hid H1
 have hGl:=cells_lt hg
 have HOWN:=hid (show ∀b,Mine L s b∨b=G→b<w.heap.size from fun b hb=>hb.elim (fun h1=>h.mine_lt h1) (fun e=>by rw [e];exact hGl))
 clear hg h hD hQ H1
 go_enter Tryz.func64,Tryz.ntmps64
 obtain ⟨w1,hw1⟩:∃w1,w1=w.alloc (.cells #[.int .i64 kind,.int .i64 a,.int .i64 b,.string nm,.string vl,.int .i64 pm,.int .i64 pt,.int .i64 pl,.string tp,.bool yes,.int .i64 tt] 91):=⟨_,rfl⟩
 have hb01:Below w.heap.size w w1:=by rw [hw1];exact (Below.refl _ _).alloc nl _
 have g0:w1.cell? ⟨G,0,none⟩=some (.pointer (some ⟨L.C,0,none⟩)):=cq (HG.out.below hb01) rfl
 rw [hw1] at g0
 go_wp2_with fail
 have hB1:w1.heap[w.heap.size]?=some (.cells #[.int .i64 kind,.int .i64 a,.int .i64 b,.string nm,.string vl,.int .i64 pm,.int .i64 pt,.int .i64 pl,.string tp,.bool yes,.int .i64 tt] 91):=by rw [hw1];exact alloc_at _ _
 rw [←hw1]
 obtain ⟨B0,hB0⟩:∃B0,B0=w.heap.size:=⟨_,rfl⟩
 rw [←hB0] at hB1 ⊢
 have HB0:=hid hB0
 have HB1:=hid hB1
 clear hw1 hB0 hB1 g0
 refine ((HBK.out.below hb01).images_go).mono ?_
 rintro e w2 ⟨ig,rfl,hrow,hb12⟩
 have hb02:Below w.heap.size w w2:=hb01.trans (hb12.mono hb01.size)
 have hB2:=(hb12.block B0 (cells_lt HB1.out)).trans HB1.out
 have x0:w2.cell? ⟨B0,0,none⟩=some (.int .i64 kind):=cq hB2 rfl
 have x1:w2.cell? ⟨B0,1,none⟩=some (.int .i64 a):=cq hB2 rfl
 have x2:w2.cell? ⟨B0,2,none⟩=some (.int .i64 b):=cq hB2 rfl
 have x3:w2.cell? ⟨B0,3,none⟩=some (.string nm):=cq hB2 rfl
 have x4:w2.cell? ⟨B0,4,none⟩=some (.string vl):=cq hB2 rfl
 have x5:w2.cell? ⟨B0,5,none⟩=some (.int .i64 pm):=cq hB2 rfl
 have x6:w2.cell? ⟨B0,6,none⟩=some (.int .i64 pt):=cq hB2 rfl
 have x7:w2.cell? ⟨B0,7,none⟩=some (.int .i64 pl):=cq hB2 rfl
 have x8:w2.cell? ⟨B0,8,none⟩=some (.string tp):=cq hB2 rfl
 have x9:w2.cell? ⟨B0,9,none⟩=some (.bool yes):=cq hB2 rfl
 have x10:w2.cell? ⟨B0,10,none⟩=some (.int .i64 tt):=cq hB2 rfl
 have hg2:=HG.out.below hb02
 have g4:w2.cell? ⟨G,4,none⟩=some (.int .i64 s.p.done):=cq hg2 rfl
 have HB2:=hid hB2
 have HROW2:=hid hrow
 have higl:=hrow.lt ig rfl
 have hz1:=hb01.size
 clear hrow hg2 hB2
 go_wp2_with fail
 refine (HH1.out w2 hb02).mono ?_
 rintro e w3 ⟨rfl,s',wv',hbk,hcm,hg3,hd,hq,hs3⟩
 have hbm:=HOWN.out
 have hB3:=hs3.heap HB2.out (fun e=>by have:=hbm B0 e;have:=HB0.out;omega)
 have HROW3:=hid (qab HROW2.out hs3 (fun b hb e=>by have:=(HROW2.out.lt b hb).1;have:=hbm b e;omega))
 have HB3:=hid hB3
 have HS03:=hid (show qaa (fun b=>Mine L s b∨b=G) w w3 from (qaa.ofBelow hb02 nl).trans hs3)
 have g0:w3.cell? ⟨G,0,none⟩=some (.pointer (some ⟨L.C,0,none⟩)):=cq hg3 rfl
 have HG3:=hid hg3
 have HIM:=hid hbk.images_go
 have HBK3:=hid hbk
 have HCM:=hid hcm
 have HD3:=hid hd
 have HQ3:=hid hq
 clear x0 x1 x2 x3 x4 x5 x6 x7 x8 x9 x10 g4 hbk hcm hg3 hd hq hB3 hs3 hbm
 go_wp2_with fail
 refine HIM.out.mono ?_
 rintro e w4 ⟨jg,rfl,hrow4,hb34⟩
 have HROW4:=hid hrow4
 have HR3:=hid (qae HROW3.out hb34 nl)
 have HMV:=hid (qjS (some ⟨ig,0,none⟩) (some ⟨jg,0,none⟩) L.n L.n L.n (qch L s) (qch L s') w4 (qd0 L s).symm (qd0 L s').symm hn8 (by rw [←qda];exact qaC HR3.out) (by rw [←qda];exact qaC hrow4))
 clear hrow4 HIM g0
 go_wp2_with fail
 refine HMV.out.mono ?_
 rintro e w5 ⟨j,rfl,hjn,hj0,hb45⟩
 have HJ0:=hid hj0
 have hb35:Below w3.heap.size w3 w5:=hb34.trans (hb45.mono hb34.size)
 have hB5:=(hb35.block B0 (cells_lt HB3.out)).trans HB3.out
 have n3:w5.cell? ⟨B0,3,none⟩=some (.string nm):=cq hB5 rfl
 have HLD:=hid (qla (HG3.out.below hb35) (HBK3.out.below hb35) HCM.out jg L.n nm (qaC (qae HROW4.out hb45 nl)))
 clear hj0 HMV hB5
 go_wp2_with fail
 refine HLD.out.mono ?_
 rintro e w6 ⟨rfl,hb56⟩
 have hb36:Below w3.heap.size w3 w6:=hb35.trans (hb56.mono hb35.size)
 have hg6:=HG3.out.below hb36
 have g1:w6.cell? ⟨G,1,none⟩=some (.int .i64 L.n):=cq hg6 rfl
 have g4:w6.cell? ⟨G,4,none⟩=some (.int .i64 s'.p.done):=cq hg6 rfl
 have HE:=hid (show ∃s' wv',Bank w6 L s'∧Calm L s'∧Gm w6 G L.C L.n L.key wv' s'.p.done ov∧D s'∧Q s' wv' w6∧qaa (fun b=>Mine L s b∨b=G) w w6 from ⟨s',wv',HBK3.out.below hb36,HCM.out,hg6,HD3.out,HQ.out _ _ _ _ HQ3.out hb36,HS03.out.trans (qaa.ofBelow hb36 nl)⟩)
 have hle:(j:Int)≤wrap64 (s'.p.done-s.p.done):=by
  rcases HDD.out s' HD3.out with ⟨h1,h2⟩|h1
  ·rw [HJ0.out (by unfold qch;rw [h1]),h2,Int.sub_self]
   exact Int.le_of_eq (Go.IntWalk.wrap64_in 0 (by decide)).symm
  ·omega
 generalize s'.p.done=d1 at *
 generalize s.p.done=d0 at *
 clear HLD hg6 n3
 go_wp2_with fail
 go_ret
 exact ⟨rfl,HE.out⟩
section
variable {w:World} {G:Nat} {L:Seat} {s:Sta} {P:Nat} {dv:Value} {xs:List RObj} {wv ov:Value} {ls:List KL}
theorem Play.change_of (h:Play w G L s P dv xs wv ov ls) (kind a b:Int) (nm vl:ByteArray) (pm pt pl:Int) (tp:ByteArray) (yes:Bool) (tt:Int)
  (H1:∀w1,Below w.heap.size w w1→Calls Tryz.prog 109 #[.pointer (some ⟨G,0,none⟩),.agg #[.int .i64 kind,.int .i64 a,.int .i64 b,.string nm,.string vl,.int .i64 pm,.int .i64 pt,.int .i64 pl,.string tp,.bool yes,.int .i64 tt]] w1 fun e w2=>qbE w1 G L s ov ls e w2) :
  Calls Tryz.prog 64 #[.pointer (some ⟨G,0,none⟩),.agg #[.int .i64 kind,.int .i64 a,.int .i64 b,.string nm,.string vl,.int .i64 pm,.int .i64 pt,.int .i64 pl,.string tp,.bool yes,.int .i64 tt]] w fun e w'=>qaK w G L ov ls e w':=by
 refine (qhz kind a b nm vl pm pt pl tp yes tt h.gm h.bank (fun s'=>qaG L s'=qaG L s∧s'.p.done=s.p.done∨(L.n:Int)≤wrap64 (s'.p.done-s.p.done)) (fun s' hs=>hs) (fun s' v w'=>∃P' dv' xs',Play w' G L s' P' dv' xs' v ov ls) ?_ ?_).mono ?_
 ·rintro s' v w1 w2 ⟨P',dv',xs',hp⟩ hb
  exact ⟨P',dv',xs',hp.below hb⟩
 ·intro w1 hb
  refine (H1 w1 hb).mono ?_
  rintro e w2 ⟨rfl,s',wv',P',dv',xs',hp,hd,hs⟩
  exact ⟨rfl,s',wv',hp.bank,hp.calm,hp.gm,hd,⟨P',dv',xs',hp⟩,hs⟩
 ·rintro e w' ⟨rfl,s',wv',_,_,_,_,⟨P',dv',xs',hp⟩,hs⟩
  exact ⟨rfl,s',P',dv',xs',wv',hp,h.own_lower hs⟩
theorem qaK.step {w':World} {e:Ending} (h:qaK w G L ov ls e w'):qaI w G L ls e w':=by
 obtain ⟨h1,s',P',dv',xs',wv',hp,hb⟩:=h
 exact ⟨h1,s',P',dv',xs',wv',ov,ls,hp,by omega,hb⟩
theorem qgf (a b:Int) (nm vl:ByteArray) (pm pt pl:Int) (tp:ByteArray) (yes:Bool) (tt:Int) (h:Play w G L s P dv xs wv ov ls) (HX:∀w1,Play w1 G L s P dv xs wv ov ls→Calls Tryz.prog 64 #[.pointer (some ⟨G,0,none⟩),.agg #[.int .i64 2,.int .i64 a,.int .i64 b,.string nm,.string vl,.int .i64 pm,.int .i64 pt,.int .i64 pl,.string tp,.bool yes,.int .i64 tt]] w1 fun e w2=>qaK w1 G L ov ls e w2) :
  Calls Tryz.prog 40 #[.pointer (some ⟨G,0,none⟩),.agg #[.int .i64 2,.int .i64 a,.int .i64 b,.string nm,.string vl,.int .i64 pm,.int .i64 pt,.int .i64 pl,.string tp,.bool yes,.int .i64 tt]] w fun e w'=>qaI w G L ls e w':=by
 have HPH:=hid (show ∀w1,Below w.heap.size w w1→Calls Tryz.prog 64 #[.pointer (some ⟨G,0,none⟩),.agg #[.int .i64 2,.int .i64 a,.int .i64 b,.string nm,.string vl,.int .i64 pm,.int .i64 pt,.int .i64 pl,.string tp,.bool yes,.int .i64 tt]] w1 fun e w2=>qaI w G L ls e w2 from fun w1 hb=>(HX w1 (h.below hb)).mono fun e w2 hp=>by
  obtain ⟨h1,s',P',dv',xs',wv',ov',ls',hp',hl,hb'⟩:=hp.step
  exact ⟨h1,s',P',dv',xs',wv',ov',ls',hp',hl,(hb.mono h.bank.G.bs).trans hb'⟩)
 clear h HX
 go_enter Tryz.func40,Tryz.ntmps40
 have hb01:Below w.heap.size w (w.alloc (.cells #[.int .i64 2,.int .i64 a,.int .i64 b,.string nm,.string vl,.int .i64 pm,.int .i64 pt,.int .i64 pl,.string tp,.bool yes,.int .i64 tt] 91)):=(Below.refl _ _).alloc nl _
 go_wp2_with fail
 refine (HPH.out _ hb01).mono ?_
 rintro e w2 hp
 obtain ⟨rfl,hp⟩:=hp
 have HE:=hid hp
 clear hp
 go_wp2_with fail
 go_ret
 exact ⟨rfl,HE.out⟩
theorem qgv (a b:Int) (nm vl:ByteArray) (pm pt pl:Int) (tp:ByteArray) (yes:Bool) (tt:Int) (h:Play w G L s P dv xs wv ov ls) (HX:∀w1,Play w1 G L s P dv xs wv ov ls→Calls Tryz.prog 64 #[.pointer (some ⟨G,0,none⟩),.agg #[.int .i64 4,.int .i64 a,.int .i64 b,.string nm,.string vl,.int .i64 pm,.int .i64 pt,.int .i64 pl,.string tp,.bool yes,.int .i64 tt]] w1 fun e w2=>qaK w1 G L ov ls e w2) :
  Calls Tryz.prog 40 #[.pointer (some ⟨G,0,none⟩),.agg #[.int .i64 4,.int .i64 a,.int .i64 b,.string nm,.string vl,.int .i64 pm,.int .i64 pt,.int .i64 pl,.string tp,.bool yes,.int .i64 tt]] w fun e w'=>qaI w G L ls e w':=by
 have HPH:=hid (show ∀w1,Below w.heap.size w w1→Calls Tryz.prog 64 #[.pointer (some ⟨G,0,none⟩),.agg #[.int .i64 4,.int .i64 a,.int .i64 b,.string nm,.string vl,.int .i64 pm,.int .i64 pt,.int .i64 pl,.string tp,.bool yes,.int .i64 tt]] w1 fun e w2=>qaI w G L ls e w2 from fun w1 hb=>(HX w1 (h.below hb)).mono fun e w2 hp=>by
  obtain ⟨h1,s',P',dv',xs',wv',ov',ls',hp',hl,hb'⟩:=hp.step
  exact ⟨h1,s',P',dv',xs',wv',ov',ls',hp',hl,(hb.mono h.bank.G.bs).trans hb'⟩)
 clear h HX
 go_enter Tryz.func40,Tryz.ntmps40
 have hb01:Below w.heap.size w (w.alloc (.cells #[.int .i64 4,.int .i64 a,.int .i64 b,.string nm,.string vl,.int .i64 pm,.int .i64 pt,.int .i64 pl,.string tp,.bool yes,.int .i64 tt] 91)):=(Below.refl _ _).alloc nl _
 go_wp2_with fail
 refine (HPH.out _ hb01).mono ?_
 rintro e w2 hp
 obtain ⟨rfl,hp⟩:=hp
 have HE:=hid hp
 clear hp
 go_wp2_with fail
 go_ret
 exact ⟨rfl,HE.out⟩
theorem qgt (a b:Int) (nm vl:ByteArray) (pm pt pl:Int) (tp:ByteArray) (yes:Bool) (tt:Int) (h:Play w G L s P dv xs wv ov ls) (HX:∀w1,Play w1 G L s P dv xs wv ov ls→Calls Tryz.prog 64 #[.pointer (some ⟨G,0,none⟩),.agg #[.int .i64 5,.int .i64 a,.int .i64 b,.string nm,.string vl,.int .i64 pm,.int .i64 pt,.int .i64 pl,.string tp,.bool yes,.int .i64 tt]] w1 fun e w2=>qaK w1 G L ov ls e w2) :
  Calls Tryz.prog 40 #[.pointer (some ⟨G,0,none⟩),.agg #[.int .i64 5,.int .i64 a,.int .i64 b,.string nm,.string vl,.int .i64 pm,.int .i64 pt,.int .i64 pl,.string tp,.bool yes,.int .i64 tt]] w fun e w'=>qaI w G L ls e w':=by
 have HPH:=hid (show ∀w1,Below w.heap.size w w1→Calls Tryz.prog 64 #[.pointer (some ⟨G,0,none⟩),.agg #[.int .i64 5,.int .i64 a,.int .i64 b,.string nm,.string vl,.int .i64 pm,.int .i64 pt,.int .i64 pl,.string tp,.bool yes,.int .i64 tt]] w1 fun e w2=>qaI w G L ls e w2 from fun w1 hb=>(HX w1 (h.below hb)).mono fun e w2 hp=>by
  obtain ⟨h1,s',P',dv',xs',wv',ov',ls',hp',hl,hb'⟩:=hp.step
  exact ⟨h1,s',P',dv',xs',wv',ov',ls',hp',hl,(hb.mono h.bank.G.bs).trans hb'⟩)
 clear h HX
 go_enter Tryz.func40,Tryz.ntmps40
 have hb01:Below w.heap.size w (w.alloc (.cells #[.int .i64 5,.int .i64 a,.int .i64 b,.string nm,.string vl,.int .i64 pm,.int .i64 pt,.int .i64 pl,.string tp,.bool yes,.int .i64 tt] 91)):=(Below.refl _ _).alloc nl _
 go_wp2_with fail
 refine (HPH.out _ hb01).mono ?_
 rintro e w2 hp
 obtain ⟨rfl,hp⟩:=hp
 have HE:=hid hp
 clear hp
 go_wp2_with fail
 go_ret
 exact ⟨rfl,HE.out⟩
theorem qhS (a b:Int) (nm vl:ByteArray) (pm pt pl:Int) (tp:ByteArray) (yes:Bool) (tt:Int) (h:Play w G L s P dv xs wv ov ls) (HX:∀w1,Play w1 G L s P dv xs wv ov ls→Calls Tryz.prog 65 #[.pointer (some ⟨G,0,none⟩),.agg #[.int .i64 3,.int .i64 a,.int .i64 b,.string nm,.string vl,.int .i64 pm,.int .i64 pt,.int .i64 pl,.string tp,.bool yes,.int .i64 tt]] w1 fun e w2=>qaK w1 G L ov ls e w2) :
  Calls Tryz.prog 40 #[.pointer (some ⟨G,0,none⟩),.agg #[.int .i64 3,.int .i64 a,.int .i64 b,.string nm,.string vl,.int .i64 pm,.int .i64 pt,.int .i64 pl,.string tp,.bool yes,.int .i64 tt]] w fun e w'=>qaI w G L ls e w':=by
 have HPH:=hid (show ∀w1,Below w.heap.size w w1→Calls Tryz.prog 65 #[.pointer (some ⟨G,0,none⟩),.agg #[.int .i64 3,.int .i64 a,.int .i64 b,.string nm,.string vl,.int .i64 pm,.int .i64 pt,.int .i64 pl,.string tp,.bool yes,.int .i64 tt]] w1 fun e w2=>qaK w G L ov ls e w2 from fun w1 hb=>(HX w1 (h.below hb)).mono fun e w2 hp=>by
  obtain ⟨h1,s',P',dv',xs',wv',hp',hb'⟩:=hp
  exact ⟨h1,s',P',dv',xs',wv',hp',(hb.mono h.bank.G.bs).trans hb'⟩)
 clear h HX
 go_enter Tryz.func40,Tryz.ntmps40
 have hb01:Below w.heap.size w (w.alloc (.cells #[.int .i64 3,.int .i64 a,.int .i64 b,.string nm,.string vl,.int .i64 pm,.int .i64 pt,.int .i64 pl,.string tp,.bool yes,.int .i64 tt] 91)):=(Below.refl _ _).alloc nl _
 go_wp2_with fail
 refine (HPH.out _ hb01).mono ?_
 rintro e w2 ⟨rfl,s',P',dv',xs',wv',hp,hb2⟩
 have HD:=hid hp.done_zero
 clear hp
 go_wp2_with fail
 refine HD.out.mono ?_
 rintro e w3 ⟨rfl,hp3,hb3⟩
 have HE:=hid (show ∃s P dv xs wv ov ls',Play w3 G L s P dv xs wv ov ls'∧ls'.length≤ls.length+4∧Below L.base w w3 from ⟨s',P',dv',xs',wv',ov,ls,hp3,by omega,hb2.trans hb3⟩)
 clear hp3 HD
 go_wp2_with fail
 go_ret
 exact ⟨rfl,HE.out⟩
theorem qi6 (a b:Int) (nm vl:ByteArray) (pm pt pl:Int) (tp:ByteArray) (yes:Bool) (tt:Int) (h:Play w G L s P dv xs wv ov ls) (HX:∀w1,Play w1 G L s P dv xs wv ov ls→Calls Tryz.prog 65 #[.pointer (some ⟨G,0,none⟩),.agg #[.int .i64 7,.int .i64 a,.int .i64 b,.string nm,.string vl,.int .i64 pm,.int .i64 pt,.int .i64 pl,.string tp,.bool yes,.int .i64 tt]] w1 fun e w2=>qaK w1 G L ov ls e w2) :
  Calls Tryz.prog 40 #[.pointer (some ⟨G,0,none⟩),.agg #[.int .i64 7,.int .i64 a,.int .i64 b,.string nm,.string vl,.int .i64 pm,.int .i64 pt,.int .i64 pl,.string tp,.bool yes,.int .i64 tt]] w fun e w'=>qaI w G L ls e w':=by
 have HPH:=hid (show ∀w1,Below w.heap.size w w1→Calls Tryz.prog 65 #[.pointer (some ⟨G,0,none⟩),.agg #[.int .i64 7,.int .i64 a,.int .i64 b,.string nm,.string vl,.int .i64 pm,.int .i64 pt,.int .i64 pl,.string tp,.bool yes,.int .i64 tt]] w1 fun e w2=>qaK w G L ov ls e w2 from fun w1 hb=>(HX w1 (h.below hb)).mono fun e w2 hp=>by
  obtain ⟨h1,s',P',dv',xs',wv',hp',hb'⟩:=hp
  exact ⟨h1,s',P',dv',xs',wv',hp',(hb.mono h.bank.G.bs).trans hb'⟩)
 clear h HX
 go_enter Tryz.func40,Tryz.ntmps40
 have hb01:Below w.heap.size w (w.alloc (.cells #[.int .i64 7,.int .i64 a,.int .i64 b,.string nm,.string vl,.int .i64 pm,.int .i64 pt,.int .i64 pl,.string tp,.bool yes,.int .i64 tt] 91)):=(Below.refl _ _).alloc nl _
 go_wp2_with fail
 refine (HPH.out _ hb01).mono ?_
 rintro e w2 ⟨rfl,s',P',dv',xs',wv',hp,hb2⟩
 have HD:=hid hp.done_zero
 clear hp
 go_wp2_with fail
 refine HD.out.mono ?_
 rintro e w3 ⟨rfl,hp3,hb3⟩
 have HE:=hid (show ∃s P dv xs wv ov ls',Play w3 G L s P dv xs wv ov ls'∧ls'.length≤ls.length+4∧Below L.base w w3 from ⟨s',P',dv',xs',wv',ov,ls,hp3,by omega,hb2.trans hb3⟩)
 clear hp3 HD
 go_wp2_with fail
 go_ret
 exact ⟨rfl,HE.out⟩
theorem qjM (a b:Int) (nm vl:ByteArray) (pm pt pl:Int) (tp:ByteArray) (yes:Bool) (tt:Int) (h:Play w G L s P dv xs wv ov ls) (HX:∀w1,Play w1 G L s P dv xs wv ov ls→Calls Tryz.prog 67 #[.pointer (some ⟨G,0,none⟩),.agg #[.int .i64 6,.int .i64 a,.int .i64 b,.string nm,.string vl,.int .i64 pm,.int .i64 pt,.int .i64 pl,.string tp,.bool yes,.int .i64 tt]] w1 fun e w2=>qaK w1 G L ov ls e w2) :
  Calls Tryz.prog 40 #[.pointer (some ⟨G,0,none⟩),.agg #[.int .i64 6,.int .i64 a,.int .i64 b,.string nm,.string vl,.int .i64 pm,.int .i64 pt,.int .i64 pl,.string tp,.bool yes,.int .i64 tt]] w fun e w'=>qaI w G L ls e w':=by
 have HPH:=hid (show ∀w1,Below w.heap.size w w1→Calls Tryz.prog 67 #[.pointer (some ⟨G,0,none⟩),.agg #[.int .i64 6,.int .i64 a,.int .i64 b,.string nm,.string vl,.int .i64 pm,.int .i64 pt,.int .i64 pl,.string tp,.bool yes,.int .i64 tt]] w1 fun e w2=>qaK w G L ov ls e w2 from fun w1 hb=>(HX w1 (h.below hb)).mono fun e w2 hp=>by
  obtain ⟨h1,s',P',dv',xs',wv',hp',hb'⟩:=hp
  exact ⟨h1,s',P',dv',xs',wv',hp',(hb.mono h.bank.G.bs).trans hb'⟩)
 clear h HX
 go_enter Tryz.func40,Tryz.ntmps40
 have hb01:Below w.heap.size w (w.alloc (.cells #[.int .i64 6,.int .i64 a,.int .i64 b,.string nm,.string vl,.int .i64 pm,.int .i64 pt,.int .i64 pl,.string tp,.bool yes,.int .i64 tt] 91)):=(Below.refl _ _).alloc nl _
 go_wp2_with fail
 refine (HPH.out _ hb01).mono ?_
 rintro e w2 ⟨rfl,s',P',dv',xs',wv',hp,hb2⟩
 have HD:=hid hp.done_zero
 clear hp
 go_wp2_with fail
 refine HD.out.mono ?_
 rintro e w3 ⟨rfl,hp3,hb3⟩
 have HE:=hid (show ∃s P dv xs wv ov ls',Play w3 G L s P dv xs wv ov ls'∧ls'.length≤ls.length+4∧Below L.base w w3 from ⟨s',P',dv',xs',wv',ov,ls,hp3,by omega,hb2.trans hb3⟩)
 clear hp3 HD
 go_wp2_with fail
 go_ret
 exact ⟨rfl,HE.out⟩
theorem qfX (a b:Int) (nm vl:ByteArray) (pm pt pl:Int) (tp:ByteArray) (yes:Bool) (tt:Int) (h:Play w G L s P dv xs wv ov ls) (HX:∀w1,Play w1 G L s P dv xs wv ov ls→Calls Tryz.prog 68 #[.pointer (some ⟨G,0,none⟩),.agg #[.int .i64 8,.int .i64 a,.int .i64 b,.string nm,.string vl,.int .i64 pm,.int .i64 pt,.int .i64 pl,.string tp,.bool yes,.int .i64 tt]] w1 fun e w2=>qaK w1 G L ov ls e w2) :
  Calls Tryz.prog 40 #[.pointer (some ⟨G,0,none⟩),.agg #[.int .i64 8,.int .i64 a,.int .i64 b,.string nm,.string vl,.int .i64 pm,.int .i64 pt,.int .i64 pl,.string tp,.bool yes,.int .i64 tt]] w fun e w'=>qaI w G L ls e w':=by
 have HPH:=hid (show ∀w1,Below w.heap.size w w1→Calls Tryz.prog 68 #[.pointer (some ⟨G,0,none⟩),.agg #[.int .i64 8,.int .i64 a,.int .i64 b,.string nm,.string vl,.int .i64 pm,.int .i64 pt,.int .i64 pl,.string tp,.bool yes,.int .i64 tt]] w1 fun e w2=>qaK w G L ov ls e w2 from fun w1 hb=>(HX w1 (h.below hb)).mono fun e w2 hp=>by
  obtain ⟨h1,s',P',dv',xs',wv',hp',hb'⟩:=hp
  exact ⟨h1,s',P',dv',xs',wv',hp',(hb.mono h.bank.G.bs).trans hb'⟩)
 clear h HX
 go_enter Tryz.func40,Tryz.ntmps40
 have hb01:Below w.heap.size w (w.alloc (.cells #[.int .i64 8,.int .i64 a,.int .i64 b,.string nm,.string vl,.int .i64 pm,.int .i64 pt,.int .i64 pl,.string tp,.bool yes,.int .i64 tt] 91)):=(Below.refl _ _).alloc nl _
 go_wp2_with fail
 refine (HPH.out _ hb01).mono ?_
 rintro e w2 ⟨rfl,s',P',dv',xs',wv',hp,hb2⟩
 have HD:=hid hp.done_zero
 clear hp
 go_wp2_with fail
 refine HD.out.mono ?_
 rintro e w3 ⟨rfl,hp3,hb3⟩
 have HE:=hid (show ∃s P dv xs wv ov ls',Play w3 G L s P dv xs wv ov ls'∧ls'.length≤ls.length+4∧Below L.base w w3 from ⟨s',P',dv',xs',wv',ov,ls,hp3,by omega,hb2.trans hb3⟩)
 clear hp3 HD
 go_wp2_with fail
 go_ret
 exact ⟨rfl,HE.out⟩
theorem qif (a b:Int) (nm vl:ByteArray) (pm pt pl:Int) (tp:ByteArray) (yes:Bool) (tt:Int) (h:Play w G L s P dv xs wv ov ls) (hfit:(ls.length+4)*24≤140737488355328) :
  Calls Tryz.prog 40 #[.pointer (some ⟨G,0,none⟩),.agg #[.int .i64 1,.int .i64 a,.int .i64 b,.string nm,.string vl,.int .i64 pm,.int .i64 pt,.int .i64 pl,.string tp,.bool yes,.int .i64 tt]] w fun e w'=>qaI w G L ls e w':=by
 have HPH:=hid (show ∀w1,Below w.heap.size w w1→Calls Tryz.prog 42 #[.pointer (some ⟨G,0,none⟩)] w1 fun e w2=>qaI w G L ls e w2 from fun w1 hb=>((h.below hb).looks_any hfit).mono fun e w2 hp=>by
  obtain ⟨h1,s',P',dv',xs',wv',ov',ls',hp',hl,hb'⟩:=hp
  exact ⟨h1,s',P',dv',xs',wv',ov',ls',hp',hl,(hb.mono h.bank.G.bs).trans hb'⟩)
 clear h
 go_enter Tryz.func40,Tryz.ntmps40
 have hb01:Below w.heap.size w (w.alloc (.cells #[.int .i64 1,.int .i64 a,.int .i64 b,.string nm,.string vl,.int .i64 pm,.int .i64 pt,.int .i64 pl,.string tp,.bool yes,.int .i64 tt] 91)):=(Below.refl _ _).alloc nl _
 go_wp2_with fail
 refine (HPH.out _ hb01).mono ?_
 rintro e w2 hp
 obtain ⟨rfl,hp⟩:=hp
 have HE:=hid hp
 clear hp
 go_wp2_with fail
 go_ret
 exact ⟨rfl,HE.out⟩
theorem step_none (kind a b:Int) (nm vl:ByteArray) (pm pt pl:Int) (tp:ByteArray) (yes:Bool) (tt:Int) (h:Play w G L s P dv xs wv ov ls) (hk:kind<1∨11<kind) :
  Calls Tryz.prog 40 #[.pointer (some ⟨G,0,none⟩),.agg #[.int .i64 kind,.int .i64 a,.int .i64 b,.string nm,.string vl,.int .i64 pm,.int .i64 pt,.int .i64 pl,.string tp,.bool yes,.int .i64 tt]] w fun e w'=>qaI w G L ls e w':=by
 have n1:((kind:Int) == 1)=false:=by have:=hk;simp;omega
 have n2:((kind:Int) == 2)=false:=by have:=hk;simp;omega
 have n3:((kind:Int) == 3)=false:=by have:=hk;simp;omega
 have n4:((kind:Int) == 4)=false:=by have:=hk;simp;omega
 have n5:((kind:Int) == 5)=false:=by have:=hk;simp;omega
 have n6:((kind:Int) == 6)=false:=by have:=hk;simp;omega
 have n7:((kind:Int) == 7)=false:=by have:=hk;simp;omega
 have n8:((kind:Int) == 8)=false:=by have:=hk;simp;omega
 have n9:((kind:Int) == 9)=false:=by have:=hk;simp;omega
 have n10:((kind:Int) == 10)=false:=by have:=hk;simp;omega
 have n11:((kind:Int) == 11)=false:=by have:=hk;simp;omega
 have HE:=hid (show ∃s P dv xs wv ov ls',Play (w.alloc (.cells #[.int .i64 kind,.int .i64 a,.int .i64 b,.string nm,.string vl,.int .i64 pm,.int .i64 pt,.int .i64 pl,.string tp,.bool yes,.int .i64 tt] 91)) G L s P dv xs wv ov ls'∧ls'.length≤ls.length+4∧Below L.base w (w.alloc (.cells #[.int .i64 kind,.int .i64 a,.int .i64 b,.string nm,.string vl,.int .i64 pm,.int .i64 pt,.int .i64 pl,.string tp,.bool yes,.int .i64 tt] 91)) from ⟨s,P,dv,xs,wv,ov,ls,h.below ((Below.refl _ _).alloc nl _),by omega,((Below.refl w.heap.size w).alloc nl _).mono h.bank.G.bs⟩)
 clear h hk
 go_enter Tryz.func40,Tryz.ntmps40
 have hb01:Below w.heap.size w (w.alloc (.cells #[.int .i64 kind,.int .i64 a,.int .i64 b,.string nm,.string vl,.int .i64 pm,.int .i64 pt,.int .i64 pl,.string tp,.bool yes,.int .i64 tt] 91)):=(Below.refl _ _).alloc nl _
 go_wp2_with fail
 go_ret
 exact ⟨rfl,HE.out⟩
theorem Play.step_any (h:Play w G L s P dv xs wv ov ls) (kind a b:Int) (nm vl:ByteArray) (pm pt pl:Int) (tp:ByteArray) (yes:Bool) (tt:Int) (hfit:(ls.length+4)*24≤140737488355328) (hk:kind≤8) (ha:I64 a) (hb:I64 b) (hpm:I64 pm) (hpt:I64 pt) (hpl:I64 pl) (hnm:nm.size≤9223372036854775807) (hvl:vl.size≤9223372036854775807) (htp:tp.size≤9223372036854775807) :
  Calls Tryz.prog 40 #[.pointer (some ⟨G,0,none⟩),.agg #[.int .i64 kind,.int .i64 a,.int .i64 b,.string nm,.string vl,.int .i64 pm,.int .i64 pt,.int .i64 pl,.string tp,.bool yes,.int .i64 tt]] w fun e w'=>qaI w G L ls e w':=by
 by_cases h1:kind<1
 ·exact step_none kind a b nm vl pm pt pl tp yes tt h (.inl h1)
 have hkk:kind=1∨kind=2∨kind=3∨kind=4∨kind=5∨kind=6∨kind=7∨kind=8:=by omega
 rcases hkk with rfl | rfl | rfl | rfl | rfl | rfl | rfl | rfl
 ·exact qif a b nm vl pm pt pl tp yes tt h hfit
 ·exact qgf a b nm vl pm pt pl tp yes tt h fun w1 hp=>hp.change_of 2 a b nm vl pm pt pl tp yes tt fun w2 hb2=>(hp.below hb2).change1_put a b nm vl pm pt pl tp yes tt hpm hpt hpl hnm hvl htp
 ·exact qhS a b nm vl pm pt pl tp yes tt h fun w1 hp=>hp.asks_get_any a b nm vl pm pt pl tp yes tt
 ·exact qgv a b nm vl pm pt pl tp yes tt h fun w1 hp=>hp.change_of 4 a b nm vl pm pt pl tp yes tt fun w2 hb2=>(hp.below hb2).change1_del a b nm vl pm pt pl tp yes tt
 ·exact qgt a b nm vl pm pt pl tp yes tt h fun w1 hp=>hp.change_of 5 a b nm vl pm pt pl tp yes tt fun w2 hb2=>(hp.below hb2).change1_ref a b nm vl pm pt pl tp yes tt htp
 ·exact qjM a b nm vl pm pt pl tp yes tt h fun w1 hp=>hp.ups_any 6 a b nm vl pm pt pl tp yes tt ha
 ·exact qi6 a b nm vl pm pt pl tp yes tt h fun w1 hp=>hp.asks_shard_any a b nm vl pm pt pl tp yes tt ha
 ·exact qfX a b nm vl pm pt pl tp yes tt h fun w1 hp=>hp.spoils_any 8 a b nm vl pm pt pl tp yes tt ha hb
end
structure qbW where
 kind:Int
 a:Int
 b:Int
 nm:ByteArray
 vl:ByteArray
 pm:Int
 pt:Int
 pl:Int
 tp:ByteArray
 yes:Bool
 tt:Int
def qbW.cells (s:qbW):List Value:=[.int .i64 s.kind,.int .i64 s.a,.int .i64 s.b,.string s.nm,.string s.vl,.int .i64 s.pm,.int .i64 s.pt,.int .i64 s.pl,.string s.tp,.bool s.yes,.int .i64 s.tt]
structure qbW.Ok (s:qbW):Prop where
 kind:I64 s.kind
 a:I64 s.a
 b:I64 s.b
 nm:s.nm.size≤maxLen
 vl:s.vl.size≤maxLen
 pm:I64 s.pm
 pt:I64 s.pt
 pl:I64 s.pl
 tp:s.tp.size≤maxLen
 tt:I64 s.tt
def qcc (ss:List qbW):List Value:=ss.flatMap qbW.cells
theorem qeE (ss:List qbW):(qcc ss).length=ss.length*11:=by
 induction ss with
 | nil=>rfl
 | cons s ss ih=>simp only [qcc,List.flatMap_cons,List.length_append] at ih ⊢;rw [ih];simp [qbW.cells];omega
theorem qdv (ss:List qbW) (k j:Nat) (hk:k<ss.length) (hj:j<11):(qcc ss)[k*11+j]?=(ss[k]).cells[j]?:=by
 induction ss generalizing k with
 | nil=>simp at hk
 | cons s ss ih =>
  cases k with
  | zero =>
   simp only [qcc,List.flatMap_cons,List.getElem_cons_zero,Nat.zero_mul,Nat.zero_add]
   rw [List.getElem?_append_left (by simp [qbW.cells];exact hj)]
  | succ k =>
   have:=ih k (by simpa using hk)
   simp only [qcc,List.flatMap_cons,List.getElem_cons_succ] at this ⊢
   rw [←this,List.getElem?_append_right (by simp [qbW.cells];omega),show (k+1)*11+j-s.cells.length=k*11+j by simp [qbW.cells];omega]
theorem qhJ {w:World} {sa:Option Addr} {ss:List qbW} (h:Rd w sa (qcc ss)) (k:Nat) (hk:k<ss.length):∃b o,sa=some ⟨b,o,none⟩∧∀j,j<11→w.cell? ⟨b,o+k*11+j,none⟩=(ss[k]).cells[j]?:=by
 have h1:∀j,j<11→∃v,(ss[k]).cells[j]?=some v:=fun j hj=>⟨_,List.getElem?_eq_getElem (by simpa [qbW.cells] using hj)⟩
 obtain ⟨v,hv⟩:=h1 0 (by decide)
 obtain ⟨b,o,e,_,_⟩:=h (k*11+0) v ((qdv ss k 0 hk (by decide)).trans hv)
 refine ⟨b,o,e,fun j hj=>?_⟩
 obtain ⟨v,hv⟩:=h1 j hj
 obtain ⟨b',o',e',_,hc⟩:=h (k*11+j) v ((qdv ss k j hk hj).trans hv)
 rw [e] at e'
 cases e'
 rw [Nat.add_assoc,hc,hv]
theorem qiT {w0 w:World} {G:Nat} {L:Seat} {s:Sta} {P:Nat} {dv:Value} {xs:List RObj} {wv ov:Value} (h:Play w G L s P dv xs wv ov []) (ss:List qbW) (sa:Option Addr) (q sc:Nat) (last:Int) (hq:q=ss.length) (hfit:(4*q+12)*24≤140737488355328) (hsr:Rd w0 sa (qcc ss)) (hbs:L.base=w0.heap.size) (hb0:Below L.base w0 w) (hok:∀s∈ss,s.Ok) (hlast:last≤8) :
  Calls Tryz.prog 11 #[.pointer (some ⟨G,0,none⟩),.pointer (some ⟨G,0,none⟩),.slice sa q sc,.int .i64 last] w fun e w'=>e=.returned (.bool true)∧Below L.base w w':=by
 have HP:=hid h
 have HQ:=hid hq
 have HSR:=hid (show ∀k,k<q→∃t:qbW,t.Ok∧∃b o,sa=some ⟨b,o,none⟩∧∀w',Below L.base w w'→∀j,j<11→w'.cell? ⟨b,o+k*11+j,none⟩=t.cells[j]? from fun k hk=>by
  have hk':k<ss.length:=by omega
  obtain ⟨b,o,e,_⟩:=qhJ hsr k hk'
  refine ⟨ss[k],hok _ (List.getElem_mem _),b,o,e,fun w' hb j hj=>?_⟩
  obtain ⟨b',o',e',hc⟩:=qhJ (hsr.below (hb0.trans hb) (Nat.le_of_eq hbs.symm)) k hk'
  rw [e] at e'
  cases e'
  exact hc j hj)
 clear h hsr hb0 hok hq hbs
 go_enter Tryz.func11,Tryz.ntmps11
 go_wp2_with fail
 go_loopw [9] (fun u wr=>∃(k:Nat) (s:Sta) (P:Nat) (dv:Value) (xs:List RObj) (wv ov:Value) (ls:List KL),u=.int .i64 k∧k≤q∧Play wr G L s P dv xs wv ov ls∧ls.length≤4*k∧Below L.base w wr) (fun u _=>q-(intOf u).toNat)
 case atStart=>exact ⟨0,s,P,dv,xs,wv,ov,[],rfl,Nat.zero_le _,HP.out,Nat.le_refl _,bl⟩
 case round =>
  obtain ⟨k,s,P,dv,xs,wv,ov,ls,rfl,hk,hp,hl,hbr⟩:=hrel
  have HPR:=hid hp
  clear hp
  by_cases hlt:k<q
  ·have hlt':(k:Int)<(q:Int):=by omega
   have hk0:(0:Int)≤(k:Int):=by omega
   obtain ⟨⟨kind,a,b,nm,vl,pm,pt,pl,tp,yes,tt⟩,hok,sb,so,rfl,hcell⟩:=HSR.out k hlt
   have hc:=hcell wr hbr
   have x0:wr.cell? ⟨sb,so+k*11,none⟩=some (.int .i64 kind):=hc 0 (by decide)
   have x1:wr.cell? ⟨sb,so+k*11+1,none⟩=some (.int .i64 a):=hc 1 (by decide)
   have x2:wr.cell? ⟨sb,so+k*11+2,none⟩=some (.int .i64 b):=hc 2 (by decide)
   have x3:wr.cell? ⟨sb,so+k*11+3,none⟩=some (.string nm):=hc 3 (by decide)
   have x4:wr.cell? ⟨sb,so+k*11+4,none⟩=some (.string vl):=hc 4 (by decide)
   have x5:wr.cell? ⟨sb,so+k*11+5,none⟩=some (.int .i64 pm):=hc 5 (by decide)
   have x6:wr.cell? ⟨sb,so+k*11+6,none⟩=some (.int .i64 pt):=hc 6 (by decide)
   have x7:wr.cell? ⟨sb,so+k*11+7,none⟩=some (.int .i64 pl):=hc 7 (by decide)
   have x8:wr.cell? ⟨sb,so+k*11+8,none⟩=some (.string tp):=hc 8 (by decide)
   have x9:wr.cell? ⟨sb,so+k*11+9,none⟩=some (.bool yes):=hc 9 (by decide)
   have x10:wr.cell? ⟨sb,so+k*11+10,none⟩=some (.int .i64 tt):=hc 10 (by decide)
   have HOK:=hid hok
   clear hok hc hcell
   by_cases hkl:last<kind
   ·go_wp2_with fail
    go_roundw
    case rel=>exact ⟨k+1,s,P,dv,xs,wv,ov,ls,by go_num,hlt,HPR.out,by omega,hbr⟩
    case measure=>simp [intOf];omega
   ·have HST:=hid (HPR.out.step_any kind a b nm vl pm pt pl tp yes tt (by omega) (by omega) HOK.out.a HOK.out.b HOK.out.pm HOK.out.pt HOK.out.pl HOK.out.nm HOK.out.vl HOK.out.tp)
    by_cases ht:tt.tmod 2=0
    ·have ht':(tt.tmod 2 == 0)=true:=by simpa using ht
     go_wp2_with fail
     refine HST.out.mono ?_
     rintro e w2 ⟨rfl,s2,P2,dv2,xs2,wv2,ov2,ls2,hp2,hl2,hb2⟩
     have HRD:=hid (hp2.bk.reads_any hp2.gm (by omega))
     have HE:=hid (show Play w2 G L s2 P2 dv2 xs2 wv2 ov2 ls2∧ls2.length≤4*(k+1)∧Below L.base w w2 from ⟨hp2,by omega,hbr.trans hb2⟩)
     clear hp2 x0 x1 x2 x3 x4 x5 x6 x7 x8 x9 x10 HST
     go_wp2_with fail
     refine HRD.out.mono ?_
     rintro e w3 ⟨rfl,hw3⟩
     obtain rfl:=hw3.symm
     go_wp2_with fail
     go_roundw
     case rel=>exact ⟨k+1,s2,P2,dv2,xs2,wv2,ov2,ls2,by go_num,hlt,HE.out⟩
     case measure=>simp [intOf];omega
    ·have ht':(tt.tmod 2 == 0)=false:=by simpa using ht
     go_wp2_with fail
     refine HST.out.mono ?_
     rintro e w2 ⟨rfl,s2,P2,dv2,xs2,wv2,ov2,ls2,hp2,hl2,hb2⟩
     have HRD:=hid (hp2.bk.reads_any hp2.gm (by omega))
     have HE:=hid (show Play w2 G L s2 P2 dv2 xs2 wv2 ov2 ls2∧ls2.length≤4*(k+1)∧Below L.base w w2 from ⟨hp2,by omega,hbr.trans hb2⟩)
     clear hp2 x0 x1 x2 x3 x4 x5 x6 x7 x8 x9 x10 HST
     go_wp2_with fail
     refine HRD.out.mono ?_
     rintro e w3 ⟨rfl,hw3⟩
     obtain rfl:=hw3.symm
     go_wp2_with fail
     go_roundw
     case rel=>exact ⟨k+1,s2,P2,dv2,xs2,wv2,ov2,ls2,by go_num,hlt,HE.out⟩
     case measure=>simp [intOf];omega
  ·have hlt':¬(k:Int)<(q:Int):=by omega
   have HL1:=hid (HPR.out.looks_any (by omega))
   go_wp2_with fail
   refine HL1.out.mono ?_
   rintro e w2 ⟨rfl,s2,P2,dv2,xs2,wv2,ov2,ls2,hp2,hl2,hb2⟩
   have HL2:=hid (hp2.looks_any (by omega))
   clear hp2 HL1
   go_wp2_with fail
   refine HL2.out.mono ?_
   rintro e w3 ⟨rfl,s3,P3,dv3,xs3,wv3,ov3,ls3,hp3,hl3,hb3⟩
   have HE:=hid (show Below L.base w w3 from (hbr.trans hb2).trans hb3)
   clear hp3 HL2 hb2 hb3 hbr
   go_wp2_with fail
   go_ret
   exact ⟨rfl,HE.out⟩
theorem qbV.play {w:World} {n key:Nat} {e:Ending} {w':World} (h:qbV w n key e w'):∃G L s P dv xs wv ov,e=.returned (.pointer (some ⟨G,0,none⟩))∧Play w' G L s P dv xs wv ov []∧L.base=w.heap.size∧Below L.base w w':=by
 obtain ⟨G,L,s,P,dv,wv,rfl,hB,hLb,hLn,hLk,hrs,hdn,hp,hg,hr,hw,hPb,hGb,hb,hdb⟩:=h
 subst hLn hLk
 have hrss:s.rss=fun _=>[]:=funext hrs
 refine ⟨G,L,s,P,dv,[],wv,_,rfl,⟨hB,⟨by rw [hp],?_⟩,by rw [hp],by rw [hp];exact hg,by rw [hLb];exact hGb,by rw [hLb];exact hr,hw.dn_congr fun i _=>hdn i,by rw [hLb];exact hdb,?_,⟨World.ownsRow_nil _ _ _ _,fun i hi=>by simp at hi⟩,rfl,by rw [hp];unfold I64;decide⟩,hLb,by rw [hLb];exact hb⟩
 ·rw [hrss]
  exact ⟨fun _ _=>rfl,fun _ _ r hr=>absurd hr (List.not_mem_nil),fun _ _ r hr=>absurd hr (List.not_mem_nil)⟩
 ·rw [hrss]
  exact ⟨rfl,fun x hx=>by cases hx⟩
theorem qjp (nr:Int) (key:Nat) (ss:List qbW) (sa:Option Addr) (q sc:Nat) (w:World) (hnr:I64 nr) (hk:key<18446744073709551616) (hq:q=ss.length) (hfit:(4*q+12)*24≤140737488355328) (hsr:Rd w sa (qcc ss)) (hok:∀s∈ss,s.Ok) (hT:Tab w) (hE:qaJ w) :
  Calls Tryz.prog 3 #[.int .i64 nr,.int .u64 key,.slice sa q sc] w fun e w'=>e=.returned (.bool true)∧Below w.heap.size w w':=by
 have HB:=hid (qjK nr key w hnr hk hT hE)
 have HPL:=hid (show ∀w1 G L s P dv xs wv ov,Play w1 G L s P dv xs wv ov []→L.base=w.heap.size→Below L.base w w1→Calls Tryz.prog 11 #[.pointer (some ⟨G,0,none⟩),.pointer (some ⟨G,0,none⟩),.slice sa q sc,.int .i64 7] w1 fun e w'=>e=.returned (.bool true)∧Below w.heap.size w w' from fun w1 G L s P dv xs wv ov hp hLb hb=>(qiT hp ss sa q sc 7 hq hfit hsr hLb hb hok (by decide)).mono fun e w2 ⟨h1,h2⟩=>⟨h1,by rw [←hLb];exact hb.trans h2⟩)
 clear hnr hk hq hfit hsr hok hT hE
 go_enter Tryz.func3,Tryz.ntmps3
 go_wp2_with fail
 refine HB.out.mono ?_
 intro e w1 hp
 obtain ⟨G,L,s,P,dv,xs,wv,ov,rfl,hp,hLb,hb⟩:=hp.play
 have HC:=hid (HPL.out w1 G L s P dv xs wv ov hp hLb hb)
 clear hp HB HPL
 go_wp2_with fail
 refine HC.out.mono ?_
 rintro e w2 ⟨rfl,hb2⟩
 have HE:=hid hb2
 clear HC hb2
 go_wp2_with fail
 go_ret
 exact ⟨rfl,HE.out⟩
end Go.Proofs.YtcegdgmbponapaaGreatDoor
namespace Go.Proofs.YtcegdgmbponapaaGreatDoor
open Go.ChangeShapes Go.WideShapes Go.ChangeAt Go.RowKit Go.Joins
instance : Inhabited qbW:=⟨⟨0,0,0,ByteArray.empty,ByteArray.empty,0,0,0,ByteArray.empty,false,0⟩⟩
theorem Tryz.cellsLStep:Tryz.prog.cellsOf 91=11:=by kernel_rfl
theorem Tryz.cellsBool:Tryz.prog.cellsOf 4=1:=by kernel_rfl
theorem Tryz.bytesLStep:Tryz.prog.bytesOf 91=112:=by kernel_rfl
theorem qeA {H:Type} {enc:TypeId × Value→H} {W:World} {base:Nat} {v:Value} {d:DataW H} {p:List MemPlace} (hv:Value.okWide Tryz.prog W .any base 23 v) (h:DataW.Trod enc Tryz.prog W 0 (fun _=>true) true 23 v d p) :
  ∃(a:Option Addr) (len cap:Nat) (ss:List qbW),v=.slice a len cap∧len=ss.length∧Rd W a (qcc ss)∧(∀s∈ss,s.Ok)∧(0<len→∃es sp,d=.slice es sp∧len≤es.length+sp.length):=by
 obtain ⟨a0,len,cap,rfl⟩:=okWide_slice Tryz.underlying23 hv
 obtain ⟨fuel,hf⟩:=h
 rcases Deep.open_slice Tryz.underlying23 hf with ⟨hcs,hx⟩|⟨a,len',cap',m,n,D,Pl,hcs,_,hl,hmx,hm,hx,hall⟩
 ·simp [Value.cells] at hcs
  obtain ⟨rfl,rfl,rfl⟩:=hcs
  exact ⟨_,_,_,[],rfl,rfl,Rd.nil _ _,fun z hz=>(by cases hz),fun h=>(by omega)⟩
 ·simp [Value.cells] at hcs
  obtain ⟨rfl,rfl,rfl⟩:=hcs
  simp only [if_true] at hm
  have each:∀i,i<len→∃s:qbW,s.Ok∧∀j,j<11→W.cell? ((a.add (i*11)).add j)=s.cells[j]?:=fun i hi=>by
   obtain ⟨cs',h1,h2⟩:=hall i (by omega)
   rw [Tryz.cellsLStep] at h1
   obtain ⟨_,hlen,hcell⟩:=World.cells?_some h1
   obtain ⟨xs,k,hk,hxy,_,hxl,hfl⟩:=DataW.trod_struct Tryz.underlying91 h2
   match xs,hxl,cs',hlen with
   | [y0,y1,y2,y3,y4,y5,y6,y7,y8],_,[v0,v1,v2,v3,v4,v5,v6,v7,v8,v9,v10],_ =>
    have g0:=hfl 0 _ rfl
    have g1:=hfl 1 _ rfl
    have g2:=hfl 2 _ rfl
    have g3:=hfl 3 _ rfl
    have g4:=hfl 4 _ rfl
    have g5:=hfl 5 _ rfl
    have g6:=hfl 6 _ rfl
    have g7:=hfl 7 _ rfl
    have g8:=hfl 8 _ rfl
    simp [Tryz.cellsInt,Tryz.cellsText,Tryz.cellsPlan,Tryz.cellsBool] at g0 g1 g2 g3 g4 g5 g6 g7 g8
    obtain ⟨z0,e0,_,w0⟩:=DataW.trod_int Tryz.underlying3 g0
    obtain ⟨z1,e1,_,w1⟩:=DataW.trod_int Tryz.underlying3 g1
    obtain ⟨z2,e2,_,w2⟩:=DataW.trod_int Tryz.underlying3 g2
    obtain ⟨s3,e3,_,w3⟩:=DataW.trod_string Tryz.underlying9 g3
    obtain ⟨s4,e4,_,w4⟩:=DataW.trod_string Tryz.underlying9 g4
    obtain ⟨ys,n2,_,_,_,hyl,hyf⟩:=DataW.trod_struct Tryz.underlying29 g5
    have t0:=hyf 0 _ rfl
    have t1:=hyf 1 _ rfl
    have t2:=hyf 2 _ rfl
    obtain ⟨q0,hq0⟩:∃q0,ys[0]?=some q0:=⟨_,List.getElem?_eq_getElem (by rw [hyl];decide)⟩
    obtain ⟨q1,hq1⟩:∃q1,ys[1]?=some q1:=⟨_,List.getElem?_eq_getElem (by rw [hyl];decide)⟩
    obtain ⟨q2,hq2⟩:∃q2,ys[2]?=some q2:=⟨_,List.getElem?_eq_getElem (by rw [hyl];decide)⟩
    rw [hq0] at t0
    rw [hq1] at t1
    rw [hq2] at t2
    simp [Tryz.cellsInt] at t0 t1 t2
    obtain ⟨z5,e5,_,w5⟩:=DataW.trod_int Tryz.underlying3 t0
    obtain ⟨z6,e6,_,w6⟩:=DataW.trod_int Tryz.underlying3 t1
    obtain ⟨z7,e7,_,w7⟩:=DataW.trod_int Tryz.underlying3 t2
    obtain ⟨s8,e8,_,w8⟩:=DataW.trod_string Tryz.underlying9 g6
    obtain ⟨b9,e9,_⟩:=DataW.trod_bool Tryz.underlying4 g7
    obtain ⟨z10,e10,_,w10⟩:=DataW.trod_int Tryz.underlying3 g8
    simp at e0 e1 e2 e3 e4 e5 e6 e7 e8 e9 e10
    subst e0 e1 e2 e3 e4 e5 e6 e7 e8 e9 e10
    exact ⟨⟨z0,z1,z2,s3,s4,z5,z6,z7,s8,b9,z10⟩,⟨qby w0,qby w1,qby w2,w3,w4,qby w5,qby w6,qby w7,w8,qby w10⟩,fun j hj=>hcell j hj⟩
  obtain ⟨f,hfs⟩:=Deep.choose_lt each
  refine ⟨_,_,_,(List.range len).map f,rfl,by simp,?_,fun s hs=>?_,?_⟩
  ·intro k u hku
   have hkl:k<len*11:=by
    rcases Nat.lt_or_ge k (len*11) with h' | h'
    ·exact h'
    ·rw [List.getElem?_eq_none (by rw [qeE];simpa using h')] at hku;simp at hku
   have hi:k / 11<len:=by omega
   have hj:k % 11<11:=Nat.mod_lt _ (by decide)
   have hc:=(hfs (k / 11) hi).2 (k % 11) hj
   have hat:=qdv ((List.range len).map f) (k / 11) (k % 11) (by simpa using hi) hj
   rw [show k / 11*11+k % 11=k by omega,hku] at hat
   simp only [List.getElem_map,List.getElem_range] at hat
   rw [←hat,Deep.add_add,show k / 11*11+k % 11=k by omega] at hc
   obtain ⟨b,off,spot⟩:=a
   have hspot:spot=none:=by
    have h0:=(hfs 0 (by omega)).2 0 (by decide)
    rw [Deep.add_add] at h0
    have h0':W.cell? ((⟨b,off,spot⟩:Addr).add 0)=some (.int .i64 (f 0).kind):=h0
    simpa [Addr.add] using World.cell?_spot h0'
   subst hspot
   rw [qaW] at hc
   exact ⟨b,off,rfl,World.block_lt_of_cell? W _ hc,hc⟩
  ·obtain ⟨i,hi,rfl⟩:=List.mem_map.1 hs
   exact (hfs i (List.mem_range.1 hi)).1
  ·intro _
   simp only [Prod.mk.injEq] at hx
   exact ⟨_,_,hx.1,by simp⟩
theorem qf5:(Rows.keepsRow.inPlace == Tryz.pinned.checked.prog.inPlace 3)=true:=by kernel_rfl
theorem qdF:(Rows.keepsRow.unfollowed == Tryz.pinned.checked.prog.unfollowed 3)=true:=by kernel_rfl
theorem qe2:(Rows.keepsRow.recurses == Tryz.pinned.checked.prog.recurses 3)=true:=by kernel_rfl
theorem qgT:(Rows.keepsRow.named == Tryz.pinned.checked.prog.varsNamed 3)=true:=by kernel_rfl
theorem qfP:Go.joinedFacts Tryz.pinned.checked.prog 3 Tryz.f3 Rows.keepsSpec Rows.keepsRow=true:=by
 unfold Go.joinedFacts
 rw [qf5,qdF,qe2,qgT]
 kernel_rfl
theorem qeF:Go.Func.isInstance Tryz.pinned.checked.prog Tryz.f3 Rows.keepsRow.origin Rows.keepsRow.targs:=of_decide_eq_true (by kernel_rfl)
theorem qfH:Go.Func.isWrapper Tryz.pinned.checked.prog Tryz.f3 Rows.keepsRow.wrapper Rows.keepsRow.mainSum:=by unfold Func.isWrapper;first | (rw [if_pos (by decide +kernel)];kernel_rfl)|(rw [if_neg (by decide +kernel)];exact ⟨rfl,rfl⟩)
theorem qiz:Tryz.pinned.checked.prog.funcNamed Rows.keepsRow.func=some 3:=by kernel_rfl
end Go.Proofs.YtcegdgmbponapaaGreatDoor