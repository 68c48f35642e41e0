import Derived.Test.YtcegdgmbponapaaGreatDoorPart10
set_option maxRecDepth 100000
set_option maxHeartbeats 4000000
namespace Go.Proofs.YtcegdgmbponapaaGreatDoor
open Go.RowKit
attribute [local go_sem ↓] Go.wp_at_zero Go.wp_at_succ
structure Pen where
 done:Int
 crashes:Bool
 ahead:Int
 crashed:Bool
def Pen.tick (p:Pen):Pen:={ p with done:=wrap64 (p.done+1),ahead:=wrap64 (p.ahead-1) }
def Pen.fall (p:Pen):Pen:={ p with crashes:=false,crashed:=true }
def Pen.halts (p:Pen):Bool:=p.crashes && decide (p.ahead=0)
def Pen.ticks (p:Pen):Nat→Pen
 | 0=>p
 | t+1=>(p.ticks t).tick
theorem Pen.ticks_crashes (p:Pen) (t:Nat):(p.ticks t).crashes=p.crashes∧(p.ticks t).crashed=p.crashed:=by
 induction t with
 | zero=>exact ⟨rfl,rfl⟩
 | succ t ih=>exact ih
def Vp (w:World) (V key n B bc:Nat) (sp:Nat→Nat) (p:Pen):Prop:=Vt w V key n B bc sp p.done p.crashes p.ahead p.crashed
theorem Vp.keeps {own:Nat→Prop} {w w':World} {V key n B bc:Nat} {sp:Nat→Nat} {p:Pen} (h:Vp w V key n B bc sp p) (hs:qaa own w w') (h1:¬own V) (h2:¬own B):Vp w' V key n B bc sp p:=Vt.keeps h hs h1 h2
theorem qlG (V:Nat) (v0 v1:Value) (p:Pen) (w:World) (h:w.heap[V]?=some (.cells #[v0,v1,.int .i64 p.done,.bool p.crashes,.int .i64 p.ahead,.bool p.crashed] 161)) (hh:p.halts=false) :
  Calls Tryz.prog 135 #[.pointer (some ⟨V,2,none⟩)] w fun e w'=>e=.returned .nilIface∧w'=qdi w V p.done p.ahead:=by
 obtain ⟨done,crashes,ahead,crashed⟩:=p
 simp only [Pen.halts] at hh h ⊢
 cases crashes with
 | false=>exact qju V v0 v1 done ahead crashed w h
 | true =>
  have ha:¬ahead=0:=by simpa using hh
  have c2:w.cell? ⟨V,2,none⟩=some (.int .i64 done):=cq h rfl
  have c3:w.cell? ⟨V,3,none⟩=some (.bool true):=cq h rfl
  have c4:w.cell? ⟨V,4,none⟩=some (.int .i64 ahead):=cq h rfl
  have f2:w.frozen? ⟨V,2,none⟩=false:=qam h
  have f4:w.frozen? ⟨V,4,none⟩=false:=qam h
  have q:(ahead == 0)=false:=by simp [ha]
  clear hh h
  go_enter Tryz.func135,Tryz.ntmps135
  go_wp2
  go_ret
  exact ⟨rfl,rfl⟩
theorem qjZ (V:Nat) (v0 v1:Value) (p:Pen) (w:World) (h:w.heap[V]?=some (.cells #[v0,v1,.int .i64 p.done,.bool p.crashes,.int .i64 p.ahead,.bool p.crashed] 161)) (hh:p.halts=true) :
  Calls Tryz.prog 135 #[.pointer (some ⟨V,2,none⟩)] w fun e w'=>e=.returned (.iface 136 (.int .i64 1))∧w'.heap[V]?=some (.cells #[v0,v1,.int .i64 p.done,.bool false,.int .i64 p.ahead,.bool true] 161)∧qaa (fun b=>b=V) w w':=by
 obtain ⟨done,crashes,ahead,crashed⟩:=p
 simp only [Pen.halts] at hh h ⊢
 obtain ⟨rfl,ha⟩:crashes=true∧ahead=0:=by simpa using hh
 have c3:w.cell? ⟨V,3,none⟩=some (.bool true):=cq h rfl
 have c4:w.cell? ⟨V,4,none⟩=some (.int .i64 ahead):=cq h rfl
 have c5:w.cell? ⟨V,5,none⟩=some (.bool crashed):=cq h rfl
 have f3:w.frozen? ⟨V,3,none⟩=false:=qam h
 have f5:w.frozen? ⟨V,5,none⟩=false:=qam h
 have q:(ahead == 0)=true:=by simp [ha]
 have HH:=hid h
 clear hh ha h
 go_enter Tryz.func135,Tryz.ntmps135
 go_wp2_with fail
 go_ret
 have hs:qaa (fun b=>b=V) w ((w.setCell ⟨V,3,none⟩ (.bool false)).setCell ⟨V,5,none⟩ (.bool true)):=((qaa.refl (fun b=>b=V) w).setCell (p:=⟨V,3,none⟩) rfl _).setCell (p:=⟨V,5,none⟩) rfl _
 refine ⟨rfl,?_,?_⟩
 ·first
   | (rw [qan _ (qan _ HH.out)];rfl)
   | (show (World.drew _).heap[V]?=_;exact (qan _ (qan _ HH.out)).trans rfl)
 ·first | exact hs | exact hs.drew
structure Wrote (J:Nat→World→Prop) (own:Nat→Prop) (W:World) (V key n B bc:Nat) (sp:Nat→Nat) (p:Pen) (k:Nat) (e:Ending) (w:World):Prop where
 res:∃t,t≤k*n∧J t w∧(∀s,s<t→(p.ticks s).halts=false) ∧
  ((t=k*n∧e=.returned .nilIface∧Vp w V key n B bc sp (p.ticks t)) ∨
   (t<k*n∧(p.ticks t).halts=true∧(∃ev,e=.returned ev∧Chain w 1 1 ev)∧Vp w V key n B bc sp (p.ticks t).fall))
 sp:qaa (fun b=>b=V∨own b) W w
structure WrtC (J:Nat→World→Prop) (own:Nat→Prop) (W:World) (V key n B bc:Nat) (sp:Nat→Nat) (p:Pen) (t:Nat) (w:World):Prop where
 vt:Vp w V key n B bc sp (p.ticks t)
 j:J t w
 nh:∀s,s<t→(p.ticks s).halts=false
 sp:qaa (fun b=>b=V∨own b) W w
theorem write_any (c k:Nat) (fs:List Nat) (J:Nat→World→Prop) (own:Nat→Prop) (V key n B bc br rc:Nat) (sp:Nat→Nat) (xs:List RecV) (p:Pen) (w:World) (hk:fs.length=k) (hk2:k≤2) (hn8:n≤8)
  (hsteps:∀w,Calls Tryz.prog 134 #[.int .i64 c] w fun e w'=>∃g,e=.returned (.slice (some ⟨g,0,none⟩) k k)∧w.heap.size≤g∧Fns w' g fs∧Below w.heap.size w w')
  (hcall:∀(j f:Nat),fs[j]?=some f→∀args w,(callFunc f args).run Tryz.prog w=.ok (.enter f args) w)
  (hv:Vp w V key n B bc sp p) (hxl:xs.length=n) (hx:Rd w (some ⟨br,0,none⟩) (recs xs)) (hbr:br<w.heap.size)
  (hJ0:∀w',Below w.heap.size w w'→J 0 w') (hJV:∀t w1 w2,J t w1→qaa (fun b=>b=V) w1 w2→J t w2)
  (hown:∀b,own b→b<w.heap.size) (hoV:¬own V) (hoB:¬own B) (hor:¬own br) (hrV:br≠V) (hBV:B≠V)
  (hTk:∀w1,qaa (fun b=>b=V∨own b) w w1→Tab w1)
  (hone:∀(j i f:Nat) w1,fs[j]?=some f→i<n→J (j*n+i) w1→qaa (fun b=>b=V∨own b) w w1→Calls Tryz.prog f #[.pointer (some ⟨sp i,0,none⟩),(xs[i]!).val] w1 fun e w2=>e=.returned (.tuple #[])∧J (j*n+i+1) w2∧qaa own w1 w2) :
  Calls Tryz.prog 80 #[.pointer (some ⟨V,0,none⟩),.int .i64 c,.slice (some ⟨br,0,none⟩) n rc] w fun e w'=>Wrote J own w V key n B bc sp p k e w':=by
 have HST:=hid hsteps
 have HCALL:=hid hcall
 have HV:=hid hv
 have HX:=hid hx
 have HXL:=hid hxl
 have HJ0:=hid hJ0
 have HJV:=hid hJV
 have HOWN:=hid hown
 have HO:=hid (And.intro hoV (And.intro hoB (And.intro hor (And.intro hrV hBV))))
 have HONE:=hid hone
 have HK:=hid hk
 have HTK:=hid hTk
 have hVlt:=cells_lt hv.hp
 have HBLT:=hid (show B<w.heap.size by obtain ⟨L,hL,_⟩:=hv.hb;exact cells_lt hL)
 clear hsteps hcall hv hx hxl hJ0 hJV hown hoV hoB hor hrV hBV hone hk hTk
 go_enter Tryz.func80,Tryz.ntmps80
 go_wp2_with fail
 refine (HST.out _).mono ?_
 rintro e w1 ⟨g,rfl,hg,hfns,hb1⟩
 have HW1:=hid (show WrtC J own w V key n B bc sp p 0 w1 from ⟨HV.out.keeps (qaa.ofBelow (own:=fun _=>False) hb1 nl) (fun h=>h) (fun h=>h),HJ0.out _ hb1,fun s hs=>by omega,qaa.ofBelow hb1 nl⟩)
 have HF:=hid hfns
 clear hfns
 go_wp2_with fail
 go_loopw [15] (fun u wr=>∃j:Nat,j≤k∧u=.int .i64 j∧WrtC J own w V key n B bc sp p (j*n) wr∧Fns wr g fs) (fun u _=>k-(intOf u).toNat)
 case atStart=>exact ⟨0,Nat.zero_le _,rfl,by rw [Nat.zero_mul];exact HW1.out,HF.out⟩
 case round =>
  obtain ⟨j,hj,rfl,hwrt,hfn⟩:=hrel
  by_cases hlt:j<k
  ·obtain ⟨f,hf⟩:∃f,fs[j]?=some f:=⟨_,List.getElem?_eq_getElem (by rw [HK.out];exact hlt)⟩
   have cf:=hfn.2 j f hf
   unfold fnV at cf
   have hlt':(j:Int)<(k:Int):=by omega
   obtain ⟨wo,rfl⟩:∃wo,wo=wr:=⟨_,rfl⟩
   have c1:=(Vt.va hwrt.vt).c1
   have HWO:=hid hwrt
   have HFN:=hid hfn
   have HFJ:=hid hf
   clear hwrt hfn hf
   go_wp2_with fail
   go_loopw [24] (fun u wr=>∃i:Nat,i≤n∧u=.int .i64 i∧WrtC J own w V key n B bc sp p (j*n+i) wr∧Fns wr g fs) (fun u _=>n-(intOf u).toNat)
   case atStart=>exact ⟨0,Nat.zero_le _,rfl,HWO.out,HFN.out⟩
   case round =>
    obtain ⟨i,hi,rfl,hwi,hfi⟩:=hrel
    by_cases hli:i<n
    ·have hvt:=hwi.vt
     have k1:wr.cell? ⟨B,i,none⟩=some (.pointer (some ⟨sp i,0,none⟩)):=by have:=(Vt.va hvt).st i hli;rwa [Nat.zero_add] at this
     have hli':(i:Int)<(n:Int):=by omega
     obtain ⟨q,hq⟩:∃q,q=p.ticks (j*n+i):=⟨_,rfl⟩
     have hjn:j*n+i<k*n:=by
      have:(j+1)*n≤k*n:=Nat.mul_le_mul_right n hlt
      rw [Nat.succ_mul] at this
      omega
     cases hh:q.halts with
     | false =>
      have HNX:=hid (qlG V _ _ q wr (by rw [hq];exact hvt.hp) hh)
      have hs2:qaa (fun b=>b=V∨own b) w (qdi wr V q.done q.ahead):=hwi.sp.trans ((qb7 wr V q.done q.ahead).mono fun b hb=>.inl hb)
      have HJ2:=hid (HJV.out _ _ _ hwi.j (qb7 wr V q.done q.ahead))
      have HS2:=hid hs2
      have HFI2:=hid (hfi.keeps (qb7 wr V q.done q.ahead) (show ¬g=V by omega))
      have HV2:=hid (show Vp (qdi wr V q.done q.ahead) V key n B bc sp (p.ticks (j*n+i+1)) from by
       have hp2:=qgJ hvt.hp
       rw [←hq] at hp2
       refine ⟨?_,by obtain ⟨L,hL,hLi⟩:=hvt.hb;exact ⟨L,(qb7 wr V q.done q.ahead).heap hL HO.out.2.2.2.2,hLi⟩⟩
       show _=some (Obj.cells #[_,_,.int .i64 (p.ticks (j*n+i)).tick.done,.bool (p.ticks (j*n+i)).tick.crashes,.int .i64 (p.ticks (j*n+i)).tick.ahead,.bool (p.ticks (j*n+i)).tick.crashed] 161)
       rw [←hq]
       exact hp2)
      have HNH:=hid (show ∀s,s<j*n+i+1→(p.ticks s).halts=false from fun s hs=>by
       rcases Nat.lt_or_ge s (j*n+i) with h | h
       ·exact hwi.nh s h
       ·rw [show s=j*n+i by omega,←hq];exact hh)
      have hrx:Rd (qdi wr V q.done q.ahead) (some ⟨br,0,none⟩) (recs xs):=by
       intro z v hz
       obtain ⟨b',o',h1,h2,h3⟩:=HX.out z v hz
       simp at h1
       obtain ⟨rfl,rfl⟩:=h1
       refine ⟨br,0,rfl,Nat.lt_of_lt_of_le hbr hs2.size,?_⟩
       rw [World.cell?_of_block (hs2.block br hbr (fun h=>h.elim HO.out.2.2.2.1 HO.out.2.2.1))]
       exact h3
      obtain ⟨_,r0,r1,r2,r3,r4,r5,r6,r7⟩:=qcY hrx i (by rw [HXL.out];exact hli)
      rw [Nat.zero_add] at r0 r1 r2 r3 r4 r5 r6 r7
      obtain ⟨W2,hW2⟩:∃W2,W2=qdi wr V q.done q.ahead:=⟨_,rfl⟩
      rw [←hW2] at r0 r1 r2 r3 r4 r5 r6 r7 HNX HJ2 HS2 HFI2 HV2
      have HONE2:=hid (HONE.out j i f W2 HFJ.out hli HJ2.out HS2.out)
      unfold RecV.val at HONE2
      generalize xs[i]! = x at *
      have hcf:=HCALL.out j f HFJ.out
      clear hwi hfi hvt hs2 hrx hW2 hq hh
      go_wp2_with (go_at_call 135;refine HNX.out.mono ?_;rintro e w2 ⟨rfl,rfl⟩)
      refine HONE2.out.mono ?_
      rintro e w3 ⟨rfl,hj3,hs3⟩
      have HJ3:=hid hj3
      have HS3:=hid hs3
      clear hj3 hs3
      go_wp2_with fail
      go_roundw
      case rel =>
       exact ⟨i+1,by omega,by go_num,⟨HV2.out.keeps HS3.out HO.out.1 HO.out.2.1,HJ3.out,HNH.out,HS2.out.trans (HS3.out.mono fun b hb=>.inr hb)⟩,HFI2.out.keeps HS3.out (fun h=>by have:=HOWN.out g h;omega)⟩
      case measure=>simp [intOf];omega
     | true =>
      have HNX:=hid (qjZ V _ _ q wr (by rw [hq];exact hvt.hp) hh)
      have HWI:=hid hwi
      have HQ:=hid hq
      have HHH:=hid hh
      have HI:=hid (show I64 (i:Int) by unfold I64;omega)
      clear hwi hfi hvt hq hh
      go_wp2_with fail
      refine HNX.out.mono ?_
      rintro e w2 ⟨rfl,hp2,hs2⟩
      have hsp2:qaa (fun b=>b=V∨own b) w w2:=HWI.out.sp.trans (hs2.mono fun b hb=>.inl hb)
      have HT2:=hid (HTK.out w2 hsp2)
      have HV2:=hid (show Vp w2 V key n B bc sp (p.ticks (j*n+i)).fall from by
       refine ⟨?_,by obtain ⟨L,hL,hLi⟩:=HWI.out.vt.hb;exact ⟨L,hs2.heap hL HO.out.2.2.2.2,hLi⟩⟩
       show _=some (Obj.cells #[_,_,.int .i64 (p.ticks (j*n+i)).done,.bool false,.int .i64 (p.ticks (j*n+i)).ahead,.bool true] 161)
       rw [←HQ.out]
       exact hp2)
      have HJ2:=hid (HJV.out _ _ _ HWI.out.j hs2)
      have HSP2:=hid hsp2
      have HJB:=hid (fun w3 (hb:Below w2.heap.size w2 w3)=>HJV.out _ _ _ HJ2.out (qaa.ofBelow hb nl))
      clear hp2 hs2 hsp2
      go_wp2_with (go_at_call 136;refine (qbL (i:Int) _ 1 0 _ HI.out HT2.out .hit).mono ?_;rintro e w3 ⟨e3,rfl,hch,hb3⟩)
      go_ret
      exact ⟨⟨j*n+i,by omega,HJB.out w3 hb3,HWI.out.nh,.inr ⟨hjn,by rw [←HQ.out];exact HHH.out,⟨_,rfl,hch⟩,HV2.out.keeps (qaa.ofBelow (own:=fun _=>False) hb3 nl) (fun h=>h) (fun h=>h)⟩⟩,HSP2.out.trans (qaa.ofBelow hb3 nl)⟩
    ·have hin:i=n:=by omega
     subst hin
     have HWI:=hid hwi
     have HFI:=hid hfi
     clear hwi hfi
     go_wp2
     go_roundw
     case rel=>exact ⟨j+1,by omega,by go_num,by rw [Nat.succ_mul];exact HWI.out,HFI.out⟩
     case measure=>simp [intOf];omega
  ·have hjk:j=k:=by omega
   subst hjk
   go_wp2
   go_ret
   exact ⟨⟨j*n,Nat.le_refl _,hwrt.j,hwrt.nh,.inl ⟨rfl,rfl,hwrt.vt⟩⟩,hwrt.sp⟩
theorem qcU (V key n B bc:Nat) (sp:Nat→Nat) (down:Bool) (v:Value) (rs:List RecV) (mode t l size:Nat) (nm:ByteArray) (w:World) (h:Rdy w V key n B bc sp) (hs:Sto w (sp 0) down v rs) (hno:hasName rs nm=false) (hfew:rs.length<10)
  (hp:qaj mode t l n) (hz:size≤60) (h1:1≤nm.size) (h12:nm.size≤12) (hng:Cof.ngroups mode t l size≤60) :
  Calls Tryz.prog 170 #[.pointer (some ⟨V,0,none⟩),.agg #[.string nm,.int .i64 mode,.int .i64 t,.int .i64 l,.int .i64 size,.int .i64 0]] w fun e w'=>e=.returned .nilIface∧Below w.heap.size w w':=by
 have hba:=(Below.refl w.heap.size w).alloc nl (.cells #[.string nm,.int .i64 mode,.int .i64 t,.int .i64 l,.int .i64 size,.int .i64 0] 55)
 have hR:=h.keeps hba nl
 have c5:=hR.c5
 have HC:=hid (qba V _ c5)
 have HLB:=hid (qbU V key n B 0 bc sp 0 mode t l size 0 nm _ hR.va)
 have HLN:=hid (fun w'=>qf3 mode t l n 0 0 size nm w' hp hz h1 h12 hng)
 have HS:=hid hs
 have HR:=hid hR
 have HNO:=hid hno
 have hVlt:¬V=w.heap.size:=by have:=h.va.lt;omega
 have hfew':¬(10:Int)≤(rs.length:Int):=by omega
 generalize Cof.ngroups mode t l size=ng at *
 clear h hs hno hp hz hR hfew
 go_enter Tryz.func170,Tryz.ntmps170
 go_wp2_with (first | (go_at_call 88;refine HC.out.mono ?_;rintro e w0 ⟨rfl,rfl⟩))
 refine HLB.out.mono ?_
 rintro e w1 ⟨rfl,hb1⟩
 have hb01:Below w.heap.size w w1:=hba.trans (hb1.mono (by simp))
 have hz1:w.heap.size<w1.heap.size:=by have:=hb1.size;simp at this;omega
 have e1:∀o,w1.cell? ⟨w.heap.size,o,none⟩=(w.alloc (.cells #[.string nm,.int .i64 mode,.int .i64 t,.int .i64 l,.int .i64 size,.int .i64 0] 55)).cell? ⟨w.heap.size,o,none⟩:=fun o=>hb1.cell (by simp)
 have o1:w1.cell? ⟨w.heap.size,0,none⟩=some (.string nm):=by rw [e1];simp
 have HR1:=hid (HR.out.keeps hb1 nl)
 clear e1
 go_wp2_with fail
 refine (HLN.out w1).mono ?_
 rintro e w2 ⟨rfl,hb2⟩
 have hb02:=hb01.trans (hb2.mono hb01.size)
 have o2:w2.cell? ⟨w.heap.size,0,none⟩=some (.string nm):=(hb2.cell hz1).trans o1
 have HR2:=hid (HR1.out.keeps hb2 nl)
 have HS2:=hid (HS.out.keeps (qaa.ofBelow (own:=fun _=>False) hb02 nl) (fun h=>h) (fun _ _ h=>h))
 obtain ⟨a,c,hv,hst⟩:=HS2.out.st
 have hz2:w.heap.size<w2.heap.size:=Nat.lt_of_lt_of_le hz1 hb2.size
 go_wp2_with fail
 refine (qev V key n B bc sp down a c rs nm w2 HR2.out hst HNO.out).mono ?_
 rintro e w3 ⟨ev,rfl,hch,hb3⟩
 have hb03:=hb02.trans (hb3.mono hb02.size)
 have o3:w3.cell? ⟨w.heap.size,0,none⟩=some (.string nm):=(hb3.cell hz2).trans o2
 obtain ⟨te,ve,rfl⟩:=hch.shape
 have HCH:=hid hch
 have HR3:=hid (HR2.out.keeps hb3 nl)
 have HS3:=hid (HS2.out.keeps (qaa.ofBelow (own:=fun _=>False) hb3 nl) (fun h=>h) (fun _ _ h=>h))
 clear hch hst hv
 go_wp2_with fail
 have hba4:=(Below.refl w3.heap.size w3).alloc nl (.cells #[.string ByteArray.empty,.int .i64 0,.int .i64 0,.int .i64 0,.int .i64 0,.int .i64 0] 55)
 refine (qlm 9 9 _ 1 _ (HCH.out.keeps hba4 nl) (by decide)).mono ?_
 rintro e w4 ⟨rfl,rfl⟩
 have HV:=hid (qc8 V key n B bc sp down v rs _ (HR3.out.keeps hba4 nl) (HS3.out.keeps (qaa.ofBelow (own:=fun _=>False) hba4 nl) (fun h=>h) (fun _ _ h=>h)))
 go_wp2_with fail
 refine HV.out.mono ?_
 rintro e w5 ⟨ov,rfl,hown,hb5⟩
 obtain ⟨oa,oc,rfl,_⟩:=qad hown
 have hb05:=(hb03.trans (hba4.mono hb03.size)).trans (hb5.mono (by have:=hb03.size;simp;omega))
 clear hown
 go_wp2_with fail
 go_ret
 exact ⟨rfl,hb05⟩
theorem cut_ok (V key n B bc:Nat) (sp:Nat→Nat) (down:Bool) (v:Value) (rs:List RecV) (mode t l size:Nat) (nm vl tape:ByteArray) (w:World) (h:Rdy w V key n B bc sp) (hs:Sto w (sp 0) down v rs) (hno:hasName rs nm=false) (hfew:rs.length<10)
  (hp:qaj mode t l n) (hz:size≤60) (hvs:vl.size=size) (h1:1≤nm.size) (h12:nm.size≤12) (hng:Cof.ngroups mode t l size≤60) (htp:Cof.tsize mode t*Cof.ngroups mode t l size≤tape.size)
  (hup:∀i,i<n→w.cell? ⟨sp i,0,none⟩=some (.bool false)) (hlt:∀i,i<n→sp i<w.heap.size) :
  Calls Tryz.prog 125 #[.pointer (some ⟨V,0,none⟩),.agg #[.string nm,.int .i64 mode,.int .i64 t,.int .i64 l,.int .i64 size,.int .i64 0],.string vl,.string tape] w fun e w' =>
   ∃g,e=.returned (.tuple #[.slice (some ⟨g,0,none⟩) n n,.nilIface])∧qaE w' (some ⟨g,0,none⟩) (Cof.split vl.data.toList mode t l n tape.data.toList)∧Below w.heap.size w w':=by
 have hba:=(Below.refl w.heap.size w).alloc nl (.cells #[.string nm,.int .i64 mode,.int .i64 t,.int .i64 l,.int .i64 size,.int .i64 0] 55)
 have HCN:=hid (qcU V key n B bc sp down v rs mode t l size nm _ (h.keeps hba nl) (hs.keeps (qaa.ofBelow (own:=fun _=>False) hba nl) (fun h=>h) (fun _ _ h=>h)) hno hfew hp hz h1 h12 hng)
 have HSP:=hid (fun w'=>qcg mode t l n vl tape w' hp (by omega) (by rw [hvs];exact htp))
 have HR:=hid h
 have HUP:=hid hup
 have HLT:=hid hlt
 generalize Cof.split vl.data.toList mode t l n tape.data.toList=rows at *
 clear h hs hno hfew hp hz hvs hng htp hup hlt h1 h12
 go_enter Tryz.func125,Tryz.ntmps125
 go_wp2_with fail
 refine HCN.out.mono ?_
 rintro e w1 ⟨rfl,hb1⟩
 have hb01:Below w.heap.size w w1:=hba.trans (hb1.mono (by simp))
 have hz1:w.heap.size<w1.heap.size:=by have:=hb1.size;simp at this;omega
 have e1:∀o,w1.cell? ⟨w.heap.size,o,none⟩=(w.alloc (.cells #[.string nm,.int .i64 mode,.int .i64 t,.int .i64 l,.int .i64 size,.int .i64 0] 55)).cell? ⟨w.heap.size,o,none⟩:=fun o=>hb1.cell (by simp)
 have o1:w1.cell? ⟨w.heap.size,1,none⟩=some (.int .i64 mode):=by rw [e1];simp
 have o2:w1.cell? ⟨w.heap.size,2,none⟩=some (.int .i64 t):=by rw [e1];simp
 have o3:w1.cell? ⟨w.heap.size,3,none⟩=some (.int .i64 l):=by rw [e1];simp
 have HR1:=hid (HR.out.keeps hb01 nl)
 have c1:=HR1.out.va.c1
 have lV:=HR1.out.va.lt
 have hn8:=HR1.out.n8
 clear e1
 go_wp2_with fail
 go_region_held3 (fun w'=>w'.cell? ⟨V,1,none⟩=some (.slice (some ⟨B,0,none⟩) n bc)∧w'.cell? ⟨w.heap.size,1,none⟩=some (.int .i64 mode)∧w'.cell? ⟨w.heap.size,2,none⟩=some (.int .i64 t)∧w'.cell? ⟨w.heap.size,3,none⟩=some (.int .i64 l)) (first | exact ⟨c1,o1,o2,o3⟩|exact D2.out | go_keep)
  (first | (go_at_call 53;refine (HSP.out _).mono ?_;rintro e w2 ⟨g,rfl,hrows,hb2,_⟩;(have hb12:Below w1.heap.size w1 w2:=(Below.refl w1.heap.size w1).drew.trans hb2);(have D2:=hid (show w2.cell? ⟨V,1,none⟩=some (.slice (some ⟨B,0,none⟩) n bc)∧w2.cell? ⟨w.heap.size,1,none⟩=some (.int .i64 mode)∧w2.cell? ⟨w.heap.size,2,none⟩=some (.int .i64 t)∧w2.cell? ⟨w.heap.size,3,none⟩=some (.int .i64 l) from ⟨(hb12.cell lV).trans c1,(hb12.cell hz1).trans o1,(hb12.cell hz1).trans o2,(hb12.cell hz1).trans o3⟩));(have HROWS:=hid hrows);clear hrows))
 have hb02:=hb01.trans (hb12.mono hb01.size)
 have HAU:=hid (qdT V key n B 0 bc sp w2 (HR1.out.va.keeps hb12 nl) hn8 (fun i hi=>(hb02.cell (HLT.out i hi)).trans (HUP.out i hi)))
 go_wp2_with (go_at_call 104;refine HAU.out.mono ?_;rintro e w3 ⟨rfl,rfl⟩)
 go_ret2
 exact ⟨g,rfl,HROWS.out,hb02⟩
end Go.Proofs.YtcegdgmbponapaaGreatDoor
namespace Cof
def csum (c y:Nat→UInt8):Nat→UInt8
 | 0=>0
 | k+1=>csum c y k^^^mul (c k) (y k)
theorem qdq {c c' y y':Nat→UInt8} {k:Nat} (h:∀j,j<k→c j=c' j∧y j=y' j):csum c y k=csum c' y' k:=by
 induction k with
 | zero=>rfl
 | succ k ih =>
  rw [csum,csum,ih (fun j hj=>h j (by omega)),(h k (by omega)).1,(h k (by omega)).2]
theorem qgL (a b:List UInt8) (i:Nat):(sumRow a b).getD i 0=a.getD i 0^^^b.getD i 0:=by
 by_cases h:i<max a.length b.length
 ·simp [sumRow,h]
 ·have h1:a[i]?=none:=List.getElem?_eq_none (by omega)
  have h2:b[i]?=none:=List.getElem?_eq_none (by omega)
  have h3:(sumRow a b)[i]?=none:=List.getElem?_eq_none (by rw [length_sumRow];omega)
  simp [h1,h2,h3]
theorem qf2 (r:List UInt8) (f:UInt8) (i:Nat):(scaleRow r f).getD i 0=mul f (r.getD i 0):=by
 by_cases h:i<r.length
 ·simp [scaleRow,h]
 ·have h1:r[i]?=none:=List.getElem?_eq_none (by omega)
  simp [scaleRow,h1,mul_zero]
theorem qdC (frm:List UInt8) (rows:List (List UInt8)) (x:UInt8) (k g:Nat):(carryTo frm rows x k).getD g 0=csum (fun j=>polyAt (basis frm j) x) (fun j=>(rows.getD j []).getD g 0) k:=by
 induction k with
 | zero=>simp [carryTo,csum]
 | succ k ih=>rw [carryTo,qgL,qf2,ih,csum]
theorem carryTo_length (frm:List UInt8) (rows:List (List UInt8)) (x:UInt8) (G k:Nat) (h:∀j,j<k→(rows.getD j []).length=G) (h0:0<k):(carryTo frm rows x k).length=G:=by
 induction k with
 | zero=>omega
 | succ k ih =>
  rw [carryTo,length_sumRow,length_scaleRow,h k (by omega)]
  rcases Nat.eq_zero_or_pos k with h1 | h1
  ·subst h1;simp [carryTo]
  ·rw [ih (fun j hj=>h j (by omega)) h1];simp
theorem qg0 (w j:Nat) (hj:j<w) (G r:Nat) (hr:r≤w):(List.range (w*G+r)).filter (fun i=>i % w == j)=(List.range G).map (fun g=>g*w+j)++(if j<r then [G*w+j] else []):=by
 induction G generalizing r with
 | zero =>
  induction r with
  | zero=>simp
  | succ r ih =>
   have e:=ih (by omega)
   simp only [Nat.mul_zero,Nat.zero_add] at e ⊢
   rw [List.range_succ,List.filter_append,e]
   have:r % w=r:=Nat.mod_eq_of_lt (by omega)
   by_cases h:r=j
   ·subst h;simp [this]
   ·by_cases h2:j<r
    ·simp [this,h,h2,show j<r+1 from by omega]
    ·simp [this,h,h2,show ¬j<r+1 from by omega]
 | succ G ihG =>
  have base:(List.range (w*(G+1))).filter (fun i=>i % w == j)=(List.range (G+1)).map (fun g=>g*w+j):=by
   have e:=ihG w (Nat.le_refl _)
   rw [if_pos hj] at e
   rw [Nat.mul_succ,e,List.range_succ,List.map_append];rfl
  induction r with
  | zero=>simpa using base
  | succ r ih =>
   have e:=ih (by omega)
   rw [←Nat.add_assoc,List.range_succ,List.filter_append,e]
   have:(w*(G+1)+r) % w=r:=by rw [Nat.mul_add_mod];exact Nat.mod_eq_of_lt (by omega)
   by_cases h:r=j
   ·subst h;simp [this,Nat.mul_comm]
   ·by_cases h2:j<r
    ·simp [this,h,h2,show j<r+1 from by omega]
    ·simp [this,h,h2,show ¬j<r+1 from by omega]
theorem qhP (text:List UInt8) (w j G:Nat) (hj:j<w):dealRow text w j (w*G)=(List.range G).map (fun g=>text.getD (g*w+j) 0):=by
 have:=qg0 w j hj G 0 (by omega)
 simp only [Nat.add_zero,Nat.not_lt_zero,if_false,List.append_nil] at this
 rw [dealRow,this,List.map_map];rfl
theorem qhM (text:List UInt8) (w G j:Nat) (hj:j<w):(deal text w G).getD j []=(List.range G).map (fun g=>text.getD (g*w+j) 0):=by
 simp [deal,hj];exact qhP text w j G hj
def knownAt (v tape:List UInt8) (gs ts g j:Nat):UInt8:=if j<gs then v.getD (g*gs+j) 0 else tape.getD (g*ts+(j-gs)) 0
theorem qk1 (v tape:List UInt8) (gs ts G j:Nat) (hj:j<gs+ts):(deal v gs G++deal tape ts G).getD j []=(List.range G).map (fun g=>knownAt v tape gs ts g j):=by
 have l1:(deal v gs G).length=gs:=by simp [deal]
 by_cases h:j<gs
 ·rw [List.getD_eq_getElem?_getD,List.getElem?_append_left (by omega),←List.getD_eq_getElem?_getD,qhM _ _ _ _ h]
  apply List.map_congr_left;intro g _;simp [knownAt,h]
 ·rw [List.getD_eq_getElem?_getD,List.getElem?_append_right (by omega),←List.getD_eq_getElem?_getD,l1,qhM _ _ _ _ (by omega)]
  apply List.map_congr_left;intro g _;simp [knownAt,h]
def coef (mode t l i j:Nat):UInt8:=polyAt (basis (groupAt mode t l++tapeAt mode t) j) (UInt8.ofNat (1+i))
def pieceAt (v tape:List UInt8) (mode t l i g:Nat):UInt8 :=
 csum (coef mode t l i) (knownAt v tape (gsize mode t l) (tsize mode t) g) (gsize mode t l+tsize mode t)
theorem split_row (v tape:List UInt8) (mode t l n i:Nat) (hi:i<n) (hg:0<gsize mode t l) (ht:tape.length=tsize mode t*ngroups mode t l v.length) :
  (split v mode t l n tape).getD i []=(List.range (ngroups mode t l v.length)).map (pieceAt v tape mode t l i):=by
 have e:tape.take (tsize mode t*ngroups mode t l v.length)=tape:=List.take_of_length_le (by omega)
 unfold split carry
 rw [e]
 have e2:(run 1 n).map (fun x=>carryTo (groupAt mode t l++tapeAt mode t) (deal v (gsize mode t l) (ngroups mode t l v.length)++deal tape (tsize mode t) (ngroups mode t l v.length)) x (deal v (gsize mode t l) (ngroups mode t l v.length)++deal tape (tsize mode t) (ngroups mode t l v.length)).length)=(List.range n).map (fun i=>carryTo (groupAt mode t l++tapeAt mode t) (deal v (gsize mode t l) (ngroups mode t l v.length)++deal tape (tsize mode t) (ngroups mode t l v.length)) (UInt8.ofNat (1+i)) (gsize mode t l+tsize mode t)):=by
  rw [run,List.map_map];apply List.map_congr_left;intro i _;simp [deal]
 rw [e2,List.getD_eq_getElem?_getD,List.getElem?_map,List.getElem?_range hi]
 simp only [Option.map_some,Option.getD_some]
 apply List.ext_getElem?
 intro g
 have hl:(carryTo (groupAt mode t l++tapeAt mode t) (deal v (gsize mode t l) (ngroups mode t l v.length)++deal tape (tsize mode t) (ngroups mode t l v.length)) (UInt8.ofNat (1+i)) (gsize mode t l+tsize mode t)).length=ngroups mode t l v.length:=by
  apply carryTo_length
  ·intro j hj;rw [qk1 _ _ _ _ _ _ hj];simp
  ·omega
 by_cases h:g<ngroups mode t l v.length
 ·have h1:=qdC (groupAt mode t l++tapeAt mode t) (deal v (gsize mode t l) (ngroups mode t l v.length)++deal tape (tsize mode t) (ngroups mode t l v.length)) (UInt8.ofNat (1+i)) (gsize mode t l+tsize mode t) g
  rw [List.getD_eq_getElem?_getD,List.getElem?_eq_getElem (by omega),Option.getD_some] at h1
  rw [List.getElem?_eq_getElem (by omega),h1,List.getElem?_map,List.getElem?_range h]
  simp only [Option.map_some,Option.some.injEq]
  unfold pieceAt
  apply qdq
  intro j hj
  refine ⟨rfl,?_⟩
  rw [qk1 _ _ _ _ _ _ hj];simp [h]
 ·rw [List.getElem?_eq_none (by omega),List.getElem?_eq_none (by simp;omega)]
end Cof
namespace Go.Proofs.YtcegdgmbponapaaGreatDoor
open Go.RowKit
attribute [local go_sem ↓] Go.wp_at_zero Go.wp_at_succ
theorem qdA {w:World} {b k:Nat} {u:Value} (h:w.cell? ⟨b,k,none⟩=some u):w.setCell ⟨b,k,none⟩ u=w:=by
 unfold World.cell? at h
 cases hb:w.heap[b]? with
 | none=>simp [hb] at h
 | some o =>
  cases o with
  | cells c t f =>
   simp [hb] at h
   rw [setCell_eq_setRow w b k c t f u hb,show c.setIfInBounds k u=c from ?_,setRow_self w b c t f hb]
   apply Array.ext_getElem?
   intro j
   rw [Array.getElem?_setIfInBounds]
   split
   ·rename_i hjk
    subst hjk
    split
    ·exact h.symm
    ·rename_i hs;rw [Array.getElem?_eq_none (by omega)]
   ·rfl
  | _=>simp [hb] at h
structure One (w:World) (base V key n B bc:Nat) (sp:Nat→Nat) (down:Nat→Bool) (mode t l size epoch:Nat) (nm:ByteArray) (P:Nat→List UInt8) (vs:Nat→Value) (xs:Nat→RecV):Prop where
 vt:∃done ahead,Vt w V key n B bc sp done false ahead false
 st:∀i,i<n→Sto w (sp i) (down i) (vs i) [xs i]
 ok:∀i,i<n→qc7 w base key mode t l n size epoch nm (P i) i (xs i)
 xi:∀i j,i<j→j<n→(xs i).blk≠(xs j).blk
 vi:∀i j,i<j→j<n→(vs i).ownBlock≠(vs j).ownBlock
 si:∀i j,i<j→j<n→sp i≠sp j
 bV:base≤V
 bB:base≤B
 bsp:∀i,i<n→base≤sp i
 bv:∀i,i<n→∀b,(vs i).ownBlock=some b→base≤b
theorem qc7.mono {w:World} {base base' key mode t l n size epoch:Nat} {nm:ByteArray} {P:List UInt8} {j:Nat} {r:RecV} (h:qc7 w base key mode t l n size epoch nm P j r) (hb:base'≤base):qc7 w base' key mode t l n size epoch nm P j r :=
 ⟨h.e,h.sn,World.ownsRow.mono h.own hb⟩
theorem qbJ {mode t l n:Nat} (hp:qaj mode t l n) (v tape:List UInt8) (i:Nat) (hi:i<n) (htp:Cof.tsize mode t*Cof.ngroups mode t l v.length≤tape.length):((Cof.split v mode t l n tape).getD i []).length=Cof.ngroups mode t l v.length:=by
 have e:Cof.split v mode t l n tape=Cof.split v mode t l n (tape.take (Cof.tsize mode t*Cof.ngroups mode t l v.length)):=by
  unfold Cof.split
  rw [List.take_take,Nat.min_self]
 have hg:0<Cof.gsize mode t l:=by
  obtain ⟨_,_,h3,_,h5,_⟩:=hp
  unfold Cof.gsize
  split<;>omega
 rw [e,Cof.split_row v _ mode t l n i hi hg (by rw [List.length_take];omega)]
 simp
end Go.Proofs.YtcegdgmbponapaaGreatDoor