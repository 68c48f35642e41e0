/-
  Put among several objects, whatever the pen does.
  Delete among several objects, whatever the pen does; what a crash left, settled.
  What lies at the stores, whatever it is, settled.
  What was cut off, and what settles it: of lists of records alone.
-/
import Derived.Test.YtcegdgmbponapabGreatDoorPart26
namespace Go.Proofs.YtcegdgmbponapabGreatDoor
open Go.RowKit
attribute [local go_sem ↓] Go.wp_at_zero Go.wp_at_succ
theorem MoveJ.mono {W W' n:Nat} {sp:Nat→Nat} {dn:Nat→Bool} {vs us:Nat→Value} {old new:Nat→List RecV} {t:Nat} {w:World} (h:MoveJ W n sp dn vs us old new t w) (hW:W'≤W):MoveJ W' n sp dn vs us old new t w :=
 ⟨Nat.le_trans hW h.sz,h.st,h.same,fun i hi=>(h.blk i hi).imp id (fun ⟨b,h1,h2⟩=>⟨b,h1,Nat.le_trans hW h2⟩),h.dis⟩
theorem MoveJ.below {W n:Nat} {sp:Nat→Nat} {dn:Nat→Bool} {vs us:Nat→Value} {old new:Nat→List RecV} {t:Nat} {w w':World} (h:MoveJ W n sp dn vs us old new t w) (hs:Spared (fun _=>False) w w'):MoveJ W n sp dn vs us old new t w' :=
 ⟨Nat.le_trans h.sz hs.size,fun i hi=>(h.st i hi).keeps hs (fun h=>h) (fun _ _ h=>h),h.same,h.blk,h.dis⟩
set_option maxRecDepth 100000 in
set_option maxHeartbeats 2000000 in
theorem vput_gen (base V key n B bc:Nat) (sp:Nat→Nat) (p:Pen) (mode t l size:Nat) (nm vl tape:ByteArray) (vs:Nat→Value) (rss:Nat→List RecV) (w:World) (hV:Vp w V key n B bc sp p) (hcr:p.crashed=false) (hst:∀i,i<n→Sto w (sp i) false (vs i) (rss i)) (hno:∀i,i<n→hasName (rss i) nm=false) (hfew:∀i,i<n→(rss i).length<10)
  (hsi:∀i j,i<n→j<n→i≠j→sp i≠sp j) (hvi:∀i j,i<n→j<n→i≠j→∀b,(vs i).ownBlock=some b→(vs j).ownBlock≠some b)
  (hp:IsPlan mode t l n) (hz:size≤60) (hvs:vl.size=size) (h1:1≤nm.size) (h12:nm.size≤12) (htp:Cof.tsize mode t*Cof.ngroups mode t l size≤tape.size) (hk:key<18446744073709551616) (hG:Glob w base) (hbV:base≤V) (hbs:∀i,i<n→base≤sp i) (hbv:∀i,i<n→∀b,(vs i).ownBlock=some b→base≤b) :
  Calls Tryz.prog 38 #[.pointer (some ⟨V,0,none⟩),.string nm,.string vl,.agg #[.int .i64 mode,.int .i64 t,.int .i64 l],.string tape] w fun e w' =>
   ∃(ys:List RecV) (k:Nat),Moved w' w.heap.size V key n B bc sp (fun _=>false) vs rss (fun i=>insR (rss i) (ys[i]!)) p 2 k e∧ys.length=n∧(∀i,i<n→RecOk w' w.heap.size key mode t l n size 0 nm ((Cof.split vl.data.toList mode t l n tape.data.toList).getD i []) i (ys[i]!))∧(∀i j,i<j→j<n→(ys[i]!).blk≠(ys[j]!).blk)∧Spared (fun b=>b=V∨moveOwn n sp vs b) w w':=by
 have hn1:=hp.n1
 have hn8:=hp.n8
 have hng:=ngroups_le hp size hz
 have hba1:=(Below.refl w.heap.size w).alloc (Nat.le_refl _) (.cells #[.int .i64 mode,.int .i64 t,.int .i64 l] 29)
 have hba2:=hba1.alloc (by simp) (.cells #[.string nm,.int .i64 mode,.int .i64 t,.int .i64 l,.int .i64 size,.int .i64 0] 65)
 have hR:Rdy w V key n B bc sp:=Vt.rdy (h:=by have:=hV;unfold Vp at this;rw [hcr] at this;exact this) hn1 hn8
 have hS0:=(hst 0 (by omega)).keeps (Spared.ofBelow (own:=fun _=>False) hba2 (Nat.le_refl _)) (fun h=>h) (fun _ _ h=>h)
 have HCUT:=hid (cut_ok V key n B bc sp false (vs 0) (rss 0) mode t l size nm vl tape _ (hR.keeps hba2 (Nat.le_refl _)) hS0 (hno 0 (by omega)) (hfew 0 (by omega)) hp hz hvs h1 h12 hng htp (fun i hi=>(hba2.cell (cells_lt (hst i hi).hp)).trans (by rw [cells_at (hst i hi).hp];rfl)) (fun i hi=>by have:=cells_lt (hst i hi).hp;simp;omega))
 have HVS:=hid hvs
 have HV:=hid hV
 have HST:=hid hst
 have HNO:=hid hno
 have HFEW:=hid hfew
 have HSI:=hid hsi
 have HVI:=hid hvi
 have HG:=hid hG
 have HBS:=hid hbs
 have HBV:=hid hbv
 have HP:=hid hp
 have HTP:=hid htp
 have hvz:(vl.size:Int)=(size:Int):=by omega
 clear hV hst hno hfew hsi hvi hG hbs hbv hcr hp htp hS0
 go_enter Tryz.func38,Tryz.ntmps38
 go_wp2_with fail
 refine HCUT.out.mono ?_
 rintro e w3 ⟨g,rfl,hrows,hb3⟩
 have hb23:Below w.heap.size w w3:=hba2.trans (hb3.mono (by simp;omega))
 have hz3:w.heap.size+1<w3.heap.size:=by have:=hb3.size;simp at this;omega
 have e3:∀o,w3.cell? ⟨w.heap.size+1,o,none⟩=_:=fun o=>(bcell hb3).1 (w.heap.size+1) o (by simp)
 have o3:w3.cell? ⟨w.heap.size+1,0,none⟩=some (.string nm):=by rw [e3,World.cell?_alloc_at _ _ _ _ (by simp)];rfl
 have o31:w3.cell? ⟨w.heap.size+1,1,none⟩=some (.int .i64 mode):=by rw [e3,World.cell?_alloc_at _ _ _ _ (by simp)];rfl
 have o32:w3.cell? ⟨w.heap.size+1,2,none⟩=some (.int .i64 t):=by rw [e3,World.cell?_alloc_at _ _ _ _ (by simp)];rfl
 have o33:w3.cell? ⟨w.heap.size+1,3,none⟩=some (.int .i64 l):=by rw [e3,World.cell?_alloc_at _ _ _ _ (by simp)];rfl
 have o34:w3.cell? ⟨w.heap.size+1,4,none⟩=some (.int .i64 size):=by rw [e3,World.cell?_alloc_at _ _ _ _ (by simp)];rfl
 have o35:w3.cell? ⟨w.heap.size+1,5,none⟩=some (.int .i64 0):=by rw [e3,World.cell?_alloc_at _ _ _ _ (by simp)];rfl
 have f3:w3.frozen? ⟨w.heap.size+1,0,none⟩=false:=by rw [(bcell hb3).2 (w.heap.size+1) 0 (by simp)];simp
 have HROWS:=hid hrows
 have HB23:=hid hb23
 clear hrows e3 hb3
 go_wp2_with fail
 refine (sclone_any nm w3 (by omega)).mono ?_
 rintro e w4 ⟨rfl,hb4⟩
 have hb04:=HB23.out.trans (hb4.mono HB23.out.size)
 have q0:w4.cell? ⟨w.heap.size+1,0,none⟩=some (.string nm):=(hb4.cell hz3).trans o3
 have q1:w4.cell? ⟨w.heap.size+1,1,none⟩=some (.int .i64 mode):=(hb4.cell hz3).trans o31
 have q2:w4.cell? ⟨w.heap.size+1,2,none⟩=some (.int .i64 t):=(hb4.cell hz3).trans o32
 have q3:w4.cell? ⟨w.heap.size+1,3,none⟩=some (.int .i64 l):=(hb4.cell hz3).trans o33
 have q4:w4.cell? ⟨w.heap.size+1,4,none⟩=some (.int .i64 size):=(hb4.cell hz3).trans o34
 have q5:w4.cell? ⟨w.heap.size+1,5,none⟩=some (.int .i64 0):=(hb4.cell hz3).trans o35
 have qf:w4.frozen? ⟨w.heap.size+1,0,none⟩=false:=(hb4.frozen hz3).trans f3
 have HQ0:=hid (setCell_self q0)
 have hz4:w.heap.size+1<w4.heap.size:=Nat.lt_of_lt_of_le hz3 hb4.size
 clear o3 o31 o32 o33 o34 o35 f3
 go_wp2_with fail
 rw [HQ0.out]
 have hR4:=hR.keeps hb04 (Nat.le_refl _)
 have HREC:=hid (records_any V key n B bc sp mode t l size 0 (Cof.ngroups mode t l size) nm (some ⟨g,0,none⟩) n _ w4 hR4 HP.out (by omega) hz h12 hk (split_length _ _ _ _ _ _) (fun i hi=>by rw [split_len HP.out _ _ i hi (by simpa [HVS.out] using HTP.out)];simp [HVS.out]) hng (HROWS.out.below hb4 (Nat.le_refl _)))
 refine HREC.out.mono ?_
 rintro e w5 ⟨gr,xs,rfl,hmd⟩
 have hb45:=hmd.bl
 have hb05:=hb04.trans (hb45.mono hb04.size)
 have hS05:Spared (fun _=>False) w w5:=Spared.ofBelow hb05 (Nat.le_refl _)
 have hV5:=HV.out.keeps hS05 (fun h=>h) (fun h=>h)
 have hS5:∀i,i<n→Sto w5 (sp i) false (vs i) (rss i):=fun i hi=>(HST.out i hi).keeps hS05 (fun h=>h) (fun _ _ h=>h)
 have hrow:=hmd.row
 rw [Nat.sub_self,List.replicate_zero,List.append_nil] at hrow
 obtain ⟨_,_,hgv,hgrd⟩:=owns_rd_size hrow
 have hgeq:=(by simpa using hgv:(some (⟨gr,0,none⟩:Addr))=_∧_)
 rw [←hgeq.1] at hgrd
 have hgr:=hrow.lt gr rfl
 have hvl:∀i,i<n→∀b,(vs i).ownBlock=some b→b<w.heap.size:=fun i hi b hb=>((HST.out i hi).row.lt b hb).2
 have hsl:∀i,i<n→sp i<w.heap.size:=fun i hi=>cells_lt (HST.out i hi).hp
 have hnmx:∀i,i<n→(xs[i]!).name=nm:=fun i hi=>(hmd.ok i hi).e.1
 have hVl:=cells_lt HV.out.hp
 have HW:=hid (write_move 0 80 base V key n B bc gr n sp (fun _=>false) vs rss (fun i=>insR (rss i) (xs[i]!)) xs p w5 hn8 steps_at0 Tryz.callAdd hV5 hmd.len hgrd hgr.2 (by obtain ⟨tl,h,_⟩:=owns_split hrow;exact ⟨_,h⟩) (fun i hi e=>by have:=hvl i hi gr e;have:=hb04.size;omega) hS5 HSI.out HVI.out (HG.out.below hb05) hbV HBS.out HBV.out
  (fun i w1 hi hs _=>(add_any (sp i) false (vs i) (rss i) (xs[i]!) w1 hs (HFEW.out i hi) (by rw [hnmx i hi];exact HNO.out i hi)).mono fun e w2 h=>h))
 have hxb:∀i,i<n→∀b,(xs[i]!).blk=some b→w4.heap.size≤b:=fun i hi b hb=>((hmd.ok i hi).own.lt b hb).1
 have HFIN:=hid (show ∀w6,Spared (fun b=>b=V∨moveOwn n sp vs b) w5 w6→xs.length=n∧(∀i,i<n→RecOk w6 w.heap.size key mode t l n size 0 nm ((Cof.split vl.data.toList mode t l n tape.data.toList).getD i []) i (xs[i]!))∧(∀i j,i<j→j<n→(xs[i]!).blk≠(xs[j]!).blk)∧Spared (fun b=>b=V∨moveOwn n sp vs b) w w6 from fun w6 hs6=>⟨hmd.len,fun i hi=>by
  refine ((hmd.ok i hi).keeps hs6 (fun b hb ho=>?_)).mono (by have:=hb04.size;omega:w.heap.size≤w4.heap.size)
  have h1:=hxb i hi b hb
  have h2:=hb04.size
  rcases ho with rfl | ⟨q,hq,rfl | hqb⟩
  ·omega
  ·have:=hsl q hq;omega
  ·have:=hvl q hq b hqb;omega,hmd.inj,(Spared.ofBelow hb05 (Nat.le_refl _)).trans hs6⟩)
 have hsz5:=hb05.size
 clear hmd hrow hgrd hxb hnmx hV5 hgv hgeq hS5 hvl hsl
 go_wp2_with fail
 refine HW.out.mono ?_
 rintro e w6 ⟨k,⟨⟨hk1,hnh,hend⟩,us,hm⟩,hsp6⟩
 have HM:=hid (hm.mono hsz5)
 have HNH:=hid hnh
 have HSP:=hid hsp6
 have HK1:=hid hk1
 clear hm hnh hsp6 hk1
 rcases hend with ⟨hk2,rfl,hvp⟩|⟨hk2,hh,⟨ev,rfl,hch⟩,hvp⟩
 ·have HVP:=hid hvp
  have HK2:=hid hk2
  clear hvp hk2
  go_wp2_with (go_at_call 53;refine (at_nil _ _).mono ?_;rintro e w7 ⟨rfl,rfl⟩)
  go_ret
  exact ⟨xs,k,⟨⟨HK1.out,HNH.out,.inl ⟨HK2.out,rfl,HVP.out⟩⟩,us,HM.out⟩,HFIN.out _ HSP.out⟩
 ·have HVP:=hid hvp
  have HK2:=hid hk2
  have HHH:=hid hh
  have HCH:=hid hch
  obtain ⟨te,ve,rfl⟩:=hch.shape
  clear hvp hk2 hh hch
  go_wp2_with (go_at_call 53;refine (at_chain _ _ 1 1 _ HCH.out).mono ?_;rintro e w7 ⟨e7,rfl,hch7,hb7⟩)
  go_ret
  have hs7:Spared (fun _=>False) w6 w7:=Spared.ofBelow hb7 (Nat.le_refl _)
  exact ⟨xs,k,⟨⟨HK1.out,HNH.out,.inr ⟨HK2.out,HHH.out,⟨_,rfl,hch7⟩,HVP.out.keeps hs7 (fun h=>h) (fun h=>h)⟩⟩,us,HM.out.below hs7⟩,HFIN.out _ (HSP.out.trans (Spared.ofBelow hb7 (Nat.le_refl _)))⟩
theorem rep_get {α:Type} [Inhabited α] (n i:Nat) (x:α) (hi:i<n):(List.replicate n x)[i]! = x:=by
 rw [getElem!_pos (List.replicate n x) i (by simpa using hi)]
 simp
theorem write_same (c f:Nat) (base V key n B bc g:Nat) (sp:Nat→Nat) (dn:Nat→Bool) (vs:Nat→Value) (old new:Nat→List RecV) (x:RecV) (p:Pen) (w:World) (hn8:n≤8)
  (hsteps:∀w,Calls Tryz.prog 89 #[.int .i64 c] w fun e w'=>∃g,e=.returned (.slice (some ⟨g,0,none⟩) 1 1)∧w.heap.size≤g∧Fns w' g [f]∧Below w.heap.size w w')
  (hcall:∀args w,(callFunc f args).run Tryz.prog w=.ok (.enter f args) w)
  (hv:Vp w V key n B bc sp p) (hg:w.heap[g]?=some (.cells (recs (List.replicate n x)).toArray 127)) (hrv:∀i,i<n→(vs i).ownBlock≠some g)
  (hst:∀i,i<n→Sto w (sp i) (dn i) (vs i) (old i)) (hsi:∀i j,i<n→j<n→i≠j→sp i≠sp j) (hvi:∀i j,i<n→j<n→i≠j→∀b,(vs i).ownBlock=some b→(vs j).ownBlock≠some b)
  (hG:Glob w base) (hbV:base≤V) (hbs:∀i,i<n→base≤sp i) (hbv:∀i,i<n→∀b,(vs i).ownBlock=some b→base≤b)
  (hop:∀i w1,i<n→Sto w1 (sp i) (dn i) (vs i) (old i)→Calls Tryz.prog f #[.pointer (some ⟨sp i,0,none⟩),x.val] w1 fun e w2 =>
   e=.returned (.tuple #[])∧∃v',Sto w2 (sp i) (dn i) v' (new i)∧(v'.ownBlock=(vs i).ownBlock∨∃b,v'.ownBlock=some b∧w1.heap.size≤b)∧Spared (fun b=>b=sp i∨(vs i).ownBlock=some b) w1 w2) :
  Calls Tryz.prog 59 #[.pointer (some ⟨V,0,none⟩),.int .i64 c,.slice (some ⟨g,0,none⟩) n n] w fun e w' =>
   ∃t,Moved w' w.heap.size V key n B bc sp dn vs old new p 1 t e∧Spared (fun b=>b=V∨moveOwn n sp vs b) w w' :=
 write_move c f base V key n B bc g n sp dn vs old new (List.replicate n x) p w hn8 hsteps hcall hv (by simp)
  (fun j u hj=>⟨g,0,rfl,cells_lt hg,by rw [Nat.zero_add,block_cell hg,hj]⟩) (cells_lt hg) ⟨_,hg⟩ hrv hst hsi hvi hG hbV hbs hbv
  (fun i w1 hi hs _=>by rw [rep_get n i x hi];exact hop i w1 hi hs)
set_option maxRecDepth 100000 in
set_option maxHeartbeats 2000000 in
theorem vdelete_gen (base V key n B bc:Nat) (sp:Nat→Nat) (p:Pen) (nm:ByteArray) (vs:Nat→Value) (rss:Nat→List RecV) (w:World) (hn1:1≤n) (hn8:n≤8) (hV:Vp w V key n B bc sp p) (hcr:p.crashed=false) (hst:∀i,i<n→Sto w (sp i) false (vs i) (rss i)) (hyes:hasName (rss 0) nm=true)
  (hsi:∀i j,i<n→j<n→i≠j→sp i≠sp j) (hvi:∀i j,i<n→j<n→i≠j→∀b,(vs i).ownBlock=some b→(vs j).ownBlock≠some b)
  (hG:Glob w base) (hbV:base≤V) (hbs:∀i,i<n→base≤sp i) (hbv:∀i,i<n→∀b,(vs i).ownBlock=some b→base≤b) :
  Calls Tryz.prog 40 #[.pointer (some ⟨V,0,none⟩),.string nm] w fun e w' =>
   ∃k:Nat,Moved w' w.heap.size V key n B bc sp (fun _=>false) vs rss (fun i=>remR (rss i) nm) p 2 k e∧Spared (fun b=>b=V∨moveOwn n sp vs b) w w':=by
 have hR:Rdy w V key n B bc sp:=Vt.rdy (h:=by have:=hV;unfold Vp at this;rw [hcr] at this;exact this) hn1 hn8
 obtain ⟨a0,c0,_,hst0⟩:=(hst 0 (by omega)).st
 have HOBJ:=hid (object_yes V key n B bc sp false a0 c0 (rss 0) (recOf (rss 0) nm) nm w hR hst0 hyes rfl)
 have hnm:(recOf (rss 0) nm).name=nm:=has_name hyes
 rw [hnm] at HOBJ
 generalize recOf (rss 0) nm=q at HOBJ hnm
 have HVA:=hid (Vt.va hV)
 have HV:=hid hV
 have HST:=hid hst
 have HSI:=hid hsi
 have HVI:=hid hvi
 have HG:=hid hG
 have HBS:=hid hbs
 have HBV:=hid hbv
 clear hV hst hsi hvi hG hbs hbv hcr hst0 hR hyes hnm
 go_enter Tryz.func40,Tryz.ntmps40
 go_wp2_with fail
 refine HOBJ.out.mono ?_
 rintro e w1 ⟨rfl,hb1⟩
 have hba:=hb1.alloc hb1.size (.cells #[.string nm,.int .i64 q.mode,.int .i64 q.t,.int .i64 q.l,.int .i64 q.size,.int .i64 q.epoch] 65)
 have HUP:=hid (fun w' (hb':Below w.heap.size w w')=>allUp_yes V key n B 0 bc sp w' (HVA.out.keeps hb' (Nat.le_refl _)) hn8 (fun i hi=>by rw [hb'.cell (p:=⟨sp i,0,none⟩) (cells_lt (HST.out i hi).hp),cells_at (HST.out i hi).hp];rfl))
 have HEV:=hid (fun w' (hb':Below w.heap.size w w')=>everywhere_any V key n B bc sp nm q.mode q.t q.l q.size q.epoch w' (HVA.out.keeps hb' (Nat.le_refl _)) hn1 hn8)
 go_wp2_with fail
 refine (HUP.out _ hba).mono ?_
 rintro e w2 ⟨rfl,rfl⟩
 go_wp2_with fail
 refine (HEV.out _ hba).mono ?_
 rintro e w3 ⟨g,rfl,hgW,hgh,hb3⟩
 have hb03:Below w.heap.size w w3:=hba.trans (hb3.mono hba.size)
 have hS03:Spared (fun _=>False) w w3:=Spared.ofBelow hb03 (Nat.le_refl _)
 have HW:=hid (write_same 1 122 base V key n B bc g sp (fun _=>false) vs rss (fun i=>remR (rss i) nm) (RecV.bare nm q.mode q.t q.l q.size q.epoch) p w3 hn8 steps_at1 Tryz.callRemove (HV.out.keeps hS03 (fun h=>h) (fun h=>h)) hgh (fun i hi e=>by have:=((HST.out i hi).row.lt g e).2;have:=hba.size;omega) (fun i hi=>(HST.out i hi).keeps hS03 (fun h=>h) (fun _ _ h=>h)) HSI.out HVI.out (HG.out.below hb03) hbV HBS.out HBV.out
  (fun i w1 hi hs=>(remove_any (sp i) false (vs i) (rss i) (RecV.bare nm q.mode q.t q.l q.size q.epoch) w1 hs).mono fun e w2 ⟨h1,v',h2,h3,h4⟩=>⟨h1,v',h2,.inl h3,h4⟩))
 have hsz:=hb03.size
 clear hgh hgW
 go_wp2_with fail
 refine HW.out.mono ?_
 rintro e w6 ⟨k,⟨⟨hk1,hnh,hend⟩,us,hm⟩,hsp6⟩
 have HM:=hid (hm.mono hsz)
 have HNH:=hid hnh
 have HSP:=hid ((Spared.ofBelow (own:=fun b=>b=V∨moveOwn n sp vs b) hb03 (Nat.le_refl _)).trans hsp6)
 have HK1:=hid hk1
 clear hm hnh hsp6 hk1
 rcases hend with ⟨hk2,rfl,hvp⟩|⟨hk2,hh,⟨ev,rfl,hch⟩,hvp⟩
 ·have HVP:=hid hvp
  have HK2:=hid hk2
  clear hvp hk2
  go_wp2_with (go_at_call 53;refine (at_nil _ _).mono ?_;rintro e w7 ⟨rfl,rfl⟩)
  go_ret
  exact ⟨k,⟨⟨HK1.out,HNH.out,.inl ⟨HK2.out,rfl,HVP.out⟩⟩,us,HM.out⟩,HSP.out⟩
 ·have HVP:=hid hvp
  have HK2:=hid hk2
  have HHH:=hid hh
  have HCH:=hid hch
  obtain ⟨te,ve,rfl⟩:=hch.shape
  clear hvp hk2 hh hch
  go_wp2_with (go_at_call 53;refine (at_chain _ _ 1 1 _ HCH.out).mono ?_;rintro e w7 ⟨e7,rfl,hch7,hb7⟩)
  go_ret
  have hs7:Spared (fun _=>False) w6 w7:=Spared.ofBelow hb7 (Nat.le_refl _)
  exact ⟨k,⟨⟨HK1.out,HNH.out,.inr ⟨HK2.out,HHH.out,⟨_,rfl,hch7⟩,HVP.out.keeps hs7 (fun h=>h) (fun h=>h)⟩⟩,us,HM.out.below hs7⟩,HSP.out.trans (Spared.ofBelow hb7 (Nat.le_refl _))⟩
def settled (c:Nat) (nm:ByteArray) (rs:List RecV):List RecV :=
 if c=1 then remR rs nm
 else if hasName rs nm=true then
  (if c=3 then (if (recOf rs nm).na=none then rs else rs.set (posOf rs nm) (recOf rs nm).turned)
   else rs.set (posOf rs nm) ((recOf rs nm).laid (RecV.bare nm 0 0 0 0 0)))
 else rs
theorem write_settle (c:Nat) (hc:c=1∨c=3∨c=4) (base V key n B bc g:Nat) (sp:Nat→Nat) (dn:Nat→Bool) (vs:Nat→Value) (rss:Nat→List RecV) (nm:ByteArray) (p:Pen) (w:World) (hn8:n≤8)
  (hv:Vp w V key n B bc sp p) (hg:w.heap[g]?=some (.cells (recs (List.replicate n (RecV.bare nm 0 0 0 0 0))).toArray 127)) (hrv:∀i,i<n→(vs i).ownBlock≠some g)
  (hst:∀i,i<n→Sto w (sp i) (dn i) (vs i) (rss i)) (hsi:∀i j,i<n→j<n→i≠j→sp i≠sp j) (hvi:∀i j,i<n→j<n→i≠j→∀b,(vs i).ownBlock=some b→(vs j).ownBlock≠some b)
  (hyes:c≠1→∀i,i<n→hasName (rss i) nm=true∧(recOf (rss i) nm).epoch≤1000)
  (hG:Glob w base) (hbV:base≤V) (hbs:∀i,i<n→base≤sp i) (hbv:∀i,i<n→∀b,(vs i).ownBlock=some b→base≤b) :
  Calls Tryz.prog 59 #[.pointer (some ⟨V,0,none⟩),.int .i64 c,.slice (some ⟨g,0,none⟩) n n] w fun e w' =>
   ∃t,Moved w' w.heap.size V key n B bc sp dn vs rss (fun i=>settled c nm (rss i)) p 1 t e∧Spared (fun b=>b=V∨moveOwn n sp vs b) w w':=by
 rcases hc with rfl | rfl | rfl
 ·refine write_same 1 122 base V key n B bc g sp dn vs rss _ (RecV.bare nm 0 0 0 0 0) p w hn8 steps_at1 Tryz.callRemove hv hg hrv hst hsi hvi hG hbV hbs hbv (fun i w1 hi hs=>?_)
  refine (remove_any (sp i) (dn i) (vs i) (rss i) (RecV.bare nm 0 0 0 0 0) w1 hs).mono ?_
  rintro e w2 ⟨h1,v',h2,h3,h4⟩
  exact ⟨h1,v',h2,.inl h3,h4⟩
 ·refine write_same 3 124 base V key n B bc g sp dn vs rss _ (RecV.bare nm 0 0 0 0 0) p w hn8 steps_at3 Tryz.callTurn hv hg hrv hst hsi hvi hG hbV hbs hbv (fun i w1 hi hs=>?_)
  obtain ⟨hy,he⟩:=hyes (by decide) i hi
  have hE:settled 3 nm (rss i)=if (recOf (rss i) nm).na=none then rss i else (rss i).set (posOf (rss i) nm) (recOf (rss i) nm).turned:=by
   unfold settled
   rw [if_neg (by decide),if_pos hy,if_pos rfl]
  rw [hE]
  cases hna:(recOf (rss i) nm).na with
  | none =>
   rw [if_pos rfl]
   refine (turn_idle (sp i) (dn i) (vs i) (rss i) (RecV.bare nm 0 0 0 0 0) (recOf (rss i) nm) w1 hs hy rfl hna).mono ?_
   rintro e w2 ⟨rfl,hb⟩
   exact ⟨rfl,vs i,hs.keeps (Spared.ofBelow (own:=fun _=>False) hb (Nat.le_refl _)) (fun h=>h) (fun _ _ h=>h),.inl rfl,Spared.ofBelow hb (Nat.le_refl _)⟩
  | some ad =>
   rw [if_neg (by simp)]
   refine (turn_yes (sp i) (dn i) (vs i) (rss i) (RecV.bare nm 0 0 0 0 0) (recOf (rss i) nm) ad w1 hs hy rfl hna he).mono ?_
   rintro e w2 ⟨rfl,h2,h3⟩
   exact ⟨rfl,vs i,h2,.inl rfl,h3.mono fun b hb=>.inr hb⟩
 ·refine write_same 4 125 base V key n B bc g sp dn vs rss _ (RecV.bare nm 0 0 0 0 0) p w hn8 steps_at4 Tryz.callDrop hv hg hrv hst hsi hvi hG hbV hbs hbv (fun i w1 hi hs=>?_)
  obtain ⟨hy,_⟩:=hyes (by decide) i hi
  have hE:settled 4 nm (rss i)=(rss i).set (posOf (rss i) nm) ((recOf (rss i) nm).laid (RecV.bare nm 0 0 0 0 0)):=by
   unfold settled
   rw [if_neg (by decide),if_pos hy,if_neg (by decide)]
  rw [hE]
  refine (drop_yes (sp i) (dn i) (vs i) (rss i) (RecV.bare nm 0 0 0 0 0) w1 hs hy).mono ?_
  rintro e w2 ⟨rfl,h2,h3⟩
  exact ⟨rfl,vs i,h2,.inl rfl,h3.mono fun b hb=>.inr hb⟩
def codeOf (n:Nat) (rss:Nat→List RecV) (nm:ByteArray):Option Nat :=
 if (List.range n).all (fun i=>hasName (rss i) nm)=true then settleOf ((List.range n).map fun i=>(recOf (rss i) nm).ob) ((List.range n).map fun i=>(recOf (rss i) nm).late) else some 1
def Small (n:Nat) (rss:Nat→List RecV):Prop:=∀i,i<n→∀r∈rss i,r.epoch≤1000∧r.name.size≤1000
theorem settleOf_le (A Z:List Ob) (c:Nat) (h:settleOf A Z=some c):c=3∨c=4∨c=5:=by
 unfold settleOf at h
 split at h
 ·split at h<;>cases h<;>simp
 ·split at h
  ·cases h;simp
  ·cases h
theorem codeOf_le (n:Nat) (rss:Nat→List RecV) (nm:ByteArray) (c:Nat) (h:codeOf n rss nm=some c):(c=1∨c=3∨c=4∨c=5)∧(c≠1→∀i,i<n→hasName (rss i) nm=true):=by
 unfold codeOf at h
 split at h
 ·rename_i hall
  rw [List.all_eq_true] at hall
  exact ⟨by rcases settleOf_le _ _ _ h with h | h | h<;>simp [h],fun _ i hi=>hall i (List.mem_range.2 hi)⟩
 ·cases h
  exact ⟨.inl rfl,fun h=>absurd rfl h⟩
theorem settling_gen (V key n B bc:Nat) (sp:Nat→Nat) (dn:Nat→Bool) (vs:Nat→Value) (rss:Nat→List RecV) (nm:ByteArray) (w:World) (h:Va w V key n B 0 bc sp) (hn1:1≤n) (hn8:n≤8) (hst:∀i,i<n→Sto w (sp i) (dn i) (vs i) (rss i)) (hsm:Small n rss) :
  Calls Tryz.prog 110 #[.pointer (some ⟨V,0,none⟩),.string nm] w fun e w'=>e=.returned (codeV (codeOf n rss nm))∧Below w.heap.size w w':=by
 have hep:∀i,i<n→hasName (rss i) nm=true→(recOf (rss i) nm).epoch≤1000:=fun i hi hy=>(hsm i hi _ (recOf_mem hy).1).1
 have hm:∃m,m≤n∧(∀i,i<m→hasName (rss i) nm=true)∧(m<n→hasName (rss m) nm=false):=by
  clear h hst hn1 hn8 hsm hep
  induction n with
  | zero=>exact ⟨0,Nat.le_refl _,fun i hi=>by omega,fun h=>by omega⟩
  | succ n ih =>
   obtain ⟨m,h1,h2,h3⟩:=ih
   by_cases hmn:m<n
   ·exact ⟨m,by omega,h2,fun _=>h3 hmn⟩
   ·have:m=n:=by omega
    subst this
    cases hq:hasName (rss m) nm with
    | false=>exact ⟨m,by omega,h2,fun _=>hq⟩
    | true=>exact ⟨m+1,Nat.le_refl _,fun i hi=>by
      rcases Nat.lt_or_eq_of_le (Nat.lt_succ_iff.1 hi) with h | rfl
      ·exact h2 i h
      ·exact hq,fun h=>by omega⟩
 obtain ⟨m,h1,h2,h3⟩:=hm
 refine (settling_any V key n B bc sp dn vs rss nm m h1 w h hn1 hn8 hst h2 h3 (fun i hi=>hep i (by omega) (h2 i hi))).mono ?_
 rintro e w' ⟨rfl,hb⟩
 refine ⟨?_,hb⟩
 congr 1
 unfold codeOf settleR
 by_cases hmn:m<n
 ·have hna:¬(List.range n).all (fun i=>hasName (rss i) nm)=true:=by
   intro hall
   rw [List.all_eq_true] at hall
   have:=hall m (List.mem_range.2 hmn)
   rw [h3 hmn] at this
   cases this
  rw [if_pos hmn,if_neg hna]
  rfl
 ·have hall:(List.range n).all (fun i=>hasName (rss i) nm)=true:=by
   rw [List.all_eq_true]
   intro i hi
   exact h2 i (by have:=List.mem_range.1 hi;omega)
  rw [if_neg hmn,if_pos hall]
  unfold settleV codeV
  generalize settleOf _ _=q
  cases q<;>rfl
def cutOf (n:Nat) (rss:Nat→List RecV):Option (List UInt8 × Nat):=cutRun (fun x=>codeOf n rss ⟨x.toArray⟩) (namesOf (namesUpTo rss n)) [] 5
theorem cutRun_found (code:List UInt8→Option Nat):∀(N:List (List UInt8)) (f g:List UInt8) (s c:Nat),cutRun code N f s=some (g,c)→(g=f∧c=s)∨(g∈N∧code g=some c)
 | [],f,g,s,c,h=>by
  unfold cutRun at h
  cases h
  exact .inl ⟨rfl,rfl⟩
 | x :: N,f,g,s,c,h=>by
  unfold cutRun at h
  cases hx:code x with
  | none=>rw [hx] at h;cases h
  | some d =>
   rw [hx] at h
   simp only at h
   by_cases hd:d=5
   ·rw [if_pos hd] at h
    rcases cutRun_found code N f g s c h with h' | ⟨h',h''⟩
    ·exact .inl h'
    ·exact .inr ⟨List.mem_cons_of_mem _ h',h''⟩
   ·rw [if_neg hd] at h
    by_cases hs:s=5
    ·rw [if_pos hs] at h
     rcases cutRun_found code N x g d c h with ⟨rfl,rfl⟩|⟨h',h''⟩
     ·exact .inr ⟨List.mem_cons_self ..,hx⟩
     ·exact .inr ⟨List.mem_cons_of_mem _ h',h''⟩
    ·rw [if_neg hs] at h
     cases h
theorem cutoff_gen (V key n B bc:Nat) (sp:Nat→Nat) (dn:Nat→Bool) (vs:Nat→Value) (rss:Nat→List RecV) (w:World) (hva:Va w V key n B 0 bc sp) (hn1:1≤n) (hn8:n≤8) (hst:∀i,i<n→Sto w (sp i) (dn i) (vs i) (rss i)) (hsm:Small n rss) :
  Calls Tryz.prog 81 #[.pointer (some ⟨V,0,none⟩)] w fun e w' =>
   (∃f s,cutOf n rss=some (f,s)∧e=.returned (.tuple #[.string ⟨f.toArray⟩,.int .i64 s,.nilIface])∧Below w.heap.size w w') ∨
   (cutOf n rss=none∧∃ev,e=.returned (.tuple #[.string ⟨#[]⟩,.int .i64 5,ev])∧Chain w' 12 1 ev∧Below w.heap.size w w'):=by
 have hmem:∀x∈namesOf (namesUpTo rss n),∃i,i<n∧∃r∈rss i,r.name.data.toList=x:=fun x hx=>(namesUpTo_mem rss n x).1 ((namesOf_mem _ x).1 hx)
 have hN:(namesOf (namesUpTo rss n)).length≤80:=by
  have h1:(namesOf (namesUpTo rss n)).length≤(namesUpTo rss n).length:=by
   unfold namesOf
   unfold Lib.compact Lib.compactUpTo
   rw [List.length_map]
   refine Nat.le_trans (List.length_filter_le _ _) ?_
   rw [List.length_range,List.length_mergeSort]
   exact Nat.le_refl _
  have h2:=namesUpTo_length rss n (fun i hi=>(hst i hi).le)
  omega
 refine (cutOff_any V (namesOf (namesUpTo rss n)) (fun x=>codeOf n rss ⟨x.toArray⟩) w hN (fun x c hc=>?_) (fun x hx=>?_) (names_any V key n B bc sp dn vs rss w hva hn8 hst) (fun x hx w' hb=>?_)).mono fun e w' h=>h
 ·rcases (codeOf_le _ _ _ _ hc).1 with h | h | h | h<;>omega
 ·obtain ⟨i,hi,r,hr,rfl⟩:=hmem x hx
  exact (hsm i hi r hr).2
 ·exact settling_gen V key n B bc sp dn vs rss ⟨x.toArray⟩ w' (hva.keeps hb (Nat.le_refl _)) hn1 hn8 (fun j hj=>(hst j hj).keeps (Spared.ofBelow (own:=fun _=>False) hb (Nat.le_refl _)) (fun h=>h) (fun _ _ h=>h)) hsm
theorem write_leave (base V key n B bc g:Nat) (sp:Nat→Nat) (x:RecV) (p:Pen) (w:World) (h:Vp w V key n B bc sp p) (hn8:n≤8) (hG:Glob w base) (hbV:base≤V) (hg:w.heap[g]?=some (.cells (recs (List.replicate n x)).toArray 127)) :
  Calls Tryz.prog 59 #[.pointer (some ⟨V,0,none⟩),.int .i64 (5:Nat),.slice (some ⟨g,0,none⟩) n n] w fun e w'=>e=.returned .nilIface∧Below w.heap.size w w':=by
 obtain ⟨LB,hLB,_⟩:=h.hb
 have hVh:=h.hp
 have hBV:B≠V:=fun e=>by rw [e,hVh] at hLB;cases hLB
 obtain ⟨cg,hcg⟩:∃cs,w.heap[g]?=some (.cells cs 127):=⟨_,hg⟩
 have hgV:g≠V:=fun e=>by rw [e,hVh] at hcg;cases hcg
 have hTV:2≠V:=fun e=>by have:=hG.t1;omega
 refine (write_any 5 0 (stepFns 5) (fun _ _=>True) (fun _=>False) V key n B bc g n sp (List.replicate n x) p w rfl (by decide) hn8 steps_at5 (fun j f hf=>by cases j<;>cases hf) h (by simp) (fun k v hk=>⟨g,0,rfl,cells_lt hg,by rw [Nat.zero_add,block_cell hg,hk]⟩) (cells_lt hg) (fun _ _=>trivial) (fun _ _ _ _ _=>trivial) (fun _ h=>h.elim) (fun h=>h) (fun h=>h) (fun h=>h) hgV hBV ?_ (fun j i f w1 hf=>by cases j<;>cases hf)).mono ?_
 ·intro w1 hs1
  exact hG.tb.block (hs1.block _ hG.tb.2 (fun h=>h.elim (fun e=>hTV e) (fun h=>h))) hs1.size
 ·rintro e w'' ⟨⟨k,hk,_,_,hend⟩,hsp⟩
  rw [Nat.zero_mul] at hk hend
  have hk0:k=0:=by omega
  subst hk0
  rcases hend with ⟨_,rfl,hvp⟩|⟨h,_⟩
  ·refine ⟨rfl,⟨hsp.os,hsp.tape,hsp.output,hsp.size,fun k hk=>?_⟩⟩
   by_cases hkV:k=V
   ·subst hkV
    exact hvp.hp.trans hVh.symm
   ·exact hsp.block k hk (fun h=>h.elim hkV (fun h=>h))
  ·omega
def SettleEnd (w:World) (V key n B bc:Nat) (sp:Nat→Nat) (dn:Nat→Bool) (vs:Nat→Value) (rss:Nat→List RecV) (p:Pen) (e:Ending) (w':World):Prop :=
 (cutOf n rss=none∧(∃ev,e=.returned ev∧Chain w' 12 1 ev)∧Below w.heap.size w w') ∨
 (∃f,cutOf n rss=some (f,5)∧e=.returned .nilIface∧Below w.heap.size w w') ∨
 (∃f c t,cutOf n rss=some (f,c)∧(c=1∨c=3∨c=4)∧Moved w' w.heap.size V key n B bc sp dn vs rss (fun i=>settled c ⟨f.toArray⟩ (rss i)) p 1 t e∧Spared (fun b=>b=V∨moveOwn n sp vs b) w w')
theorem settle_gen (base V key n B bc:Nat) (sp:Nat→Nat) (dn:Nat→Bool) (vs:Nat→Value) (rss:Nat→List RecV) (p:Pen) (w:World) (hv:Vp w V key n B bc sp p) (hn1:1≤n) (hn8:n≤8) (hst:∀i,i<n→Sto w (sp i) (dn i) (vs i) (rss i)) (hsm:Small n rss) (hsi:∀i j,i<n→j<n→i≠j→sp i≠sp j) (hvi:∀i j,i<n→j<n→i≠j→∀b,(vs i).ownBlock=some b→(vs j).ownBlock≠some b)
  (hG:Glob w base) (hbV:base≤V) (hbs:∀i,i<n→base≤sp i) (hbv:∀i,i<n→∀b,(vs i).ownBlock=some b→base≤b) :
  Calls Tryz.prog 52 #[.pointer (some ⟨V,0,none⟩)] w fun e w'=>SettleEnd w V key n B bc sp dn vs rss p e w':=by
 have hva:=Vt.va hv
 have hcut:=cutoff_gen V key n B bc sp dn vs rss w hva hn1 hn8 hst hsm
 cases hq:cutOf n rss with
 | none =>
  refine (settle_no V 1 12 ⟨#[]⟩ 5 w (hcut.mono ?_)).mono ?_
  ·rintro e w' (⟨f,s,h,_⟩|⟨_,ev,h1,h2,h3⟩)
   ·rw [hq] at h;cases h
   ·exact ⟨ev,h1,h2,h3⟩
  ·rintro e w' ⟨ev,rfl,h1,h2⟩
   exact .inl ⟨hq,⟨ev,rfl,h1⟩,h2⟩
 | some fc =>
  obtain ⟨f,c⟩:=fc
  have hc:c=5∨((c=1∨c=3∨c=4)∧codeOf n rss ⟨f.toArray⟩=some c):=by
   rcases cutRun_found _ _ _ _ _ _ hq with ⟨_,h⟩|⟨_,h⟩
   ·exact .inl h
   ·rcases (codeOf_le _ _ _ _ h).1 with h' | h' | h' | h'
    ·exact .inr ⟨.inl h',h⟩
    ·exact .inr ⟨.inr (.inl h'),h⟩
    ·exact .inr ⟨.inr (.inr h'),h⟩
    ·exact .inl h'
  refine (settle_of V key n B bc sp ⟨f.toArray⟩ c w (fun v w'=>SettleEnd w V key n B bc sp dn vs rss p (.returned v) w') hva hn1 hn8 (hcut.mono ?_) fun w' g hb hg hh=>?_).mono ?_
  ·rintro e w' (⟨f',s,h,rfl,hb⟩|⟨h,_⟩)
   ·rw [hq] at h;cases h;exact ⟨rfl,hb⟩
   ·rw [hq] at h;cases h
  ·have hS:Spared (fun _=>False) w w':=Spared.ofBelow hb (Nat.le_refl _)
   have hv':=hv.keeps hS (fun h=>h) (fun h=>h)
   rcases hc with rfl | ⟨hc,hcode⟩
   ·refine (write_leave base V key n B bc g sp _ p w' hv' hn8 (hG.below hb) hbV hh).mono ?_
    rintro e w'' ⟨rfl,hb2⟩
    exact ⟨_,rfl,.inr (.inl ⟨f,hq,rfl,hb.trans (hb2.mono hb.size)⟩)⟩
   ·have hall:=(codeOf_le _ _ _ _ hcode).2
    refine (write_settle c hc base V key n B bc g sp dn vs rss ⟨f.toArray⟩ p w' hn8 hv' hh (fun i hi e=>by have:=((hst i hi).row.lt g e).2;omega) (fun i hi=>(hst i hi).keeps hS (fun h=>h) (fun _ _ h=>h)) hsi hvi (fun hc1 i hi=>⟨hall hc1 i hi,(hsm i hi _ (recOf_mem (hall hc1 i hi)).1).1⟩) (hG.below hb) hbV hbs hbv).mono ?_
    rintro e w'' ⟨t,⟨he,us,hm⟩,hsp⟩
    have hret:∃v,e=.returned v:=by
     rcases he.2.2 with ⟨_,h,_⟩|⟨_,_,⟨ev,h,_⟩,_⟩
     ·exact ⟨_,h⟩
     ·exact ⟨_,h⟩
    obtain ⟨v,rfl⟩:=hret
    exact ⟨v,rfl,.inr (.inr ⟨f,c,t,hq,hc,⟨he,us,hm.mono hb.size⟩,(Spared.ofBelow hb (Nat.le_refl _)).trans hsp⟩)⟩
  ·rintro e w' ⟨v,rfl,h⟩
   exact h
end Go.Proofs.YtcegdgmbponapabGreatDoor
namespace Go.Proofs.YtcegdgmbponapabGreatDoor
open Go.RowKit
theorem cutRun_all (code:List UInt8→Option Nat):∀(N:List (List UInt8)) (f g:List UInt8) (s c:Nat),cutRun code N f s=some (g,c) →
  (s≠5→g=f∧c=s∧∀x∈N,code x=some 5)∧(s=5→(c=5∧∀x∈N,code x=some 5)∨(c≠5∧g∈N∧code g=some c∧∀x∈N,x≠g→code x=some 5))
 | [],f,g,s,c,h=>by
  unfold cutRun at h
  cases h
  exact ⟨fun _=>⟨rfl,rfl,by simp⟩,fun hs=>.inl ⟨hs,by simp⟩⟩
 | x :: N,f,g,s,c,h=>by
  unfold cutRun at h
  cases hx:code x with
  | none=>rw [hx] at h;cases h
  | some d =>
   rw [hx] at h
   simp only at h
   by_cases hd:d=5
   ·rw [if_pos hd] at h
    subst hd
    obtain ⟨h1,h2⟩:=cutRun_all code N f g s c h
    refine ⟨fun hs=>?_,fun hs=>?_⟩
    ·obtain ⟨a,b,e⟩:=h1 hs
     exact ⟨a,b,fun y hy=>by rcases List.mem_cons.1 hy with rfl | hy;exact hx;exact e y hy⟩
    ·rcases h2 hs with ⟨a,b⟩|⟨a,b,e,f'⟩
     ·exact .inl ⟨a,fun y hy=>by rcases List.mem_cons.1 hy with rfl | hy;exact hx;exact b y hy⟩
     ·exact .inr ⟨a,List.mem_cons_of_mem _ b,e,fun y hy hne=>by rcases List.mem_cons.1 hy with rfl | hy;exact hx;exact f' y hy hne⟩
   ·rw [if_neg hd] at h
    by_cases hs:s=5
    ·rw [if_pos hs] at h
     obtain ⟨a,b,e⟩:=(cutRun_all code N x g d c h).1 hd
     subst a b
     exact ⟨fun hn=>absurd hs hn,fun _=>.inr ⟨hd,List.mem_cons_self ..,hx,fun y hy hne=>by rcases List.mem_cons.1 hy with rfl | hy;exact absurd rfl hne;exact e y hy⟩⟩
    ·rw [if_neg hs] at h
     cases h
theorem cutRun_make (code:List UInt8→Option Nat) (g:List UInt8) (c:Nat) (hc:c≠5) (hg:code g=some c):∀(N:List (List UInt8)) (f:List UInt8),N.Nodup→g∈N→(∀x∈N,x≠g→code x=some 5)→cutRun code N f 5=some (g,c)
 | [],f,_,h,_=>by simp at h
 | x :: N,f,hnd,hm,ho=>by
  obtain ⟨hx,hnd'⟩:=List.nodup_cons.1 hnd
  unfold cutRun
  by_cases hxg:x=g
  ·subst hxg
   rw [hg]
   simp only
   rw [if_neg hc]
   simp only [if_true]
   exact cutRun_leave code N x c (fun y hy=>ho y (List.mem_cons_of_mem _ hy) (fun e=>hx (e ▸ hy)))
  ·rw [ho x (List.mem_cons_self ..) hxg]
   simp only [if_true]
   exact cutRun_make code g c hc hg N f hnd' (by rcases List.mem_cons.1 hm with h | h;exact absurd h.symm hxg;exact h) (fun y hy=>ho y (List.mem_cons_of_mem _ hy))
theorem bytes_name (b:ByteArray):(⟨b.data.toList.toArray⟩:ByteArray)=b:=by cases b;simp
def Known (n:Nat) (rss:Nat→List RecV) (nm:ByteArray):Prop:=∃i,i<n∧∃r∈rss i,r.name=nm
theorem known_iff (n:Nat) (rss:Nat→List RecV) (x:List UInt8):x∈namesOf (namesUpTo rss n)↔Known n rss ⟨x.toArray⟩:=by
 rw [namesOf_mem,namesUpTo_mem]
 constructor
 ·rintro ⟨i,hi,r,hr,rfl⟩
  exact ⟨i,hi,r,hr,(bytes_name _).symm⟩
 ·rintro ⟨i,hi,r,hr,e⟩
  exact ⟨i,hi,r,hr,by rw [e]⟩
theorem cut_all {n:Nat} {rss:Nat→List RecV} {g:List UInt8} {c:Nat} (h:cutOf n rss=some (g,c)) :
  (c=5∧∀nm,Known n rss nm→codeOf n rss nm=some 5)∨(c≠5∧Known n rss ⟨g.toArray⟩∧codeOf n rss ⟨g.toArray⟩=some c∧∀nm,Known n rss nm→nm≠⟨g.toArray⟩→codeOf n rss nm=some 5):=by
 unfold cutOf at h
 rcases (cutRun_all _ _ _ _ _ _ h).2 rfl with ⟨h1,h2⟩|⟨h1,h2,h3,h4⟩
 ·refine .inl ⟨h1,fun nm hk=>?_⟩
  have:=h2 nm.data.toList ((known_iff n rss _).2 (by rw [bytes_name];exact hk))
  rwa [bytes_name] at this
 ·refine .inr ⟨h1,(known_iff n rss g).1 h2,h3,fun nm hk hne=>?_⟩
  have:=h4 nm.data.toList ((known_iff n rss _).2 (by rw [bytes_name];exact hk)) (fun e=>hne (by rw [←e,bytes_name]))
  rwa [bytes_name] at this
theorem cut_leave {n:Nat} {rss:Nat→List RecV} (h:∀nm,Known n rss nm→codeOf n rss nm=some 5):cutOf n rss=some ([],5):=by
 unfold cutOf
 exact cutRun_leave _ _ _ _ fun x hx=>h _ ((known_iff n rss x).1 hx)
theorem cut_make {n:Nat} {rss:Nat→List RecV} {nm:ByteArray} {c:Nat} (hc:c≠5) (hk:Known n rss nm) (hn:codeOf n rss nm=some c) (h:∀x,Known n rss x→x≠nm→codeOf n rss x=some 5):cutOf n rss=some (nm.data.toList,c):=by
 unfold cutOf
 refine cutRun_make _ _ c hc (by rw [bytes_name];exact hn) _ _ (namesOf_nodup _) ((known_iff n rss _).2 (by rw [bytes_name];exact hk)) fun x hx hne=>?_
 exact h _ ((known_iff n rss x).1 hx) (fun e=>hne (by rw [←e]))
theorem recOf_eq {rs:List RecV} (hs:Sorted rs) {nm:ByteArray} {r:RecV} (hr:r∈rs) (hn:r.name=nm):recOf rs nm=r:=by subst hn;exact recOf_of hs r hr
theorem look_same {rs rs':List RecV} (h:Sorted rs) (h':Sorted rs') {nm:ByteArray} (hm:∀r,r.name=nm→(r∈rs↔r∈rs')):hasName rs nm=hasName rs' nm∧(hasName rs nm=true→recOf rs nm=recOf rs' nm):=by
 have h1:hasName rs nm=true↔hasName rs' nm=true:=by
  rw [hasName_iff h,hasName_iff h']
  exact ⟨fun ⟨r,hr,e⟩=>⟨r,(hm r e).1 hr,e⟩,fun ⟨r,hr,e⟩=>⟨r,(hm r e).2 hr,e⟩⟩
 refine ⟨by rw [Bool.eq_iff_iff];exact h1,fun hy=>?_⟩
 obtain ⟨m1,m2⟩:=recOf_mem hy
 exact (recOf_eq h' ((hm _ m2).1 m1) m2).symm
theorem code_same {n:Nat} {rss rss':Nat→List RecV} (h:∀i,i<n→Sorted (rss i)) (h':∀i,i<n→Sorted (rss' i)) {nm:ByteArray} (hm:∀i,i<n→∀r,r.name=nm→(r∈rss i↔r∈rss' i)):codeOf n rss nm=codeOf n rss' nm:=by
 have hl:=fun i hi=>look_same (h i hi) (h' i hi) (hm i hi)
 have e1:(List.range n).all (fun i=>hasName (rss i) nm)=(List.range n).all (fun i=>hasName (rss' i) nm):=by
  rw [Bool.eq_iff_iff,List.all_eq_true,List.all_eq_true]
  exact ⟨fun H i hi=>by rw [←(hl i (List.mem_range.1 hi)).1];exact H i hi,fun H i hi=>by rw [(hl i (List.mem_range.1 hi)).1];exact H i hi⟩
 unfold codeOf
 rw [e1]
 split
 ·rename_i hall
  rw [List.all_eq_true] at hall
  have e2:∀i∈List.range n,recOf (rss i) nm=recOf (rss' i) nm:=fun i hi=>(hl i (List.mem_range.1 hi)).2 (by rw [(hl i (List.mem_range.1 hi)).1];exact hall i hi)
  have eA:((List.range n).map fun i=>(recOf (rss i) nm).ob)=(List.range n).map fun i=>(recOf (rss' i) nm).ob:=List.map_congr_left fun i hi=>by rw [e2 i hi]
  have eZ:((List.range n).map fun i=>(recOf (rss i) nm).late)=(List.range n).map fun i=>(recOf (rss' i) nm).late:=List.map_congr_left fun i hi=>by rw [e2 i hi]
  rw [eA,eZ]
 ·rfl
theorem known_same {n:Nat} {rss rss':Nat→List RecV} {nm:ByteArray} (hm:∀i,i<n→∀r,r.name=nm→(r∈rss i↔r∈rss' i)) (hk:Known n rss nm):Known n rss' nm:=by
 obtain ⟨i,hi,r,hr,e⟩:=hk
 exact ⟨i,hi,r,(hm i hi r e).1 hr,e⟩
theorem code_leave {n:Nat} {rss:Nat→List RecV} {nm:ByteArray} (h:codeOf n rss nm=some 5):∀i,i<n→hasName (rss i) nm=true∧(recOf (rss i) nm).na=none∧(recOf (rss i) nm).ob=(recOf (rss 0) nm).ob:=by
 have hall:=(codeOf_le n rss nm 5 h).2 (by decide)
 unfold codeOf at h
 rw [if_pos (by rw [List.all_eq_true];exact fun i hi=>hall i (List.mem_range.1 hi))] at h
 unfold settleOf at h
 split at h
 ·rename_i hs
  split at h
  ·rename_i he
   intro i hi
   have e1:(recOf (rss i) nm).ob=(recOf (rss i) nm).late:=by
    have:=congrArg (fun l=>l[i]?) he
    simpa [hi] using this
   have hna:(recOf (rss i) nm).na=none:=by
    cases hq:(recOf (rss i) nm).na with
    | none=>rfl
    | some ad =>
     rw [RecV.late,hq] at e1
     have:=congrArg Ob.epoch e1
     simp [RecV.ob] at this
   refine ⟨hall i hi,hna,?_⟩
   unfold allSame at hs
   have hs':=(of_decide_eq_true hs).2 i (by simpa using hi)
   rw [←he] at hs'
   rw [getElem!_pos _ i (by simpa using hi),getElem!_pos _ 0 (by simp;omega)] at hs'
   simpa using hs'
  ·cases h
 ·split at h<;>cases h
theorem leave_code {n:Nat} (hn:1≤n) {rss:Nat→List RecV} {nm:ByteArray} (h:∀i,i<n→hasName (rss i) nm=true∧(recOf (rss i) nm).na=none∧(recOf (rss i) nm).ob=(recOf (rss 0) nm).ob):codeOf n rss nm=some 5:=by
 unfold codeOf
 rw [if_pos (by rw [List.all_eq_true];exact fun i hi=>(h i (List.mem_range.1 hi)).1)]
 have el:∀i,i<n→(recOf (rss i) nm).late=(recOf (rss i) nm).ob:=fun i hi=>by rw [RecV.late,(h i hi).2.1];rfl
 have e1:((List.range n).map fun i=>(recOf (rss i) nm).late)=(List.range n).map fun i=>(recOf (rss i) nm).ob:=List.map_congr_left fun i hi=>el i (List.mem_range.1 hi)
 rw [e1]
 unfold settleOf
 rw [if_pos,if_pos rfl]
 refine allSame_const _ (recOf (rss 0) nm).ob ?_ ?_
 ·intro e
  have:=congrArg List.length e
  simp at this
  omega
 ·intro y hy
  obtain ⟨i,hi,rfl⟩:=List.mem_map.1 hy
  exact (h i (List.mem_range.1 hi)).2.2
theorem sorted_ext:∀(A Z:List Ob),A.Pairwise (fun a b=>cmpB a.name b.name<0)→Z.Pairwise (fun a b=>cmpB a.name b.name<0)→(∀x,x∈A↔x∈Z)→A=Z
 | [],[],_,_,_=>rfl
 | [],z :: Z,_,_,h=>by have:=(h z).2 (List.mem_cons_self ..);simp at this
 | a :: A,[],_,_,h=>by have:=(h a).1 (List.mem_cons_self ..);simp at this
 | a :: A,z :: Z,h1,h2,h=>by
  obtain ⟨ha,h1'⟩:=List.pairwise_cons.1 h1
  obtain ⟨hz,h2'⟩:=List.pairwise_cons.1 h2
  have irr:∀x:ByteArray,¬cmpB x x<0:=fun x hx=>by have:=cmpB_zero.2 (rfl:x=x);omega
  have e:a=z:=by
   rcases List.mem_cons.1 ((h a).1 (List.mem_cons_self ..)) with e | e
   ·exact e
   ·rcases List.mem_cons.1 ((h z).2 (List.mem_cons_self ..)) with e' | e'
    ·exact e'.symm
    ·exact absurd (cmpB_trans (ha z e') (hz a e)) (irr _)
  subst e
  rw [sorted_ext A Z h1' h2' fun x=>?_]
  constructor
  ·intro hx
   rcases List.mem_cons.1 ((h x).1 (List.mem_cons_of_mem _ hx)) with e | e
   ·subst e;exact absurd (ha x hx) (irr _)
   ·exact e
  ·intro hx
   rcases List.mem_cons.1 ((h x).2 (List.mem_cons_of_mem _ hx)) with e | e
   ·subst e;exact absurd (hz x hx) (irr _)
   ·exact e
theorem even_of {n:Nat} {rss:Nat→List RecV} (hn:1≤n) (hso:∀i,i<n→Sorted (rss i)) (hsm:Small n rss) (h:∀nm,Known n rss nm→codeOf n rss nm=some 5):Even n rss:=by
 have hso':∀i,i<n→((rss i).map RecV.ob).Pairwise (fun a b=>cmpB a.name b.name<0):=fun i hi=>List.Pairwise.map RecV.ob (fun a b hab=>hab) ((sorted_iff _).1 (hso i hi))
 have hm:∀i j,i<n→j<n→∀x,x∈(rss i).map RecV.ob→x∈(rss j).map RecV.ob:=by
  intro i j hi hj x hx
  obtain ⟨r,hr,rfl⟩:=List.mem_map.1 hx
  have hc:=code_leave (h r.name ⟨i,hi,r,hr,rfl⟩)
  have e1:=(hc i hi).2.2
  have e2:=(hc j hj).2.2
  rw [recOf_of (hso i hi) r hr] at e1
  rw [e1,←e2]
  exact List.mem_map_of_mem (recOf_mem (hc j hj).1).1
 refine ⟨fun i hi=>sorted_ext _ _ (hso' i hi) (hso' 0 (by omega)) (fun x=>⟨hm i 0 hi (by omega) x,hm 0 i (by omega) hi x⟩),fun i hi r hr=>?_,hsm⟩
 have hc:=(code_leave (h r.name ⟨i,hi,r,hr,rfl⟩) i hi).2.1
 rwa [recOf_of (hso i hi) r hr] at hc
theorem Even.code {n:Nat} {rss:Nat→List RecV} (h:Even n rss) (hn:1≤n) (hso:∀i,i<n→Sorted (rss i)) (nm:ByteArray) (hk:Known n rss nm):codeOf n rss nm=some 5:=by
 obtain ⟨i,hi,r,hr,rfl⟩:=hk
 obtain ⟨_,h2,_⟩:=h.has hso i 0 hi (by omega) r hr
 refine leave_code hn fun j hj=>?_
 obtain ⟨k1,k2,k3⟩:=h.has hso i j hi hj r hr
 exact ⟨k1,h.bare j hj _ k3,k2.trans h2.symm⟩
theorem Even.length {n:Nat} {rss:Nat→List RecV} (h:Even n rss) (i:Nat) (hi:i<n):(rss i).length=(rss 0).length:=by
 have:=congrArg List.length (h.same i hi)
 simpa using this
theorem Even.hasName {n:Nat} {rss:Nat→List RecV} (h:Even n rss) (hn:1≤n) (hso:∀i,i<n→Sorted (rss i)) (nm:ByteArray) (i:Nat) (hi:i<n):hasName (rss i) nm=hasName (rss 0) nm:=by
 rw [Bool.eq_iff_iff,hasName_iff (hso i hi),hasName_iff (hso 0 (by omega))]
 constructor
 ·rintro ⟨r,hr,rfl⟩
  obtain ⟨k1,_,_⟩:=h.has hso i 0 hi (by omega) r hr
  exact (hasName_iff (hso 0 (by omega)) _).1 k1
 ·rintro ⟨r,hr,rfl⟩
  obtain ⟨k1,_,_⟩:=h.has hso 0 i (by omega) hi r hr
  exact (hasName_iff (hso i hi) _).1 k1
theorem setR_mem {rs:List RecV} (hs:Sorted rs) {nm:ByteArray} (hy:hasName rs nm=true) (r':RecV) (x:RecV):x∈rs.set (posOf rs nm) r'↔x=r'∨(x∈rs∧x.name≠nm):=by
 have hlt:=has_lt hy
 have hnm:=has_name hy
 rw [getElem!_pos rs _ hlt] at hnm
 constructor
 ·intro hx
  obtain ⟨i,hi,rfl⟩:=List.getElem_of_mem hx
  rw [List.length_set] at hi
  rw [List.getElem_set]
  split
  ·exact .inl rfl
  ·rename_i hne
   refine .inr ⟨List.getElem_mem hi,fun e=>?_⟩
   rcases Nat.lt_or_gt_of_ne hne with h | h
   ·have:=hs (posOf rs nm) i h hi
    rw [getElem!_pos rs (posOf rs nm) hlt,getElem!_pos rs i hi,e,hnm,cmpB_zero.2 rfl] at this
    omega
   ·have:=hs i (posOf rs nm) h hlt
    rw [getElem!_pos rs (posOf rs nm) hlt,getElem!_pos rs i hi,e,hnm,cmpB_zero.2 rfl] at this
    omega
 ·rintro (rfl | ⟨hx,hne⟩)
  ·exact List.mem_iff_getElem.2 ⟨posOf rs nm,by simpa using hlt,by simp⟩
  ·obtain ⟨i,hi,rfl⟩:=List.getElem_of_mem hx
   refine List.mem_iff_getElem.2 ⟨i,by simpa using hi,?_⟩
   rw [List.getElem_set]
   split
   ·rename_i e
    subst e
    exact absurd hnm hne
   ·rfl
theorem setR_sorted {rs:List RecV} (hs:Sorted rs) {nm:ByteArray} (hy:hasName rs nm=true) (r':RecV) (hn:r'.name=nm):Sorted (rs.set (posOf rs nm) r') :=
 hs.set _ r' (has_lt hy) (by rw [has_name hy,hn])
theorem setR_self {rs:List RecV} {nm:ByteArray} (hy:hasName rs nm=true):rs.set (posOf rs nm) (recOf rs nm)=rs:=by
 unfold recOf
 rw [getElem!_pos rs (posOf rs nm) (has_lt hy)]
 exact List.set_getElem_self _
theorem setR_has {rs:List RecV} {nm:ByteArray} (hy:hasName rs nm=true) (r':RecV) (hn:r'.name=nm) (x:ByteArray):hasName (rs.set (posOf rs nm) r') x=hasName rs x:=hasName_set rs _ r' x (has_lt hy) (by rw [has_name hy,hn])
theorem setR_recOf {rs:List RecV} (hs:Sorted rs) {nm:ByteArray} (hy:hasName rs nm=true) (r':RecV) (hn:r'.name=nm):recOf (rs.set (posOf rs nm) r') nm=r' :=
 recOf_eq (setR_sorted hs hy r' hn) ((setR_mem hs hy r' r').2 (.inl rfl)) hn
theorem settled_other {rs:List RecV} (hs:Sorted rs) (c:Nat) (nm:ByteArray) (r:RecV) (hne:r.name≠nm):r∈settled c nm rs↔r∈rs:=by
 unfold settled
 split
 ·rw [remR_mem]
  exact ⟨fun h=>h.1,fun h=>⟨h,hne⟩⟩
 ·split
  ·rename_i hy
   have key:∀r':RecV,r'.name=nm→(r∈rs.set (posOf rs nm) r'↔r∈rs):=fun r' hn=>by
    rw [setR_mem hs hy]
    exact ⟨fun h=>h.elim (fun e=>absurd (by rw [e,hn]) hne) (fun h=>h.1),fun h=>.inr ⟨h,hne⟩⟩
   have hn:=has_name hy
   split
   ·split
    ·exact Iff.rfl
    ·exact key _ hn
   ·exact key _ hn
  ·exact Iff.rfl
theorem settled_sorted {rs:List RecV} (hs:Sorted rs) (c:Nat) (nm:ByteArray):Sorted (settled c nm rs):=by
 unfold settled
 split
 ·exact remR_sorted hs nm
 ·split
  ·rename_i hy
   have hn:=has_name hy
   split
   ·split
    ·exact hs
    ·exact setR_sorted hs hy _ hn
   ·exact setR_sorted hs hy _ hn
  ·exact hs
theorem settled_no {rs:List RecV} (hs:Sorted rs) (nm:ByteArray):hasName (settled 1 nm rs) nm=false:=by
 unfold settled
 rw [if_pos rfl]
 exact remR_no hs nm
theorem code_finish {n:Nat} {rss:Nat→List RecV} {nm:ByteArray} (h:codeOf n rss nm=some 3):∀i,i<n→hasName (rss i) nm=true∧(recOf (rss i) nm).late=(recOf (rss 0) nm).late:=by
 have hall:=(codeOf_le n rss nm 3 h).2 (by decide)
 unfold codeOf at h
 rw [if_pos (by rw [List.all_eq_true];exact fun i hi=>hall i (List.mem_range.1 hi))] at h
 unfold settleOf at h
 split at h
 ·rename_i hs
  intro i hi
  refine ⟨hall i hi,?_⟩
  unfold allSame at hs
  have hs':=(of_decide_eq_true hs).2 i (by simpa using hi)
  rw [getElem!_pos _ i (by simpa using hi),getElem!_pos _ 0 (by simp;omega)] at hs'
  simpa using hs'
 ·split at h<;>cases h
theorem code_back {n:Nat} {rss:Nat→List RecV} {nm:ByteArray} (h:codeOf n rss nm=some 4):∀i,i<n→hasName (rss i) nm=true∧(recOf (rss i) nm).ob=(recOf (rss 0) nm).ob:=by
 have hall:=(codeOf_le n rss nm 4 h).2 (by decide)
 unfold codeOf at h
 rw [if_pos (by rw [List.all_eq_true];exact fun i hi=>hall i (List.mem_range.1 hi))] at h
 unfold settleOf at h
 split at h
 ·split at h<;>cases h
 ·split at h
  ·rename_i hs
   intro i hi
   refine ⟨hall i hi,?_⟩
   unfold allSame at hs
   have hs':=(of_decide_eq_true hs).2 i (by simpa using hi)
   rw [getElem!_pos _ i (by simpa using hi),getElem!_pos _ 0 (by simp;omega)] at hs'
   simpa using hs'
  ·cases h
theorem settled_finish {rs:List RecV} (hs:Sorted rs) {nm:ByteArray} (hy:hasName rs nm=true):hasName (settled 3 nm rs) nm=true∧(recOf (settled 3 nm rs) nm).na=none∧(recOf (settled 3 nm rs) nm).ob=(recOf rs nm).late:=by
 unfold settled
 rw [if_neg (by decide),if_pos hy,if_pos rfl]
 have hn:(recOf rs nm).name=nm:=has_name hy
 cases hq:(recOf rs nm).na with
 | none =>
  rw [if_pos rfl]
  refine ⟨hy,hq,?_⟩
  rw [RecV.late,hq]
  rfl
 | some ad =>
  rw [if_neg (by simp)]
  refine ⟨by rw [setR_has hy _ (by exact hn)];exact hy,?_⟩
  rw [setR_recOf hs hy _ (by exact hn)]
  refine ⟨rfl,?_⟩
  rw [RecV.late,hq]
  rfl
theorem settled_back {rs:List RecV} (hs:Sorted rs) {nm:ByteArray} (hy:hasName rs nm=true):hasName (settled 4 nm rs) nm=true∧(recOf (settled 4 nm rs) nm).na=none∧(recOf (settled 4 nm rs) nm).ob=(recOf rs nm).ob:=by
 unfold settled
 rw [if_neg (by decide),if_pos hy,if_neg (by decide)]
 have hn:(recOf rs nm).name=nm:=has_name hy
 refine ⟨by rw [setR_has hy _ (by exact hn)];exact hy,?_⟩
 rw [setR_recOf hs hy _ (by exact hn)]
 exact ⟨rfl,rfl⟩
theorem settled_even {n:Nat} {rss:Nat→List RecV} {g:List UInt8} {c:Nat} (hn:1≤n) (hso:∀i,i<n→Sorted (rss i)) (h:cutOf n rss=some (g,c)) (hc:c=1∨c=3∨c=4) (hsm:Small n (fun i=>settled c ⟨g.toArray⟩ (rss i))):Even n (fun i=>settled c ⟨g.toArray⟩ (rss i)):=by
 rcases cut_all h with ⟨rfl,_⟩|⟨_,hk,hcode,ho⟩
 ·omega
 ·have hso':∀i,i<n→Sorted (settled c ⟨g.toArray⟩ (rss i)):=fun i hi=>settled_sorted (hso i hi) c _
  refine even_of hn hso' hsm fun nm hkn=>?_
  by_cases hne:nm=⟨g.toArray⟩
  ·subst hne
   rcases hc with rfl | rfl | rfl
   ·obtain ⟨i,hi,r,hr,e⟩:=hkn
    have:=settled_no (hso i hi) ⟨g.toArray⟩
    rw [(hasName_iff (hso' i hi) _).2 ⟨r,hr,e⟩] at this
    cases this
   ·have hf:=code_finish hcode
    refine leave_code hn fun i hi=>?_
    obtain ⟨a,b,e⟩:=settled_finish (hso i hi) (hf i hi).1
    obtain ⟨_,_,e0⟩:=settled_finish (hso 0 (by omega)) (hf 0 (by omega)).1
    exact ⟨a,b,by rw [e,e0];exact (hf i hi).2⟩
   ·have hf:=code_back hcode
    refine leave_code hn fun i hi=>?_
    obtain ⟨a,b,e⟩:=settled_back (hso i hi) (hf i hi).1
    obtain ⟨_,_,e0⟩:=settled_back (hso 0 (by omega)) (hf 0 (by omega)).1
    exact ⟨a,b,by rw [e,e0];exact (hf i hi).2⟩
  ·have hm:∀i,i<n→∀r:RecV,r.name=nm→(r∈settled c ⟨g.toArray⟩ (rss i)↔r∈rss i):=fun i hi r hr=>settled_other (hso i hi) c _ r (by rw [hr];exact hne)
   rw [code_same hso' hso hm]
   exact ho nm (known_same hm hkn) hne
theorem cut_even {n:Nat} {rss:Nat→List RecV} {g:List UInt8} (hn:1≤n) (hso:∀i,i<n→Sorted (rss i)) (hsm:Small n rss) (h:cutOf n rss=some (g,5)):Even n rss:=by
 rcases cut_all h with ⟨_,ho⟩|⟨h,_⟩
 ·exact even_of hn hso hsm ho
 ·exact absurd rfl h
end Go.Proofs.YtcegdgmbponapabGreatDoor