import Derived.Test.YtcegdgmbponapaaGreatDoorPart21
set_option maxRecDepth 100000
set_option maxHeartbeats 4000000
namespace Go.Proofs.YtcegdgmbponapaaGreatDoor
open Go.RowKit
attribute [local go_sem ↓] Go.wp_at_zero Go.wp_at_succ
theorem Tryz.callRemove (args:Array Value) (w:World):(callFunc 182 args).run Tryz.prog w=.ok (.enter 182 args) w:=qhF Tryz.func182 (by kernel_rfl) rfl args w
structure qcZ (W n:Nat) (sp:Nat→Nat) (dn:Nat→Bool) (vs us:Nat→Value) (old new:Nat→List RecV) (t:Nat) (w:World):Prop where
 sz:W≤w.heap.size
 st:∀i,i<n→Sto w (sp i) (dn i) (us i) (if i<t then new i else old i)
 same:∀i,t≤i→i<n→us i=vs i
 blk:∀i,i<n→(us i).ownBlock=(vs i).ownBlock∨∃b,(us i).ownBlock=some b∧W≤b
 dis:∀i j,i<n→j<n→i≠j→∀b,(us i).ownBlock=some b→(us j).ownBlock≠some b
def qaA (n:Nat) (sp:Nat→Nat) (vs:Nat→Value) (b:Nat):Prop:=∃i,i<n∧(b=sp i∨(vs i).ownBlock=some b)
theorem qcZ.keeps {W n V:Nat} {sp:Nat→Nat} {dn:Nat→Bool} {vs us:Nat→Value} {old new:Nat→List RecV} {t:Nat} {w w':World} (h:qcZ W n sp dn vs us old new t w) (hs:qaa (fun b=>b=V) w w') (hVW:V<W) (hsV:∀i,i<n→sp i≠V) (hvV:∀i,i<n→(vs i).ownBlock≠some V):qcZ W n sp dn vs us old new t w':=by
 refine ⟨Nat.le_trans h.sz hs.size,fun i hi=>(h.st i hi).keeps hs (hsV i hi) (fun b hb e=>?_),h.same,h.blk,h.dis⟩
 subst e
 rcases h.blk i hi with h1 | ⟨b',h1,h2⟩
 ·exact hvV i hi (by rw [←h1];exact hb)
 ·rw [hb] at h1
  cases h1
  omega
theorem qcZ.step {W n:Nat} {sp:Nat→Nat} {dn:Nat→Bool} {vs us:Nat→Value} {old new:Nat→List RecV} {i:Nat} {w w':World} (h:qcZ W n sp dn vs us old new i w) (hi:i<n) (hsi:∀i j,i<n→j<n→i≠j→sp i≠sp j)
  (v':Value) (hst:Sto w' (sp i) (dn i) v' (new i)) (hb:v'.ownBlock=(vs i).ownBlock∨∃b,v'.ownBlock=some b∧w.heap.size≤b) (hsp:qaa (fun b=>b=sp i∨(vs i).ownBlock=some b) w w') :
  qcZ W n sp dn vs (fun j=>if j=i then v' else us j) old new (i+1) w':=by
 have husi:us i=vs i:=h.same i nl hi
 have hnew:∀j,j<n→j≠i→∀b,(us j).ownBlock=some b→v'.ownBlock≠some b:=by
  intro j hj hji b hb1 hb2
  rcases hb with hb | ⟨b',hb,hge⟩
  ·exact h.dis j i hj hi hji b hb1 (by rw [husi,←hb];exact hb2)
  ·rw [hb2] at hb
   cases hb
   have:=((h.st j hj).row.lt b hb1).2
   omega
 refine ⟨Nat.le_trans h.sz hsp.size,fun j hj=>?_,fun j hj hjn=>?_,fun j hj=>?_,fun a b ha hb' hab c hc=>?_⟩
 ·by_cases hji:j=i
  ·subst hji
   rw [if_pos (Nat.lt_succ_self _)]
   simp only [if_true]
   exact hst
  ·have e:(if j<i+1 then new j else old j)=(if j<i then new j else old j):=by
    by_cases hlt':j<i
    ·rw [if_pos (by omega),if_pos hlt']
    ·rw [if_neg (by omega),if_neg hlt']
   rw [e]
   simp only [hji,if_false]
   refine (h.st j hj).keeps hsp ?_ (fun b hb=>?_)
   ·rintro (e | e)
    ·exact hsi j i hj hi hji e
    ·have h1:=(h.st i hi).row
     rw [husi] at h1
     exact row_ne h1 (h.st j hj).hp (by decide) e
   ·rintro (e | e)
    ·subst e
     exact row_ne (h.st j hj).row (h.st i hi).hp (by decide) hb
    ·exact h.dis j i hj hi hji b hb (by rw [husi];exact e)
 ·simp only [show ¬j=i by omega,if_false]
  exact h.same j (by omega) hjn
 ·by_cases hji:j=i
  ·subst hji
   simp only [if_true]
   rcases hb with hb | ⟨b,hb,hge⟩
   ·exact .inl hb
   ·exact .inr ⟨b,hb,Nat.le_trans h.sz hge⟩
  ·simp only [hji,if_false]
   exact h.blk j hj
 ·by_cases hai:a=i
  ·subst hai
   simp only [if_true] at hc
   simp only [Ne.symm hab,if_false]
   exact fun e=>hnew b hb' (Ne.symm hab) c e hc
  ·simp only [hai,if_false] at hc
   by_cases hbi:b=i
   ·subst hbi
    simp only [if_true]
    exact hnew a ha hab c hc
   ·simp only [hbi,if_false]
    exact h.dis a b ha hb' hab c hc
def qkT (w':World) (W V key n B bc:Nat) (sp:Nat→Nat) (dn:Nat→Bool) (vs:Nat→Value) (old new:Nat→List RecV) (p:Pen) (d t:Nat) (e:Ending):Prop :=
 Ended w' V key n B bc sp p n d t e∧∃us,qcZ W n sp dn vs us old new t w'
theorem qfh (c f:Nat) (base V key n B bc br rc:Nat) (sp:Nat→Nat) (dn:Nat→Bool) (vs:Nat→Value) (old new:Nat→List RecV) (xs:List RecV) (p:Pen) (w:World) (hn8:n≤8)
  (hsteps:∀w,Calls Tryz.prog 134 #[.int .i64 c] w fun e w'=>∃g,e=.returned (.slice (some ⟨g,0,none⟩) 1 1)∧w.heap.size≤g∧Fns w' g [f]∧Below w.heap.size w w')
  (hcall:∀args w,(callFunc f args).run Tryz.prog w=.ok (.enter f args) w)
  (hv:Vp w V key n B bc sp p) (hxl:xs.length=n) (hx:Rd w (some ⟨br,0,none⟩) (recs xs)) (hbr:br<w.heap.size) (hrt:∃cs,w.heap[br]?=some (.cells cs 152)) (hrv:∀i,i<n→(vs i).ownBlock≠some br)
  (hst:∀i,i<n→Sto w (sp i) (dn i) (vs i) (old i)) (hsi:∀i j,i<n→j<n→i≠j→sp i≠sp j) (hvi:∀i j,i<n→j<n→i≠j→∀b,(vs i).ownBlock=some b→(vs j).ownBlock≠some b)
  (hG:Glob w base) (hbV:base≤V) (hbs:∀i,i<n→base≤sp i) (hbv:∀i,i<n→∀b,(vs i).ownBlock=some b→base≤b)
  (hop:∀i w1,i<n→Sto w1 (sp i) (dn i) (vs i) (old i)→qaa (fun b=>b=V∨qaA n sp vs b) w w1→Calls Tryz.prog f #[.pointer (some ⟨sp i,0,none⟩),(xs[i]!).val] w1 fun e w2 =>
   e=.returned (.tuple #[])∧∃v',Sto w2 (sp i) (dn i) v' (new i)∧(v'.ownBlock=(vs i).ownBlock∨∃b,v'.ownBlock=some b∧w1.heap.size≤b)∧qaa (fun b=>b=sp i∨(vs i).ownBlock=some b) w1 w2) :
  Calls Tryz.prog 80 #[.pointer (some ⟨V,0,none⟩),.int .i64 c,.slice (some ⟨br,0,none⟩) n rc] w fun e w' =>
   ∃t,qkT w' w.heap.size V key n B bc sp dn vs old new p 1 t e∧qaa (fun b=>b=V∨qaA n sp vs b) w w':=by
 obtain ⟨LB,hLB,_⟩:=hv.hb
 obtain ⟨csR,hR⟩:=hrt
 have hVh:=hv.hp
 have hlt:∀i,i<n→sp i<w.heap.size:=fun i hi=>cells_lt (hst i hi).hp
 have hvlt:∀i,i<n→∀b,(vs i).ownBlock=some b→b<w.heap.size:=fun i hi b hb=>((hst i hi).row.lt b hb).2
 have hown:∀b cs e,w.heap[b]?=some (.cells cs e)→e≠178→(∀i,i<n→(vs i).ownBlock≠some b)→¬qaA n sp vs b:=by
  rintro b cs e hb he hno ⟨i,hi,e1 | e1⟩
  ·subst e1
   rw [(hst i hi).hp] at hb
   cases hb
   exact he rfl
  ·exact hno i hi e1
 have hoV:¬qaA n sp vs V:=hown V _ _ hVh (by decide) (fun i hi=>row_ne (hst i hi).row hVh (by decide))
 have hoB:¬qaA n sp vs B:=hown B _ _ hLB (by decide) (fun i hi=>row_ne (hst i hi).row hLB (by decide))
 have hor:¬qaA n sp vs br:=hown br _ _ hR (by decide) hrv
 have hrV:br≠V:=fun e=>by rw [e,hVh] at hR;cases hR
 have hBV:B≠V:=fun e=>by rw [e,hVh] at hLB;cases hLB
 refine (write_any c 1 [f] (fun t w'=>∃us,qcZ w.heap.size n sp dn vs us old new t w') (qaA n sp vs) V key n B bc br rc sp xs p w rfl (by decide) hn8 hsteps
  (fun j g hg args w'=>by
   cases j with
   | zero=>cases hg;exact hcall args w'
   | succ j=>cases hg)
  hv hxl hx hbr
  (fun w' hb=>⟨vs,hb.size,fun i hi=>by
   rw [if_neg (Nat.not_lt_zero _)]
   exact (hst i hi).keeps (qaa.ofBelow (own:=fun _=>False) hb nl) (fun h=>h) (fun _ _ h=>h),fun _ _ _=>rfl,fun _ _=>.inl rfl,hvi⟩)
  (fun t w1 w2 ⟨us,h⟩ hs=>⟨us,h.keeps hs (cells_lt hVh) (fun i hi e=>hoV ⟨i,hi,.inl e.symm⟩) (fun i hi e=>hoV ⟨i,hi,.inr e⟩)⟩)
  (fun b ⟨i,hi,hb⟩=>hb.elim (fun e=>by rw [e];exact hlt i hi) (fun e=>hvlt i hi b e)) hoV hoB hor hrV hBV
  (fun w1 hs=>(hG.spared hs (fun b hb=>by
   rcases hb with rfl | ⟨i,hi,rfl | hb⟩
   ·exact hbV
   ·exact hbs i hi
   ·exact hbv i hi b hb)).tb)
  (fun j i g w1 hg hi hJ hs=>?_)).mono ?_
 ·cases j with
  | succ j=>cases hg
  | zero =>
   cases hg
   rw [Nat.zero_mul,Nat.zero_add] at hJ ⊢
   obtain ⟨us,hm⟩:=hJ
   have h0:=hm.st i hi
   rw [if_neg (Nat.lt_irrefl _),hm.same i nl hi] at h0
   refine (hop i w1 hi h0 hs).mono ?_
   rintro e w2 ⟨rfl,v',h1,h2,h3⟩
   exact ⟨rfl,⟨_,hm.step hi hsi v' h1 h2 h3⟩,h3.mono fun b hb=>⟨i,hi,hb⟩⟩
 ·rintro e w' ⟨⟨t,h1,⟨us,hm⟩,h3,h4⟩,h5⟩
  rw [Nat.one_mul] at h1 h4
  exact ⟨t,⟨⟨h1,h3,h4⟩,us,hm⟩,h5⟩
theorem qcZ.mono {W W' n:Nat} {sp:Nat→Nat} {dn:Nat→Bool} {vs us:Nat→Value} {old new:Nat→List RecV} {t:Nat} {w:World} (h:qcZ W n sp dn vs us old new t w) (hW:W'≤W):qcZ W' n sp dn vs us old new t w :=
 ⟨Nat.le_trans hW h.sz,h.st,h.same,fun i hi=>(h.blk i hi).imp id (fun ⟨b,h1,h2⟩=>⟨b,h1,Nat.le_trans hW h2⟩),h.dis⟩
theorem qcZ.below {W n:Nat} {sp:Nat→Nat} {dn:Nat→Bool} {vs us:Nat→Value} {old new:Nat→List RecV} {t:Nat} {w w':World} (h:qcZ W n sp dn vs us old new t w) (hs:qaa (fun _=>False) w w'):qcZ W n sp dn vs us old new t w' :=
 ⟨Nat.le_trans h.sz hs.size,fun i hi=>(h.st i hi).keeps hs (fun h=>h) (fun _ _ h=>h),h.same,h.blk,h.dis⟩
theorem qkD (base V key n B bc:Nat) (sp:Nat→Nat) (p:Pen) (mode t l size:Nat) (nm vl tape:ByteArray) (vs:Nat→Value) (rss:Nat→List RecV) (w:World) (hV:Vp w V key n B bc sp p) (hcr:p.crashed=false) (hst:∀i,i<n→Sto w (sp i) false (vs i) (rss i)) (hno:∀i,i<n→hasName (rss i) nm=false) (hfew:∀i,i<n→(rss i).length<10)
  (hsi:∀i j,i<n→j<n→i≠j→sp i≠sp j) (hvi:∀i j,i<n→j<n→i≠j→∀b,(vs i).ownBlock=some b→(vs j).ownBlock≠some b)
  (hp:qaj mode t l n) (hz:size≤60) (hvs:vl.size=size) (h1:1≤nm.size) (h12:nm.size≤12) (htp:Cof.tsize mode t*Cof.ngroups mode t l size≤tape.size) (hk:key<18446744073709551616) (hG:Glob w base) (hbV:base≤V) (hbs:∀i,i<n→base≤sp i) (hbv:∀i,i<n→∀b,(vs i).ownBlock=some b→base≤b) :
  Calls Tryz.prog 75 #[.pointer (some ⟨V,0,none⟩),.string nm,.string vl,.agg #[.int .i64 mode,.int .i64 t,.int .i64 l],.string tape] w fun e w' =>
   ∃(ys:List RecV) (k:Nat),qkT w' w.heap.size V key n B bc sp (fun _=>false) vs rss (fun i=>insR (rss i) (ys[i]!)) p 2 k e∧ys.length=n∧(∀i,i<n→qc7 w' w.heap.size key mode t l n size 0 nm ((Cof.split vl.data.toList mode t l n tape.data.toList).getD i []) i (ys[i]!))∧(∀i j,i<j→j<n→(ys[i]!).blk≠(ys[j]!).blk)∧qaa (fun b=>b=V∨qaA n sp vs b) w w':=by
 have hn1:=hp.n1
 have hn8:=hp.n8
 have hng:=qao hp size hz
 have hba1:=(Below.refl w.heap.size w).alloc nl (.cells #[.int .i64 mode,.int .i64 t,.int .i64 l] 29)
 have hba2:=hba1.alloc (by simp) (.cells #[.string nm,.int .i64 mode,.int .i64 t,.int .i64 l,.int .i64 size,.int .i64 0] 55)
 have hR:Rdy w V key n B bc sp:=Vt.rdy (h:=by have:=hV;unfold Vp at this;rw [hcr] at this;exact this) hn1 hn8
 have hS0:=(hst 0 (by omega)).keeps (qaa.ofBelow (own:=fun _=>False) hba2 nl) (fun h=>h) (fun _ _ h=>h)
 have HCUT:=hid (cut_ok V key n B bc sp false (vs 0) (rss 0) mode t l size nm vl tape _ (hR.keeps hba2 nl) hS0 (hno 0 (by omega)) (hfew 0 (by omega)) hp hz hvs h1 h12 hng htp (fun i hi=>(hba2.cell (cells_lt (hst i hi).hp)).trans (by rw [cells_at (hst i hi).hp];rfl)) (fun i hi=>by have:=cells_lt (hst i hi).hp;simp;omega))
 have HVS:=hid hvs
 have HV:=hid hV
 have HST:=hid hst
 have HNO:=hid hno
 have HFEW:=hid hfew
 have HSI:=hid hsi
 have HVI:=hid hvi
 have HG:=hid hG
 have HBS:=hid hbs
 have HBV:=hid hbv
 have HP:=hid hp
 have HTP:=hid htp
 have hvz:(vl.size:Int)=(size:Int):=by omega
 clear hV hst hno hfew hsi hvi hG hbs hbv hcr hp htp hS0
 go_enter Tryz.func75,Tryz.ntmps75
 go_wp2_with fail
 refine HCUT.out.mono ?_
 rintro e w3 ⟨g,rfl,hrows,hb3⟩
 have hb23:Below w.heap.size w w3:=hba2.trans (hb3.mono (by simp;omega))
 have hz3:w.heap.size+1<w3.heap.size:=by have:=hb3.size;simp at this;omega
 have e3:∀o,w3.cell? ⟨w.heap.size+1,o,none⟩=_:=fun o=>(qbM hb3).1 (w.heap.size+1) o (by simp)
 have o3:w3.cell? ⟨w.heap.size+1,0,none⟩=some (.string nm):=by rw [e3,World.cell?_alloc_at _ _ _ _ (by simp)];rfl
 have o31:w3.cell? ⟨w.heap.size+1,1,none⟩=some (.int .i64 mode):=by rw [e3,World.cell?_alloc_at _ _ _ _ (by simp)];rfl
 have o32:w3.cell? ⟨w.heap.size+1,2,none⟩=some (.int .i64 t):=by rw [e3,World.cell?_alloc_at _ _ _ _ (by simp)];rfl
 have o33:w3.cell? ⟨w.heap.size+1,3,none⟩=some (.int .i64 l):=by rw [e3,World.cell?_alloc_at _ _ _ _ (by simp)];rfl
 have o34:w3.cell? ⟨w.heap.size+1,4,none⟩=some (.int .i64 size):=by rw [e3,World.cell?_alloc_at _ _ _ _ (by simp)];rfl
 have o35:w3.cell? ⟨w.heap.size+1,5,none⟩=some (.int .i64 0):=by rw [e3,World.cell?_alloc_at _ _ _ _ (by simp)];rfl
 have f3:w3.frozen? ⟨w.heap.size+1,0,none⟩=false:=by rw [(qbM hb3).2 (w.heap.size+1) 0 (by simp)];simp
 have HROWS:=hid hrows
 have HB23:=hid hb23
 clear hrows e3 hb3
 go_wp2_with fail
 refine (qfg nm w3 (by omega)).mono ?_
 rintro e w4 ⟨rfl,hb4⟩
 have hb04:=HB23.out.trans (hb4.mono HB23.out.size)
 have q0:w4.cell? ⟨w.heap.size+1,0,none⟩=some (.string nm):=(hb4.cell hz3).trans o3
 have q1:w4.cell? ⟨w.heap.size+1,1,none⟩=some (.int .i64 mode):=(hb4.cell hz3).trans o31
 have q2:w4.cell? ⟨w.heap.size+1,2,none⟩=some (.int .i64 t):=(hb4.cell hz3).trans o32
 have q3:w4.cell? ⟨w.heap.size+1,3,none⟩=some (.int .i64 l):=(hb4.cell hz3).trans o33
 have q4:w4.cell? ⟨w.heap.size+1,4,none⟩=some (.int .i64 size):=(hb4.cell hz3).trans o34
 have q5:w4.cell? ⟨w.heap.size+1,5,none⟩=some (.int .i64 0):=(hb4.cell hz3).trans o35
 have qf:w4.frozen? ⟨w.heap.size+1,0,none⟩=false:=(hb4.frozen hz3).trans f3
 have HQ0:=hid (qdA q0)
 have hz4:w.heap.size+1<w4.heap.size:=Nat.lt_of_lt_of_le hz3 hb4.size
 clear o3 o31 o32 o33 o34 o35 f3
 go_wp2_with fail
 rw [HQ0.out]
 have hR4:=hR.keeps hb04 nl
 have HREC:=hid (qe0 V key n B bc sp mode t l size 0 (Cof.ngroups mode t l size) nm (some ⟨g,0,none⟩) n _ w4 hR4 HP.out (by omega) hz h12 hk (qbm _ _ _ _ _ _) (fun i hi=>by rw [qbJ HP.out _ _ i hi (by simpa [HVS.out] using HTP.out)];simp [HVS.out]) hng (HROWS.out.below hb4 nl))
 refine HREC.out.mono ?_
 rintro e w5 ⟨gr,xs,rfl,hmd⟩
 have hb45:=hmd.bl
 have hb05:=hb04.trans (hb45.mono hb04.size)
 have hS05:qaa (fun _=>False) w w5:=qaa.ofBelow hb05 nl
 have hV5:=HV.out.keeps hS05 (fun h=>h) (fun h=>h)
 have hS5:∀i,i<n→Sto w5 (sp i) false (vs i) (rss i):=fun i hi=>(HST.out i hi).keeps hS05 (fun h=>h) (fun _ _ h=>h)
 have hrow:=hmd.row
 rw [Nat.sub_self,List.replicate_zero,List.append_nil] at hrow
 obtain ⟨_,_,hgv,hgrd⟩:=qad hrow
 have hgeq:=(by simpa using hgv:(some (⟨gr,0,none⟩:Addr))=_∧_)
 rw [←hgeq.1] at hgrd
 have hgr:=hrow.lt gr rfl
 have hvl:∀i,i<n→∀b,(vs i).ownBlock=some b→b<w.heap.size:=fun i hi b hb=>((HST.out i hi).row.lt b hb).2
 have hsl:∀i,i<n→sp i<w.heap.size:=fun i hi=>cells_lt (HST.out i hi).hp
 have hnmx:∀i,i<n→(xs[i]!).name=nm:=fun i hi=>(hmd.ok i hi).e.1
 have hVl:=cells_lt HV.out.hp
 have HW:=hid (qfh 0 155 base V key n B bc gr n sp (fun _=>false) vs rss (fun i=>insR (rss i) (xs[i]!)) xs p w5 hn8 qjT Tryz.callAdd hV5 hmd.len hgrd hgr.2 (by obtain ⟨tl,h,_⟩:=qaP hrow;exact ⟨_,h⟩) (fun i hi e=>by have:=hvl i hi gr e;have:=hb04.size;omega) hS5 HSI.out HVI.out (HG.out.below hb05) hbV HBS.out HBV.out
  (fun i w1 hi hs _=>(add_any (sp i) false (vs i) (rss i) (xs[i]!) w1 hs (HFEW.out i hi) (by rw [hnmx i hi];exact HNO.out i hi)).mono fun e w2 h=>h))
 have hxb:∀i,i<n→∀b,(xs[i]!).blk=some b→w4.heap.size≤b:=fun i hi b hb=>((hmd.ok i hi).own.lt b hb).1
 have HFIN:=hid (show ∀w6,qaa (fun b=>b=V∨qaA n sp vs b) w5 w6→xs.length=n∧(∀i,i<n→qc7 w6 w.heap.size key mode t l n size 0 nm ((Cof.split vl.data.toList mode t l n tape.data.toList).getD i []) i (xs[i]!))∧(∀i j,i<j→j<n→(xs[i]!).blk≠(xs[j]!).blk)∧qaa (fun b=>b=V∨qaA n sp vs b) w w6 from fun w6 hs6=>⟨hmd.len,fun i hi=>by
  refine ((hmd.ok i hi).keeps hs6 (fun b hb ho=>?_)).mono (by have:=hb04.size;omega:w.heap.size≤w4.heap.size)
  have h1:=hxb i hi b hb
  have h2:=hb04.size
  rcases ho with rfl | ⟨q,hq,rfl | hqb⟩
  ·omega
  ·have:=hsl q hq;omega
  ·have:=hvl q hq b hqb;omega,hmd.inj,(qaa.ofBelow hb05 nl).trans hs6⟩)
 have hsz5:=hb05.size
 clear hmd hrow hgrd hxb hnmx hV5 hgv hgeq hS5 hvl hsl
 go_wp2_with fail
 refine HW.out.mono ?_
 rintro e w6 ⟨k,⟨⟨hk1,hnh,hend⟩,us,hm⟩,hsp6⟩
 have HM:=hid (hm.mono hsz5)
 have HNH:=hid hnh
 have HSP:=hid hsp6
 have HK1:=hid hk1
 clear hm hnh hsp6 hk1
 rcases hend with ⟨hk2,rfl,hvp⟩|⟨hk2,hh,⟨ev,rfl,hch⟩,hvp⟩
 ·have HVP:=hid hvp
  have HK2:=hid hk2
  clear hvp hk2
  go_wp2_with (go_at_call 78;refine (at_nil _ _).mono ?_;rintro e w7 ⟨rfl,rfl⟩)
  go_ret
  exact ⟨xs,k,⟨⟨HK1.out,HNH.out,.inl ⟨HK2.out,rfl,HVP.out⟩⟩,us,HM.out⟩,HFIN.out _ HSP.out⟩
 ·have HVP:=hid hvp
  have HK2:=hid hk2
  have HHH:=hid hh
  have HCH:=hid hch
  obtain ⟨te,ve,rfl⟩:=hch.shape
  clear hvp hk2 hh hch
  go_wp2_with (go_at_call 78;refine (qav _ _ 1 1 _ HCH.out).mono ?_;rintro e w7 ⟨e7,rfl,hch7,hb7⟩)
  go_ret
  have hs7:qaa (fun _=>False) w6 w7:=qaa.ofBelow hb7 nl
  exact ⟨xs,k,⟨⟨HK1.out,HNH.out,.inr ⟨HK2.out,HHH.out,⟨_,rfl,hch7⟩,HVP.out.keeps hs7 (fun h=>h) (fun h=>h)⟩⟩,us,HM.out.below hs7⟩,HFIN.out _ (HSP.out.trans (qaa.ofBelow hb7 nl))⟩
theorem qlT {α:Type} [Inhabited α] (n i:Nat) (x:α) (hi:i<n):(List.replicate n x)[i]! = x:=by
 rw [getElem!_pos (List.replicate n x) i (by simpa using hi)]
 simp
theorem qi9 (c f:Nat) (base V key n B bc g:Nat) (sp:Nat→Nat) (dn:Nat→Bool) (vs:Nat→Value) (old new:Nat→List RecV) (x:RecV) (p:Pen) (w:World) (hn8:n≤8)
  (hsteps:∀w,Calls Tryz.prog 134 #[.int .i64 c] w fun e w'=>∃g,e=.returned (.slice (some ⟨g,0,none⟩) 1 1)∧w.heap.size≤g∧Fns w' g [f]∧Below w.heap.size w w')
  (hcall:∀args w,(callFunc f args).run Tryz.prog w=.ok (.enter f args) w)
  (hv:Vp w V key n B bc sp p) (hg:w.heap[g]?=some (.cells (recs (List.replicate n x)).toArray 152)) (hrv:∀i,i<n→(vs i).ownBlock≠some g)
  (hst:∀i,i<n→Sto w (sp i) (dn i) (vs i) (old i)) (hsi:∀i j,i<n→j<n→i≠j→sp i≠sp j) (hvi:∀i j,i<n→j<n→i≠j→∀b,(vs i).ownBlock=some b→(vs j).ownBlock≠some b)
  (hG:Glob w base) (hbV:base≤V) (hbs:∀i,i<n→base≤sp i) (hbv:∀i,i<n→∀b,(vs i).ownBlock=some b→base≤b)
  (hop:∀i w1,i<n→Sto w1 (sp i) (dn i) (vs i) (old i)→Calls Tryz.prog f #[.pointer (some ⟨sp i,0,none⟩),x.val] w1 fun e w2 =>
   e=.returned (.tuple #[])∧∃v',Sto w2 (sp i) (dn i) v' (new i)∧(v'.ownBlock=(vs i).ownBlock∨∃b,v'.ownBlock=some b∧w1.heap.size≤b)∧qaa (fun b=>b=sp i∨(vs i).ownBlock=some b) w1 w2) :
  Calls Tryz.prog 80 #[.pointer (some ⟨V,0,none⟩),.int .i64 c,.slice (some ⟨g,0,none⟩) n n] w fun e w' =>
   ∃t,qkT w' w.heap.size V key n B bc sp dn vs old new p 1 t e∧qaa (fun b=>b=V∨qaA n sp vs b) w w' :=
 qfh c f base V key n B bc g n sp dn vs old new (List.replicate n x) p w hn8 hsteps hcall hv (by simp)
  (fun j u hj=>⟨g,0,rfl,cells_lt hg,by rw [Nat.zero_add,qaZ hg,hj]⟩) (cells_lt hg) ⟨_,hg⟩ hrv hst hsi hvi hG hbV hbs hbv
  (fun i w1 hi hs _=>by rw [qlT n i x hi];exact hop i w1 hi hs)
theorem qgS (base V key n B bc:Nat) (sp:Nat→Nat) (p:Pen) (nm:ByteArray) (vs:Nat→Value) (rss:Nat→List RecV) (w:World) (hn1:1≤n) (hn8:n≤8) (hV:Vp w V key n B bc sp p) (hcr:p.crashed=false) (hst:∀i,i<n→Sto w (sp i) false (vs i) (rss i)) (hyes:hasName (rss 0) nm=true)
  (hsi:∀i j,i<n→j<n→i≠j→sp i≠sp j) (hvi:∀i j,i<n→j<n→i≠j→∀b,(vs i).ownBlock=some b→(vs j).ownBlock≠some b)
  (hG:Glob w base) (hbV:base≤V) (hbs:∀i,i<n→base≤sp i) (hbv:∀i,i<n→∀b,(vs i).ownBlock=some b→base≤b) :
  Calls Tryz.prog 102 #[.pointer (some ⟨V,0,none⟩),.string nm] w fun e w' =>
   ∃k:Nat,qkT w' w.heap.size V key n B bc sp (fun _=>false) vs rss (fun i=>remR (rss i) nm) p 2 k e∧qaa (fun b=>b=V∨qaA n sp vs b) w w':=by
 have hR:Rdy w V key n B bc sp:=Vt.rdy (h:=by have:=hV;unfold Vp at this;rw [hcr] at this;exact this) hn1 hn8
 obtain ⟨a0,c0,_,hst0⟩:=(hst 0 (by omega)).st
 have HOBJ:=hid (qbB V key n B bc sp false a0 c0 (rss 0) (qac (rss 0) nm) nm w hR hst0 hyes rfl)
 have hnm:(qac (rss 0) nm).name=nm:=qaS hyes
 rw [hnm] at HOBJ
 generalize qac (rss 0) nm=q at HOBJ hnm
 have HVA:=hid (Vt.va hV)
 have HV:=hid hV
 have HST:=hid hst
 have HSI:=hid hsi
 have HVI:=hid hvi
 have HG:=hid hG
 have HBS:=hid hbs
 have HBV:=hid hbv
 clear hV hst hsi hvi hG hbs hbv hcr hst0 hR hyes hnm
 go_enter Tryz.func102,Tryz.ntmps102
 go_wp2_with fail
 refine HOBJ.out.mono ?_
 rintro e w1 ⟨rfl,hb1⟩
 have hba:=hb1.alloc hb1.size (.cells #[.string nm,.int .i64 q.mode,.int .i64 q.t,.int .i64 q.l,.int .i64 q.size,.int .i64 q.epoch] 55)
 have HUP:=hid (fun w' (hb':Below w.heap.size w w')=>qdT V key n B 0 bc sp w' (HVA.out.keeps hb' nl) hn8 (fun i hi=>by rw [hb'.cell (p:=⟨sp i,0,none⟩) (cells_lt (HST.out i hi).hp),cells_at (HST.out i hi).hp];rfl))
 have HEV:=hid (fun w' (hb':Below w.heap.size w w')=>qeD V key n B bc sp nm q.mode q.t q.l q.size q.epoch w' (HVA.out.keeps hb' nl) hn1 hn8)
 go_wp2_with fail
 refine (HUP.out _ hba).mono ?_
 rintro e w2 ⟨rfl,rfl⟩
 go_wp2_with fail
 refine (HEV.out _ hba).mono ?_
 rintro e w3 ⟨g,rfl,hgW,hgh,hb3⟩
 have hb03:Below w.heap.size w w3:=hba.trans (hb3.mono hba.size)
 have hS03:qaa (fun _=>False) w w3:=qaa.ofBelow hb03 nl
 have HW:=hid (qi9 1 182 base V key n B bc g sp (fun _=>false) vs rss (fun i=>remR (rss i) nm) (RecV.bare nm q.mode q.t q.l q.size q.epoch) p w3 hn8 qjc Tryz.callRemove (HV.out.keeps hS03 (fun h=>h) (fun h=>h)) hgh (fun i hi e=>by have:=((HST.out i hi).row.lt g e).2;have:=hba.size;omega) (fun i hi=>(HST.out i hi).keeps hS03 (fun h=>h) (fun _ _ h=>h)) HSI.out HVI.out (HG.out.below hb03) hbV HBS.out HBV.out
  (fun i w1 hi hs=>(qhR (sp i) false (vs i) (rss i) (RecV.bare nm q.mode q.t q.l q.size q.epoch) w1 hs).mono fun e w2 ⟨h1,v',h2,h3,h4⟩=>⟨h1,v',h2,.inl h3,h4⟩))
 have hsz:=hb03.size
 clear hgh hgW
 go_wp2_with fail
 refine HW.out.mono ?_
 rintro e w6 ⟨k,⟨⟨hk1,hnh,hend⟩,us,hm⟩,hsp6⟩
 have HM:=hid (hm.mono hsz)
 have HNH:=hid hnh
 have HSP:=hid ((qaa.ofBelow (own:=fun b=>b=V∨qaA n sp vs b) hb03 nl).trans hsp6)
 have HK1:=hid hk1
 clear hm hnh hsp6 hk1
 rcases hend with ⟨hk2,rfl,hvp⟩|⟨hk2,hh,⟨ev,rfl,hch⟩,hvp⟩
 ·have HVP:=hid hvp
  have HK2:=hid hk2
  clear hvp hk2
  go_wp2_with (go_at_call 78;refine (at_nil _ _).mono ?_;rintro e w7 ⟨rfl,rfl⟩)
  go_ret
  exact ⟨k,⟨⟨HK1.out,HNH.out,.inl ⟨HK2.out,rfl,HVP.out⟩⟩,us,HM.out⟩,HSP.out⟩
 ·have HVP:=hid hvp
  have HK2:=hid hk2
  have HHH:=hid hh
  have HCH:=hid hch
  obtain ⟨te,ve,rfl⟩:=hch.shape
  clear hvp hk2 hh hch
  go_wp2_with (go_at_call 78;refine (qav _ _ 1 1 _ HCH.out).mono ?_;rintro e w7 ⟨e7,rfl,hch7,hb7⟩)
  go_ret
  have hs7:qaa (fun _=>False) w6 w7:=qaa.ofBelow hb7 nl
  exact ⟨k,⟨⟨HK1.out,HNH.out,.inr ⟨HK2.out,HHH.out,⟨_,rfl,hch7⟩,HVP.out.keeps hs7 (fun h=>h) (fun h=>h)⟩⟩,us,HM.out.below hs7⟩,HSP.out.trans (qaa.ofBelow hb7 nl)⟩
def settled (c:Nat) (nm:ByteArray) (rs:List RecV):List RecV :=
 if c=1 then remR rs nm
 else if hasName rs nm=true then
  (if c=3 then (if (qac rs nm).na=none then rs else rs.set (qai rs nm) (qac rs nm).turned)
   else rs.set (qai rs nm) ((qac rs nm).laid (RecV.bare nm 0 0 0 0 0)))
 else rs
def codeOf (n:Nat) (rss:Nat→List RecV) (nm:ByteArray):Option Nat :=
 if (List.range n).all (fun i=>hasName (rss i) nm)=true then qdj ((List.range n).map fun i=>(qac (rss i) nm).ob) ((List.range n).map fun i=>(qac (rss i) nm).late) else some 1
def Small (n:Nat) (rss:Nat→List RecV):Prop:=∀i,i<n→∀r∈rss i,r.epoch≤1000∧r.name.size≤1000
theorem qhr (A Z:List Ob) (c:Nat) (h:qdj A Z=some c):c=3∨c=4∨c=5:=by
 unfold qdj at h
 split at h
 ·split at h<;>cases h<;>simp
 ·split at h
  ·cases h;simp
  ·cases h
theorem qjj (n:Nat) (rss:Nat→List RecV) (nm:ByteArray) (c:Nat) (h:codeOf n rss nm=some c):(c=1∨c=3∨c=4∨c=5)∧(c≠1→∀i,i<n→hasName (rss i) nm=true):=by
 unfold codeOf at h
 split at h
 ·rename_i hall
  rw [List.all_eq_true] at hall
  exact ⟨by rcases qhr _ _ _ h with h | h | h<;>simp [h],fun _ i hi=>hall i (List.mem_range.2 hi)⟩
 ·cases h
  exact ⟨.inl rfl,fun h=>absurd rfl h⟩
def qki (n:Nat) (rss:Nat→List RecV) (nm:ByteArray):Prop:=∃i,i<n∧∃r∈rss i,r.name=nm
theorem qfA {rs:List RecV} (hs:Sorted rs) {nm:ByteArray} {r:RecV} (hr:r∈rs) (hn:r.name=nm):qac rs nm=r:=by subst hn;exact qfI hs r hr
theorem qiV {rs rs':List RecV} (h:Sorted rs) (h':Sorted rs') {nm:ByteArray} (hm:∀r,r.name=nm→(r∈rs↔r∈rs')):hasName rs nm=hasName rs' nm∧(hasName rs nm=true→qac rs nm=qac rs' nm):=by
 have h1:hasName rs nm=true↔hasName rs' nm=true:=by
  rw [qay h,qay h']
  exact ⟨fun ⟨r,hr,e⟩=>⟨r,(hm r e).1 hr,e⟩,fun ⟨r,hr,e⟩=>⟨r,(hm r e).2 hr,e⟩⟩
 refine ⟨by rw [Bool.eq_iff_iff];exact h1,fun hy=>?_⟩
 obtain ⟨m1,m2⟩:=qas hy
 exact (qfA h' ((hm _ m2).1 m1) m2).symm
theorem qkl {n:Nat} {rss rss':Nat→List RecV} (h:∀i,i<n→Sorted (rss i)) (h':∀i,i<n→Sorted (rss' i)) {nm:ByteArray} (hm:∀i,i<n→∀r,r.name=nm→(r∈rss i↔r∈rss' i)):codeOf n rss nm=codeOf n rss' nm:=by
 have hl:=fun i hi=>qiV (h i hi) (h' i hi) (hm i hi)
 have e1:(List.range n).all (fun i=>hasName (rss i) nm)=(List.range n).all (fun i=>hasName (rss' i) nm):=by
  rw [Bool.eq_iff_iff,List.all_eq_true,List.all_eq_true]
  exact ⟨fun H i hi=>by rw [←(hl i (List.mem_range.1 hi)).1];exact H i hi,fun H i hi=>by rw [(hl i (List.mem_range.1 hi)).1];exact H i hi⟩
 unfold codeOf
 rw [e1]
 split
 ·rename_i hall
  rw [List.all_eq_true] at hall
  have e2:∀i∈List.range n,qac (rss i) nm=qac (rss' i) nm:=fun i hi=>(hl i (List.mem_range.1 hi)).2 (by rw [(hl i (List.mem_range.1 hi)).1];exact hall i hi)
  have eA:((List.range n).map fun i=>(qac (rss i) nm).ob)=(List.range n).map fun i=>(qac (rss' i) nm).ob:=List.map_congr_left fun i hi=>by rw [e2 i hi]
  have eZ:((List.range n).map fun i=>(qac (rss i) nm).late)=(List.range n).map fun i=>(qac (rss' i) nm).late:=List.map_congr_left fun i hi=>by rw [e2 i hi]
  rw [eA,eZ]
 ·rfl
theorem qiu {n:Nat} {rss rss':Nat→List RecV} {nm:ByteArray} (hm:∀i,i<n→∀r,r.name=nm→(r∈rss i↔r∈rss' i)) (hk:qki n rss nm):qki n rss' nm:=by
 obtain ⟨i,hi,r,hr,e⟩:=hk
 exact ⟨i,hi,r,(hm i hi r e).1 hr,e⟩
theorem qeV {n:Nat} {rss:Nat→List RecV} {nm:ByteArray} (h:codeOf n rss nm=some 5):∀i,i<n→hasName (rss i) nm=true∧(qac (rss i) nm).na=none∧(qac (rss i) nm).ob=(qac (rss 0) nm).ob:=by
 have hall:=(qjj n rss nm 5 h).2 (by decide)
 unfold codeOf at h
 rw [if_pos (by rw [List.all_eq_true];exact fun i hi=>hall i (List.mem_range.1 hi))] at h
 unfold qdj at h
 split at h
 ·rename_i hs
  split at h
  ·rename_i he
   intro i hi
   have e1:(qac (rss i) nm).ob=(qac (rss i) nm).late:=by
    have:=congrArg (fun l=>l[i]?) he
    simpa [hi] using this
   have hna:(qac (rss i) nm).na=none:=by
    cases hq:(qac (rss i) nm).na with
    | none=>rfl
    | some ad =>
     rw [RecV.late,hq] at e1
     have:=congrArg Ob.epoch e1
     simp [RecV.ob] at this
   refine ⟨hall i hi,hna,?_⟩
   unfold qdY at hs
   have hs':=(of_decide_eq_true hs).2 i (by simpa using hi)
   rw [←he] at hs'
   rw [getElem!_pos _ i (by simpa using hi),getElem!_pos _ 0 (by simp;omega)] at hs'
   simpa using hs'
  ·cases h
 ·split at h<;>cases h
theorem qdx {n:Nat} (hn:1≤n) {rss:Nat→List RecV} {nm:ByteArray} (h:∀i,i<n→hasName (rss i) nm=true∧(qac (rss i) nm).na=none∧(qac (rss i) nm).ob=(qac (rss 0) nm).ob):codeOf n rss nm=some 5:=by
 unfold codeOf
 rw [if_pos (by rw [List.all_eq_true];exact fun i hi=>(h i (List.mem_range.1 hi)).1)]
 have el:∀i,i<n→(qac (rss i) nm).late=(qac (rss i) nm).ob:=fun i hi=>by rw [RecV.late,(h i hi).2.1];rfl
 have e1:((List.range n).map fun i=>(qac (rss i) nm).late)=(List.range n).map fun i=>(qac (rss i) nm).ob:=List.map_congr_left fun i hi=>el i (List.mem_range.1 hi)
 rw [e1]
 unfold qdj
 rw [if_pos,if_pos rfl]
 refine qfw _ (qac (rss 0) nm).ob ?_ ?_
 ·intro e
  have:=congrArg List.length e
  simp at this
  omega
 ·intro y hy
  obtain ⟨i,hi,rfl⟩:=List.mem_map.1 hy
  exact (h i (List.mem_range.1 hi)).2.2
theorem qeY:∀(A Z:List Ob),A.Pairwise (fun a b=>cmpB a.name b.name<0)→Z.Pairwise (fun a b=>cmpB a.name b.name<0)→(∀x,x∈A↔x∈Z)→A=Z
 | [],[],_,_,_=>rfl
 | [],z :: Z,_,_,h=>by have:=(h z).2 (List.mem_cons_self ..);simp at this
 | a :: A,[],_,_,h=>by have:=(h a).1 (List.mem_cons_self ..);simp at this
 | a :: A,z :: Z,h1,h2,h=>by
  obtain ⟨ha,h1'⟩:=List.pairwise_cons.1 h1
  obtain ⟨hz,h2'⟩:=List.pairwise_cons.1 h2
  have irr:∀x:ByteArray,¬cmpB x x<0:=fun x hx=>by have:=qaB.2 (rfl:x=x);omega
  have e:a=z:=by
   rcases List.mem_cons.1 ((h a).1 (List.mem_cons_self ..)) with e | e
   ·exact e
   ·rcases List.mem_cons.1 ((h z).2 (List.mem_cons_self ..)) with e' | e'
    ·exact e'.symm
    ·exact absurd (qbR (ha z e') (hz a e)) (irr _)
  subst e
  rw [qeY A Z h1' h2' fun x=>?_]
  constructor
  ·intro hx
   rcases List.mem_cons.1 ((h x).1 (List.mem_cons_of_mem _ hx)) with e | e
   ·subst e;exact absurd (ha x hx) (irr _)
   ·exact e
  ·intro hx
   rcases List.mem_cons.1 ((h x).2 (List.mem_cons_of_mem _ hx)) with e | e
   ·subst e;exact absurd (hz x hx) (irr _)
   ·exact e
theorem qlF {n:Nat} {rss:Nat→List RecV} (hn:1≤n) (hso:∀i,i<n→Sorted (rss i)) (hsm:Small n rss) (h:∀nm,qki n rss nm→codeOf n rss nm=some 5):Even n rss:=by
 have hso':∀i,i<n→((rss i).map RecV.ob).Pairwise (fun a b=>cmpB a.name b.name<0):=fun i hi=>List.Pairwise.map RecV.ob (fun a b hab=>hab) ((qbj _).1 (hso i hi))
 have hm:∀i j,i<n→j<n→∀x,x∈(rss i).map RecV.ob→x∈(rss j).map RecV.ob:=by
  intro i j hi hj x hx
  obtain ⟨r,hr,rfl⟩:=List.mem_map.1 hx
  have hc:=qeV (h r.name ⟨i,hi,r,hr,rfl⟩)
  have e1:=(hc i hi).2.2
  have e2:=(hc j hj).2.2
  rw [qfI (hso i hi) r hr] at e1
  rw [e1,←e2]
  exact List.mem_map_of_mem (qas (hc j hj).1).1
 refine ⟨fun i hi=>qeY _ _ (hso' i hi) (hso' 0 (by omega)) (fun x=>⟨hm i 0 hi (by omega) x,hm 0 i (by omega) hi x⟩),fun i hi r hr=>?_,hsm⟩
 have hc:=(qeV (h r.name ⟨i,hi,r,hr,rfl⟩) i hi).2.1
 rwa [qfI (hso i hi) r hr] at hc
theorem Even.code {n:Nat} {rss:Nat→List RecV} (h:Even n rss) (hn:1≤n) (hso:∀i,i<n→Sorted (rss i)) (nm:ByteArray) (hk:qki n rss nm):codeOf n rss nm=some 5:=by
 obtain ⟨i,hi,r,hr,rfl⟩:=hk
 obtain ⟨_,h2,_⟩:=h.has hso i 0 hi (by omega) r hr
 refine qdx hn fun j hj=>?_
 obtain ⟨k1,k2,k3⟩:=h.has hso i j hi hj r hr
 exact ⟨k1,h.bare j hj _ k3,k2.trans h2.symm⟩
theorem Even.length {n:Nat} {rss:Nat→List RecV} (h:Even n rss) (i:Nat) (hi:i<n):(rss i).length=(rss 0).length:=by
 have:=congrArg List.length (h.same i hi)
 simpa using this
theorem Even.hasName {n:Nat} {rss:Nat→List RecV} (h:Even n rss) (hn:1≤n) (hso:∀i,i<n→Sorted (rss i)) (nm:ByteArray) (i:Nat) (hi:i<n):hasName (rss i) nm=hasName (rss 0) nm:=by
 rw [Bool.eq_iff_iff,qay (hso i hi),qay (hso 0 (by omega))]
 constructor
 ·rintro ⟨r,hr,rfl⟩
  obtain ⟨k1,_,_⟩:=h.has hso i 0 hi (by omega) r hr
  exact (qay (hso 0 (by omega)) _).1 k1
 ·rintro ⟨r,hr,rfl⟩
  obtain ⟨k1,_,_⟩:=h.has hso 0 i (by omega) hi r hr
  exact (qay (hso i hi) _).1 k1
theorem qkA {rs:List RecV} (hs:Sorted rs) {nm:ByteArray} (hy:hasName rs nm=true) (r':RecV) (x:RecV):x∈rs.set (qai rs nm) r'↔x=r'∨(x∈rs∧x.name≠nm):=by
 have hlt:=qbz hy
 have hnm:=qaS hy
 rw [getElem!_pos rs _ hlt] at hnm
 constructor
 ·intro hx
  obtain ⟨i,hi,rfl⟩:=List.getElem_of_mem hx
  rw [List.length_set] at hi
  rw [List.getElem_set]
  split
  ·exact .inl rfl
  ·rename_i hne
   refine .inr ⟨List.getElem_mem hi,fun e=>?_⟩
   rcases Nat.lt_or_gt_of_ne hne with h | h
   ·have:=hs (qai rs nm) i h hi
    rw [getElem!_pos rs (qai rs nm) hlt,getElem!_pos rs i hi,e,hnm,qaB.2 rfl] at this
    omega
   ·have:=hs i (qai rs nm) h hlt
    rw [getElem!_pos rs (qai rs nm) hlt,getElem!_pos rs i hi,e,hnm,qaB.2 rfl] at this
    omega
 ·rintro (rfl | ⟨hx,hne⟩)
  ·exact List.mem_iff_getElem.2 ⟨qai rs nm,by simpa using hlt,by simp⟩
  ·obtain ⟨i,hi,rfl⟩:=List.getElem_of_mem hx
   refine List.mem_iff_getElem.2 ⟨i,by simpa using hi,?_⟩
   rw [List.getElem_set]
   split
   ·rename_i e
    subst e
    exact absurd hnm hne
   ·rfl
theorem qgU {rs:List RecV} (hs:Sorted rs) {nm:ByteArray} (hy:hasName rs nm=true) (r':RecV) (hn:r'.name=nm):Sorted (rs.set (qai rs nm) r') :=
 hs.set _ r' (qbz hy) (by rw [qaS hy,hn])
end Go.Proofs.YtcegdgmbponapaaGreatDoor