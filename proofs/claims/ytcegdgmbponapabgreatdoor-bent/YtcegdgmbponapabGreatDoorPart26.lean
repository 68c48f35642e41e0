/-
  What is done to a store: Add, whatever lies there.
  What is done to a store: Remove.
  What is done to a store: Drop; Turn, where nothing is laid beside.
  The writes of a call that does one thing to each store: what each store has becomes another list.
-/
import Derived.Test.YtcegdgmbponapabGreatDoorPart25
namespace Go.Proofs.YtcegdgmbponapabGreatDoor
open Go.RowKit
attribute [local go_sem ↓] Go.wp_at_zero Go.wp_at_succ
def adV (S W n p:Nat) (v:Value) (L:List Value) (r:RecV):Nat→Value→World→Prop
 | 0,u,_=>u=.pointer (some ⟨S,0,none⟩)
 | 1,u,_=>u=.pointer (some ⟨S,0,none⟩)
 | 2,u,_=>u=.pointer (some ⟨S,0,none⟩)
 | 3,u,_=>u=.pointer (some ⟨S,1,none⟩)
 | 4,u,_=>u=v
 | 5,u,_=>u=.int .i64 p
 | 6,u,_=>u=.agg #[.string r.name,.int .i64 r.mode,.int .i64 r.t,.int .i64 r.l,.int .i64 r.size,.int .i64 r.epoch,.slice r.sa r.sn r.sc,.slice r.na r.nn r.nc]
 | 7,u,w=>∃b,u=.slice (some ⟨b,0,none⟩) 1 1∧W≤b∧w.heap[b]?=some (.cells r.cells.toArray 127)
 | 8,u,w=>w.ownsRow 0 127 8 u n L∧(u.ownBlock=v.ownBlock∨∃b,u.ownBlock=some b∧W≤b)
 | 9,u,_=>u=.pointer (some ⟨S,0,none⟩)
 | 10,u,_=>u=.pointer (some ⟨S,1,none⟩)
 | _,_,_=>True
def adSlot (i:Nat):Option Nat:=if i=11 then none else some (i+14)
def adO (S:Nat) (v:Value) (i b:Nat):Prop:=(i=8∧v.ownBlock=some b)∨(i=11∧b=S)
def adA (S W n p:Nat) (down:Bool) (v:Value) (L:List Value) (r:RecV) (j:Nat) (a:Act) (w:World):Prop :=
 adV S W n p v L r j (a.tmps.getD (j+14) undef) w∧(j=11→w.heap[S]?=some (.cells #[.bool down,a.tmps.getD 22 undef] 100))
def adU (S n:Nat) (down:Bool) (v:Value) (rs:List RecV) (j:Nat) (w:World):Prop :=
 (j=8→w.ownsRow 0 127 8 v n (recs rs))∧(j=4∨j=11→w.heap[S]?=some (.cells #[.bool down,v] 100))
theorem adV_keeps (S W n p:Nat) (v:Value) (L:List Value) (r:RecV) (hvW:∀b,v.ownBlock=some b→b<W) (hSW:S<W) (hvS:v.ownBlock≠some S) (i j:Nat) (u:Value) (w w':World) (hij:i≠j) (h:adV S W n p v L r j u w) (hs:Spared (adO S v i) w w'):adV S W n p v L r j u w':=by
 unfold adV at h ⊢
 split at h
 ·exact h
 ·exact h
 ·exact h
 ·exact h
 ·exact h
 ·exact h
 ·exact h
 ·obtain ⟨b,h1,h2,h3⟩:=h
  refine ⟨b,h1,h2,hs.heap h3 ?_⟩
  rintro (⟨_,hb⟩|⟨_,hb⟩)
  ·have:=hvW b hb;omega
  ·omega
 ·refine ⟨owns_spared h.1 hs (fun b hb=>?_),h.2⟩
  rintro (⟨rfl,hb2⟩|⟨_,hb2⟩)
  ·exact hij rfl
  ·subst hb2
   rcases h.2 with h3 | ⟨b',h3,h4⟩
   ·rw [hb] at h3;exact hvS h3.symm
   ·rw [hb] at h3;cases h3;omega
 ·exact h
 ·exact h
 ·trivial
theorem store_step {P:Program} {o:Oper} {a:Act} {w:World} {post:Value→World→Prop} (ty:TypeId) (x y:Operand) (ho:o.op=.store ty x y)
  (b off:Nat) (u:Value) (hx:a.eval x=.pointer (some ⟨b,off,none⟩)) (hy:a.eval y=u) (hu:u.oneCell'=true) (huc:u.cells=#[u]) (hi:(P.info? ty).map (·.size)=some 1)
  (old:Value) (hc:w.cell? ⟨b,off,none⟩=some old) (hf:w.frozen? ⟨b,off,none⟩=false)
  (h:post undef (w.setCell ⟨b,off,none⟩ u)):StepOk2 P o a w post:=by
 have hv:(storeVar ty ⟨b,off,none⟩ u).run P w=.ok () (w.setCell ⟨b,off,none⟩ u):=by
  cases hq:P.info? ty with
  | none=>simp [hq] at hi
  | some i =>
   have hs':i.size=1:=by simpa [hq] using hi
   simp [storeVar,sizeOf,typeInfo,hq,huc,hs',storeCells,Addr.add]
   rw [run_store P w _ _ _ hu]
   simp [hc,hf]
 refine .inr ⟨_,?_,h⟩
 unfold execOp
 simp only [ho,hx,hy,Instr.storeAt,Instr.sureAddr,Sem.run_bind,Sem.run_pure,Result.andThen_ok,hv]
set_option maxRecDepth 100000 in
set_option maxHeartbeats 2000000 in
theorem add_any (S:Nat) (down:Bool) (v:Value) (rs:List RecV) (r:RecV) (w:World) (h:Sto w S down v rs) (hlen:rs.length<10) (hno:hasName rs r.name=false) :
  Calls Tryz.prog 80 #[.pointer (some ⟨S,0,none⟩),r.val] w fun e w' =>
   e=.returned (.tuple #[])∧∃v',Sto w' S down v' (insR rs r)∧(v'.ownBlock=v.ownBlock∨∃b,v'.ownBlock=some b∧w.heap.size≤b)∧Spared (fun b=>b=S∨v.ownBlock=some b) w w':=by
 obtain ⟨a,c,hv,hst⟩:=h.st
 have hba:=(Below.refl w.heap.size w).alloc (Nat.le_refl _) (.cells #[.string r.name,.int .i64 r.mode,.int .i64 r.t,.int .i64 r.l,.int .i64 r.size,.int .i64 r.epoch,.slice r.sa r.sn r.sc,.slice r.na r.nn r.nc] 127)
 have HP:=hid (place_any S down a c rs r.name _ (hst.keeps hba (Nat.le_refl _)))
 have hpl:=posOf_le rs r.name
 have HSO:=hid (insR_sorted h.so r hno)
 have HIL:=insR_length rs r
 have HIE:=hid (show insR rs r=rs.take (posOf rs r.name)++r :: rs.drop (posOf rs r.name) from rfl)
 generalize insR rs r=rs' at HSO HIL HIE ⊢
 generalize posOf rs r.name=p at *
 rw [hno] at HP
 have hSlt:=hst.lt
 have hvS:v.ownBlock≠some S:=fun e=>h.ne S e rfl
 have hvlt:∀b,v.ownBlock=some b→b<w.heap.size:=fun b hb=>(h.row.lt b hb).2
 have HS:=hid h
 clear h hst
 obtain ⟨n,hn⟩:∃n,n=rs.length:=⟨_,rfl⟩
 unfold RecV.val
 go_enter Tryz.func80,Tryz.ntmps80
 go_wp2_with fail
 refine HP.out.mono ?_
 rintro e w1 ⟨rfl,hb1⟩
 have hb01:Below w.heap.size w w1:=hba.trans (hb1.mono (by simp))
 have hz1:w.heap.size<w1.heap.size:=by have:=hb1.size;simp at this;omega
 have hX:w1.heap[w.heap.size]?=some (.cells #[.string r.name,.int .i64 r.mode,.int .i64 r.t,.int .i64 r.l,.int .i64 r.size,.int .i64 r.epoch,.slice r.sa r.sn r.sc,.slice r.na r.nn r.nc] 127):=by
  rw [hb1.block w.heap.size (by simp)]
  show (w.heap.push _)[w.heap.size]?=_
  simp
 go_wp2_with fail
 have hS1:w1.heap[S]?=some (.cells #[.bool down,v] 100):=by rw [hb01.block S hSlt];exact HS.out.hp
 have hrow1:w1.ownsRow 0 127 8 v n (recs rs):=by rw [hn];exact owns_below_size HS.out.row hb01 (Nat.le_refl _)
 have HX:∀w':World,Spared (fun b=>∃i,adO S v i b) { w1 with drawn:=w1.drawn+1 } w'→w'.cell? ⟨w.heap.size,0,none⟩=some (.string r.name)∧w'.cell? ⟨w.heap.size,1,none⟩=some (.int .i64 r.mode)∧w'.cell? ⟨w.heap.size,2,none⟩=some (.int .i64 r.t)∧w'.cell? ⟨w.heap.size,3,none⟩=some (.int .i64 r.l)∧w'.cell? ⟨w.heap.size,4,none⟩=some (.int .i64 r.size)∧w'.cell? ⟨w.heap.size,5,none⟩=some (.int .i64 r.epoch)∧w'.cell? ⟨w.heap.size,6,none⟩=some (.slice r.sa r.sn r.sc)∧w'.cell? ⟨w.heap.size,7,none⟩=some (.slice r.na r.nn r.nc):=by
  intro w' hs
  have hh:=hs.heap (b:=w.heap.size) hX (by
   rintro ⟨i,⟨_,hb⟩|⟨_,hb⟩⟩
   ·have:=hvlt _ hb;omega
   ·omega)
  exact ⟨by rw [cells_at hh];rfl,by rw [cells_at hh];rfl,by rw [cells_at hh];rfl,by rw [cells_at hh];rfl,by rw [cells_at hh];rfl,by rw [cells_at hh];rfl,by rw [cells_at hh];rfl,by rw [cells_at hh];rfl⟩
 have MK:∀(i:Nat) (a:Act) (w':World) (o:Oper),a.tmps.size=25→i<11→StepOk Tryz.prog o a w' (fun u w''=>Spared (adO S v i) w' w''∧adV S w1.heap.size (n+1) p v (recs rs') r i u w'')→StepOk2 Tryz.prog o a w' (fun u w''=>Spared (adO S v i) w' w''∧adA S w1.heap.size (n+1) p down v (recs rs') r i (a.put (adSlot i) u) w''):=by
  intro i a w' o hsz hi h
  refine .inl <| h.weaken fun u w'' hp=>⟨hp.1,?_,fun h=>by omega⟩
  rw [show adSlot i=some (i+14) by unfold adSlot;rw [if_neg (by omega)],put_eq _ _ _ (by omega)]
  exact hp.2
 refine wp_region_own2 (by kernel_rfl) adSlot (adA S w1.heap.size (n+1) p down v (recs rs') r) (adU S n down v rs) (adO S v) [(0,.pointer (some ⟨S,0,none⟩)),(3,.pointer (some ⟨w.heap.size,0,none⟩)),(4,.int .i64 p)] 25 (fun i=>if i=0∨i=1 then [0] else if i=5 then [4] else if i=6 then [3] else []) (by kernel_rfl) rfl rfl ?_ ?_ ?_ ?_ ?_ ?_
 ·simp
 ·intro j _
  exact ⟨fun _=>hrow1,fun _=>hS1⟩
 ·intro i j ac u w3 w4 hj hij hwt _ hr hs hsl
  refine ⟨?_,fun h11=>?_⟩
  ·have e:((ac.put (adSlot i) u).tmps.getD (j+14) undef)=ac.tmps.getD (j+14) undef:=by
    unfold adSlot
    split
    ·rfl
    ·rw [put_ne _ _ _ _ (by omega)]
   rw [e]
   exact adV_keeps S _ _ _ v _ r (fun b hb=>Nat.lt_trans (hvlt b hb) hz1) (by omega) hvS i j _ w3 w4 hij hr.1 hs
  ·subst h11
   have h8:i≠8:=by
    rintro rfl
    exact absurd (Eq.trans (show true=_ by kernel_rfl) hwt) (by decide)
   have e:((ac.put (adSlot i) u).tmps.getD 22 undef)=ac.tmps.getD 22 undef:=by
    unfold adSlot
    split
    ·rfl
    ·rw [put_ne _ _ _ _ (by omega)]
   rw [e]
   refine hs.heap (hr.2 rfl) ?_
   rintro (⟨h,_⟩|⟨h,_⟩)
   ·exact h8 h
   ·exact hij h
 ·intro i j w3 w4 hij hwt _ hr hs
  refine ⟨fun h8=>?_,fun h4=>?_⟩
  ·refine owns_spared (hr.1 h8) hs (fun b hb=>?_)
   rintro (⟨h,_⟩|⟨_,h⟩)
   ·omega
   ·exact hvS (by rw [hb,h])
  ·refine hs.heap (hr.2 h4) ?_
   rintro (⟨_,h⟩|⟨h,_⟩)
   ·exact hvS h
   ·subst h
    rcases h4 with rfl | rfl
    ·exact absurd (Eq.trans (show true=_ by kernel_rfl) hwt) (by decide)
    ·exact hij rfl
 ·refine ⟨?_,?_,?_,?_,?_,?_,?_,?_,?_,?_,?_,?_,trivial⟩
  ·intro ac w' hsz hs hf hd2 hu
   have hd:=fun e he hb=>(hd2 e he hb).1.1
   refine MK 0 ac w' _ hsz (by decide) ?_
   clear hsz
   have f0:ac.tmps[0]?.getD undef=.pointer (some ⟨S,0,none⟩):=by simpa using hf (0,.pointer (some ⟨S,0,none⟩)) (by simp) rfl
   simp [adV,Region.binds] at hd
   exact .inl ⟨.pointer (some ⟨S,0,none⟩),w',by go_simp,Spared.refl _ _,rfl⟩
  ·intro ac w' hsz hs hf hd2 hu
   have hd:=fun e he hb=>(hd2 e he hb).1.1
   refine MK 1 ac w' _ hsz (by decide) ?_
   clear hsz
   have f0:ac.tmps[0]?.getD undef=.pointer (some ⟨S,0,none⟩):=by simpa using hf (0,.pointer (some ⟨S,0,none⟩)) (by simp) rfl
   simp [adV,Region.binds] at hd
   exact .inl ⟨.pointer (some ⟨S,0,none⟩),w',by go_simp,Spared.refl _ _,rfl⟩
  ·intro ac w' hsz hs hf hd2 hu
   have hd:=fun e he hb=>(hd2 e he hb).1.1
   refine MK 2 ac w' _ hsz (by decide) ?_
   clear hsz
   simp [adV,Region.binds] at hd
   exact .inl ⟨.pointer (some ⟨S,0,none⟩),w',by go_simp,Spared.refl _ _,rfl⟩
  ·intro ac w' hsz hs hf hd2 hu
   have hd:=fun e he hb=>(hd2 e he hb).1.1
   refine MK 3 ac w' _ hsz (by decide) ?_
   clear hsz
   simp [adV,Region.binds] at hd
   exact .inl ⟨.pointer (some ⟨S,1,none⟩),w',by go_simp,Spared.refl _ _,rfl⟩
  ·intro ac w' hsz hs hf hd2 hu
   have hd:=fun e he hb=>(hd2 e he hb).1.1
   refine MK 4 ac w' _ hsz (by decide) ?_
   clear hsz
   have c1:w'.cell? ⟨S,1,none⟩=some v:=by rw [cells_at (hu.2 (.inl rfl))];rfl
   simp [adV,Region.binds] at hd
   exact .inl ⟨v,w',by go_simp,Spared.refl _ _,rfl⟩
  ·intro ac w' hsz hs hf hd2 hu
   have hd:=fun e he hb=>(hd2 e he hb).1.1
   refine MK 5 ac w' _ hsz (by decide) ?_
   clear hsz
   have f4:ac.tmps[4]?.getD undef=.int .i64 p:=by simpa using hf (4,.int .i64 p) (by simp) rfl
   simp [adV,Region.binds] at hd
   exact .inl ⟨.int .i64 p,w',by go_simp,Spared.refl _ _,rfl⟩
  ·intro ac w' hsz hs hf hd2 hu
   have hd:=fun e he hb=>(hd2 e he hb).1.1
   refine MK 6 ac w' _ hsz (by decide) ?_
   clear hsz
   have f3:ac.tmps[3]?.getD undef=.pointer (some ⟨w.heap.size,0,none⟩):=by simpa using hf (3,.pointer (some ⟨w.heap.size,0,none⟩)) (by simp) rfl
   obtain ⟨k0,k1,k2,k3,k4,k5,k6,k7⟩:=HX w' hs
   simp [adV,Region.binds] at hd
   exact .inl ⟨.agg #[.string r.name,.int .i64 r.mode,.int .i64 r.t,.int .i64 r.l,.int .i64 r.size,.int .i64 r.epoch,.slice r.sa r.sn r.sc,.slice r.na r.nn r.nc],w',by go_simp,Spared.refl _ _,rfl⟩
  ·intro ac w' hsz hs hf hd2 hu
   have hd:=fun e he hb=>(hd2 e he hb).1.1
   refine MK 7 ac w' _ hsz (by decide) ?_
   clear hsz
   simp [adV,Region.binds] at hd
   refine .inl ⟨.slice (some ⟨w'.heap.size,0,none⟩) 1 1,w'.alloc (.cells #[.string r.name,.int .i64 r.mode,.int .i64 r.t,.int .i64 r.l,.int .i64 r.size,.int .i64 r.epoch,.slice r.sa r.sn r.sc,.slice r.na r.nn r.nc] 127),by go_simp,Spared.ofBelow ((Below.refl _ _).alloc (Nat.le_refl _) _) (Nat.le_refl _),w'.heap.size,rfl,hs.size,?_⟩
   show (w'.heap.push _)[w'.heap.size]?=_
   simp [RecV.cells]
  ·intro ac w' hsz hs hf hd2 hu
   have hd:=fun e he hb=>(hd2 e he hb).1.1
   refine MK 8 ac w' _ hsz (by decide) ?_
   clear hsz
   simp [adV,Region.binds] at hd
   obtain ⟨h4,h5,b,h7,hbW,h7c⟩:=hd
   have hsw:w1.heap.size≤w'.heap.size:=hs.size
   refine .inr ⟨108,#[v,.int .i64 p,.slice (some ⟨b,0,none⟩) 1 1],by go_simp,(insert_any 0 n p b v rs r w' hn.symm (by omega) (by omega) (hu.1 rfl) (by simpa using h7c) (fun e=>by have:=hvlt b e;omega) (Nat.zero_le _)).mono ?_⟩
   rintro e w'' ⟨u,rfl,hown,hsp2,hob⟩
   refine ⟨u,rfl,hsp2.mono fun k hk=>.inl ⟨rfl,hk⟩,by rw [HIE.out];exact hown,?_⟩
   rcases hob with h | h
   ·exact .inl h
   ·exact .inr ⟨_,h,hsw⟩
  ·intro ac w' hsz hs hf hd2 hu
   have hd:=fun e he hb=>(hd2 e he hb).1.1
   refine MK 9 ac w' _ hsz (by decide) ?_
   clear hsz
   simp [adV,Region.binds] at hd
   exact .inl ⟨.pointer (some ⟨S,0,none⟩),w',by go_simp,Spared.refl _ _,rfl⟩
  ·intro ac w' hsz hs hf hd2 hu
   have hd:=fun e he hb=>(hd2 e he hb).1.1
   refine MK 10 ac w' _ hsz (by decide) ?_
   clear hsz
   simp [adV,Region.binds] at hd
   exact .inl ⟨.pointer (some ⟨S,1,none⟩),w',by go_simp,Spared.refl _ _,rfl⟩
  ·intro ac w' hsz hs hf hd2 hu
   have hd:=fun e he hb=>(hd2 e he hb).1.1
   simp [adV,Region.binds] at hd
   obtain ⟨h10,h8,_⟩:=hd
   have hpS:=hu.2 (.inr rfl)
   obtain ⟨g,cap,hv8,_,_⟩:=row_some h8.1 (by omega)
   refine store_step 98 (.tmp 24) (.tmp 22) rfl S 1 (.slice (some ⟨g,0,none⟩) (n+1) cap) (by simp [Act.eval];exact h10) (by simp [Act.eval];exact hv8) rfl rfl (by kernel_rfl) v (by rw [cells_at hpS];rfl) (cells_fz hpS) ?_
   refine ⟨(Spared.refl _ _).setCell (p:=⟨S,1,none⟩) (.inr ⟨rfl,rfl⟩) _,trivial,fun _=>?_⟩
   rw [cells_set _ hpS]
   have e:(ac.put (adSlot 11) undef).tmps.getD 22 undef=.slice (some ⟨g,0,none⟩) (n+1) cap:=by
    show ac.tmps.getD 22 undef=_
    simpa using hv8
   rw [e]
   rfl
 ·intro ac w' hdf hsz hsp _ hr
  have r8:=(hr 8 (by decide)).1
  have r11:=(hr 11 (by decide)).2 rfl
  simp only [adV,Nat.reduceAdd] at r8
  generalize ac.tmps.getD 22 undef=u at r8 r11
  refine bodyPost_end (by simp [results,Tryz.results80,go_sem]) hdf ⟨rfl,u,⟨r11,?_,HSO.out,by omega⟩,?_,?_⟩
  ·rw [HIL,←hn];exact r8.1
  ·rcases r8.2 with h | ⟨b,h,h'⟩
   ·exact .inl h
   ·exact .inr ⟨b,h,by omega⟩
  ·refine (Spared.ofBelow (own:=fun b=>b=S∨v.ownBlock=some b) hb01 (Nat.le_refl _)).drew.trans (Spared.mono hsp ?_)
   rintro k ⟨i,⟨_,h⟩|⟨_,h⟩⟩
   ·exact .inr h
   ·exact .inl h
set_option maxRecDepth 100000 in
set_option maxHeartbeats 1000000 in
theorem rem1_any (X:Nat) (q:RecV) (nm:ByteArray) (w:World) (hX:w.cell? ⟨X,0,none⟩=some (.string nm)) (hlt:X<w.heap.size) :
  Calls Tryz.prog 160 #[.agg #[.string q.name,.int .i64 q.mode,.int .i64 q.t,.int .i64 q.l,.int .i64 q.size,.int .i64 q.epoch,.slice q.sa q.sn q.sc,.slice q.na q.nn q.nc],.pointer (some ⟨X,0,none⟩)] w fun e w'=>e=.returned (.bool (decide (q.name=nm)))∧Below w.heap.size w w':=by
 obtain ⟨name,mode,t,l,size,epoch,sa,sn,sc,na,nn,nc⟩:=q
 have hba:=(Below.refl w.heap.size w).alloc (Nat.le_refl _) (.cells #[.string name,.int .i64 mode,.int .i64 t,.int .i64 l,.int .i64 size,.int .i64 epoch,.slice sa sn sc,.slice na nn nc] 127)
 have hX':=(hba.cell (p:=⟨X,0,none⟩) hlt).trans hX
 clear hX
 go_enter Tryz.func160,Tryz.ntmps160
 go_wp2_with fail
 go_ret
 refine ⟨?_,hba⟩
 rw [←bytes_beq]
 rfl
set_option maxRecDepth 100000 in
set_option maxHeartbeats 1000000 in
theorem idxf_any (a:Option Addr) (n c m X:Nat) (rs:List RecV) (nm:ByteArray) (w:World) (en:n=rs.length) (hr:Rd w a (recs rs)) (hn:n≤100) (_hm:m≤n) (hno:∀k,k<m→(rs[k]!).name≠nm) (hyes:m<n→(rs[m]!).name=nm) (hX:w.cell? ⟨X,0,none⟩=some (.string nm)) (hlt:X<w.heap.size) :
  Calls Tryz.prog 180 #[.slice a n c,.func (.func 160) #[] #[.pointer (some ⟨X,0,none⟩)]] w fun e w'=>e=.returned (.int .i64 (if m<n then (m:Int) else -1))∧Below w.heap.size w w':=by
 have EN:=hid en
 have HR:=hid hr
 have HNO:=hid hno
 have HY:=hid hyes
 obtain ⟨res,hres⟩:∃res:Int,res=if m<n then (m:Int) else -1:=⟨_,rfl⟩
 rw [←hres]
 have HRES:=hid hres
 clear en hr hno hyes hres
 go_enter Tryz.func180,Tryz.ntmps180
 go_wp2
 go_loopw [8] (fun u wr=>∃k:Nat,u=.int .i64 k∧k≤m∧Below w.heap.size w wr) (fun u _=>n-(intOf u).toNat)
 case atStart=>exact ⟨0,rfl,Nat.zero_le _,Below.refl _ _⟩
 case round =>
  obtain ⟨k,rfl,hkm,hbel⟩:=hrel
  by_cases hkn:k<n
  ·have hkn':(k:Int)<(n:Int):=by omega
   obtain ⟨b,o,rfl,hb,_⟩:=HR.out.pos (by rw [recs_length,←EN.out];omega)
   obtain ⟨_,k0,k1,k2,k3,k4,k5,k6,k7⟩:=rec_at (HR.out.below hbel (Nat.le_refl _)) k (by rw [←EN.out];omega)
   obtain ⟨r,hr⟩:∃r,r=rs[k]! := ⟨_,rfl⟩
   rw [←hr] at k0 k1 k2 k3 k4 k5 k6 k7
   have HRR:=hid hr
   clear hr
   have HC:=hid (fun w' (hb':Below w.heap.size w w')=>rem1_any X r nm w' ((hb'.cell (p:=⟨X,0,none⟩) hlt).trans hX) (Nat.lt_of_lt_of_le hlt hb'.size))
   by_cases hke:k=m
   ·have hq:decide (r.name=nm)=true:=by rw [HRR.out,hke];exact decide_eq_true (HY.out (hke ▸ hkn))
    have HE:=hid (show res=(k:Int) by rw [HRES.out,if_pos (hke ▸ hkn),hke])
    rw [hq] at HC
    clear hq hke
    go_wp2_with fail
    refine (HC.out _ hbel).mono ?_
    rintro e w1 ⟨rfl,hb1⟩
    go_wp2
    go_ret
    exact ⟨by rw [HE.out];rfl,hbel.trans (hb1.mono hbel.size)⟩
   ·have hq:decide (r.name=nm)=false:=by rw [HRR.out];exact decide_eq_false (HNO.out k (by omega))
    rw [hq] at HC
    clear hq
    go_wp2_with fail
    refine (HC.out _ hbel).mono ?_
    rintro e w1 ⟨rfl,hb1⟩
    go_wp2
    go_roundw
    case rel=>exact ⟨k+1,by go_num,by omega,hbel.trans (hb1.mono hbel.size)⟩
    case measure=>simp [intOf];omega
  ·have hkn':¬(k:Int)<(n:Int):=by omega
   have HE:=hid (show res=-1 by rw [HRES.out,if_neg (by omega)])
   go_wp2
   go_ret
   exact ⟨by rw [HE.out];rfl,hbel⟩
set_option maxRecDepth 100000 in
set_option maxHeartbeats 1000000 in
theorem delf_no (v:Value) (n X:Nat) (rs:List RecV) (nm:ByteArray) (w:World) (en:n=rs.length) (hr:w.ownsRow 0 127 8 v n (recs rs)) (hn:n≤100) (hno:∀k,k<n→(rs[k]!).name≠nm) (hX:w.cell? ⟨X,0,none⟩=some (.string nm)) (hlt:X<w.heap.size) :
  Calls Tryz.prog 159 #[v,.func (.func 160) #[] #[.pointer (some ⟨X,0,none⟩)]] w fun e w'=>e=.returned v∧Below w.heap.size w w':=by
 obtain ⟨a,c,rfl,hrd⟩:=owns_rd_size hr
 have HI:=hid (idxf_any a n c n X rs nm w en hrd hn (Nat.le_refl _) hno (fun h=>by omega) hX hlt)
 rw [if_neg (show ¬n<n by omega)] at HI
 clear hr hrd hno en
 go_enter Tryz.func159,Tryz.ntmps159
 go_wp2_with fail
 refine HI.out.mono ?_
 rintro e w1 ⟨rfl,hb1⟩
 go_wp2
 go_ret
 exact ⟨rfl,hb1⟩
def down1 (rs:List RecV) (p k:Nat):List RecV:=(List.range rs.length).map fun q=>if q<p then rs[q]! else if q<p+k then rs[q+1]! else rs[q]!
theorem down1_length (rs:List RecV) (p k:Nat):(down1 rs p k).length=rs.length:=by simp [down1]
theorem down1_at (rs:List RecV) (p k q:Nat) (hq:q<rs.length):(down1 rs p k)[q]! = if q<p then rs[q]! else if q<p+k then rs[q+1]! else rs[q]! := by
 rw [getElem!_pos (down1 rs p k) q (by rw [down1_length];exact hq)]
 simp [down1]
theorem down1_zero (rs:List RecV) (p:Nat):down1 rs p 0=rs:=by
 refine List.ext_getElem (down1_length _ _ _) fun i h1 h2=>?_
 simp only [down1,List.getElem_map,List.getElem_range,Nat.add_zero]
 rw [getElem!_pos rs i h2]
 split
 ·rfl
 ·rfl
theorem down1_step (rs:List RecV) (p k:Nat) (_h:p+k+1<rs.length):(down1 rs p k).set (p+k) (rs[p+k+1]!)=down1 rs p (k+1):=by
 refine List.ext_getElem (by rw [List.length_set,down1_length,down1_length]) fun i h1 h2=>?_
 rw [List.getElem_set]
 simp only [down1,List.getElem_map,List.getElem_range]
 by_cases hi:p+k=i
 ·subst hi
  rw [if_pos rfl,if_neg (by omega),if_pos (by omega)]
 ·rw [if_neg hi]
  by_cases hip:i<p
  ·rw [if_pos hip,if_pos hip]
  ·rw [if_neg hip,if_neg hip]
   by_cases hik:i<p+k
   ·rw [if_pos hik,if_pos (by omega)]
   ·rw [if_neg hik,if_neg (by omega)]
theorem down1_end (rs:List RecV) (p:Nat) (hp:p<rs.length):(down1 rs p (rs.length-1-p)).take (rs.length-1)=rs.eraseIdx p:=by
 refine List.ext_getElem (by rw [List.length_take,down1_length,List.length_eraseIdx,if_pos hp];omega) fun i h1 h2=>?_
 have h3:i<rs.length-1:=by rw [List.length_eraseIdx,if_pos hp] at h2;exact h2
 rw [List.getElem_take,List.getElem_eraseIdx]
 simp only [down1,List.getElem_map,List.getElem_range]
 by_cases hip:i<p
 ·rw [if_pos hip,dif_pos hip,getElem!_pos rs i (by omega)]
 ·rw [if_neg hip,dif_neg hip,if_pos (by omega),getElem!_pos rs (i+1) (by omega)]
theorem wpList_store_rec {P:Program} {ops:Array Oper} {rest:List Oper} {o:Oper} {a:Act} {w:World} {Q:Exit→Act→World→Prop} (hgd:o.guard=none) (ty:TypeId) (x y:Operand) (ho:o.op=.store ty x y)
  (g off:Nat) (cells:Array Value) (hx:a.eval x=.pointer (some ⟨g,off,none⟩)) (hy:a.eval y=.agg cells)
  (t:TypeId) (old:Array Value) (hg:w.heap[g]?=some (.cells old t (0,0))) (hi:(P.info? ty).map (·.size)=some cells.size)
  (hold:off+cells.size≤old.size) (h1:cells.all (·.oneCell')=true)
  (h:wpList P ops Q rest (a.put o.dst undef) (w.setRow g (old.toList.take off++cells.toList++old.toList.drop (off+cells.size)).toArray)):wpList P ops Q (o :: rest) a w :=
 wpList_plain hgd fun _ hK=>wp_store_rec ty x y ho g off cells hx hy t old hg hi hold h1 (hK _ _ h)
theorem RecV.all_one (r:RecV):(#[Value.string r.name,.int .i64 r.mode,.int .i64 r.t,.int .i64 r.l,.int .i64 r.size,.int .i64 r.epoch,.slice r.sa r.sn r.sc,.slice r.na r.nn r.nc].all (·.oneCell'))=true:=by
 simp [Value.oneCell']
theorem setRow_spared (w:World) (g:Nat) (L:Array Value):Spared (fun b=>b=g) w (w.setRow g L):=by
 refine ⟨rfl,rfl,rfl,by simp [World.setRow],fun k _ hk=>?_⟩
 simp [World.setRow,Array.getElem?_modify,Ne.symm hk]
set_option maxRecDepth 100000 in
set_option maxHeartbeats 2000000 in
theorem delf_yes (g n c p X:Nat) (rs:List RecV) (nm:ByteArray) (w:World) (en:n=rs.length) (hr:w.ownsRow 0 127 8 (.slice (some ⟨g,0,none⟩) n c) n (recs rs)) (hn:n≤100) (hp:p<n) (hpy:(rs[p]!).name=nm) (hno:∀k,k<n→k≠p→(rs[k]!).name≠nm) (hX:w.cell? ⟨X,0,none⟩=some (.string nm)) (hlt:X<w.heap.size) (hXg:X≠g) :
  Calls Tryz.prog 159 #[.slice (some ⟨g,0,none⟩) n c,.func (.func 160) #[] #[.pointer (some ⟨X,0,none⟩)]] w fun e w'=>e=.returned (.slice (some ⟨g,0,none⟩) (n-1) c)∧w'.ownsRow 0 127 8 (.slice (some ⟨g,0,none⟩) (n-1) c) (n-1) (recs (rs.eraseIdx p))∧Spared (fun b=>b=g) w w':=by
 obtain ⟨a,c0,hv,hrd⟩:=owns_rd_size hr
 cases hv
 have HI:=hid (idxf_any _ n c p X rs nm w en hrd hn (Nat.le_of_lt hp) (fun k hk=>hno k (by omega) (by omega)) (fun _=>hpy) hX hlt)
 rw [if_pos hp] at HI
 have hgw:=(hr.lt g rfl).2
 have HR:=hid hr
 have HNO:=hid hno
 have EN:=hid en
 clear hr hrd hno hpy en
 have hpm:¬(p:Int)=-1:=by omega
 go_enter Tryz.func159,Tryz.ntmps159
 go_wp2_with fail
 refine HI.out.mono ?_
 rintro e w1 ⟨rfl,hb1⟩
 go_wp2_with fail
 go_loopw [5,6] (fun u u2 wr=>∃i j:Nat,u=.int .i64 i∧u2=.int .i64 j∧Hid (j=i+1)∧p≤i∧i<n∧wr.ownsRow 0 127 8 (.slice (some ⟨g,0,none⟩) n c) n (recs (down1 rs p (i-p)))∧Spared (fun b=>b=g) w wr) (fun _ u _=>n-(intOf u).toNat)
 case atStart=>exact ⟨p,p+1,rfl,by go_num,hid rfl,Nat.le_refl _,hp,by rw [Nat.sub_self,down1_zero];exact owns_spared HR.out (Spared.ofBelow (own:=fun _=>False) hb1 (Nat.le_refl _)) (fun _ _ h=>h),Spared.ofBelow hb1 (Nat.le_refl _)⟩
 case round =>
  obtain ⟨i,j,rfl,rfl,EJ,hpi,hin,hown,hsp⟩:=hrel
  have hgr:=(hown.lt g rfl).2
  by_cases hjn:j<n
  ·have hjn':(j:Int)<(n:Int):=by omega
   have hin':(i:Int)<(n:Int):=by omega
   obtain ⟨_,k0,k1,k2,k3,k4,k5,k6,k7⟩:=rec_at (b:=g) (o:=0) (by obtain ⟨a,c1,hv,h⟩:=owns_rd_size hown;cases hv;exact h) j (by rw [down1_length,←EN.out];exact hjn)
   rw [down1_at _ _ _ _ (by rw [←EN.out];exact hjn),if_neg (by have:=EJ.out;omega),if_neg (by have:=EJ.out;omega)] at k0 k1 k2 k3 k4 k5 k6 k7
   simp only [Nat.zero_add] at k0 k1 k2 k3 k4 k5 k6 k7
   have hq:decide ((rs[j]!).name=nm)=false:=decide_eq_false (HNO.out j hjn (by have:=EJ.out;omega))
   obtain ⟨r,hr⟩:∃r,r=rs[j]! := ⟨_,rfl⟩
   rw [←hr] at k0 k1 k2 k3 k4 k5 k6 k7 hq
   have HRR:=hid hr
   clear hr
   have HC:=hid (fun w' (hb':Below wr.heap.size wr w')=>rem1_any X r nm w' (by
    rw [hb'.cell (p:=⟨X,0,none⟩) (Nat.lt_of_lt_of_le hlt hsp.size),World.cell?_of_block (hsp.block X hlt hXg)]
    exact hX) (Nat.lt_of_lt_of_le hlt (Nat.le_trans hsp.size hb'.size)))
   rw [hq] at HC
   clear hq
   have HO:=hid hown
   clear hown
   go_wp2_with fail
   have hba:=(Below.refl wr.heap.size wr).alloc (Nat.le_refl _) (.cells #[.string r.name,.int .i64 r.mode,.int .i64 r.t,.int .i64 r.l,.int .i64 r.size,.int .i64 r.epoch,.slice r.sa r.sn r.sc,.slice r.na r.nn r.nc] 127)
   refine (HC.out _ hba).mono ?_
   rintro e wc ⟨rfl,hbc⟩
   have hbr:Below wr.heap.size wr wc:=hba.trans (hbc.mono (by simp))
   have hbx:wc.heap[wr.heap.size]?=some (.cells #[.string r.name,.int .i64 r.mode,.int .i64 r.t,.int .i64 r.l,.int .i64 r.size,.int .i64 r.epoch,.slice r.sa r.sn r.sc,.slice r.na r.nn r.nc] 127):=by
    rw [hbc.block wr.heap.size (by simp)]
    show (wr.heap.push _)[wr.heap.size]?=_
    simp
   have x0:wc.cell? ⟨wr.heap.size,0,none⟩=some (.string r.name):=by rw [cells_at hbx];rfl
   have x1:wc.cell? ⟨wr.heap.size,1,none⟩=some (.int .i64 r.mode):=by rw [cells_at hbx];rfl
   have x2:wc.cell? ⟨wr.heap.size,2,none⟩=some (.int .i64 r.t):=by rw [cells_at hbx];rfl
   have x3:wc.cell? ⟨wr.heap.size,3,none⟩=some (.int .i64 r.l):=by rw [cells_at hbx];rfl
   have x4:wc.cell? ⟨wr.heap.size,4,none⟩=some (.int .i64 r.size):=by rw [cells_at hbx];rfl
   have x5:wc.cell? ⟨wr.heap.size,5,none⟩=some (.int .i64 r.epoch):=by rw [cells_at hbx];rfl
   have x6:wc.cell? ⟨wr.heap.size,6,none⟩=some (.slice r.sa r.sn r.sc):=by rw [cells_at hbx];rfl
   have x7:wc.cell? ⟨wr.heap.size,7,none⟩=some (.slice r.na r.nn r.nc):=by rw [cells_at hbx];rfl
   obtain ⟨old,hold,holdl,hset⟩:=owns_setRec (owns_spared HO.out (Spared.ofBelow (own:=fun _=>False) hbr (Nat.le_refl _)) (fun _ _ h=>h)) i (by rw [down1_length,←EN.out];exact hin)
   have HSET:=hid (hset r)
   have HSPW:=hid ((hsp.trans (Spared.ofBelow hbr (Nat.le_refl _))).trans (setRow_spared wc g (old.toList.take (i*8)++r.cells++old.toList.drop (i*8+8)).toArray))
   have HOLD:=hid hold
   clear hset hbx hold k0 k1 k2 k3 k4 k5 k6 k7
   go_wp2_with (first | (refine wpList_store_rec rfl 127 (.tmp 33) (.tmp 32) rfl g (i*8) #[.string r.name,.int .i64 r.mode,.int .i64 r.t,.int .i64 r.l,.int .i64 r.size,.int .i64 r.epoch,.slice r.sa r.sn r.sc,.slice r.na r.nn r.nc] rfl rfl 127 old HOLD.out Tryz.cellsRec holdl (RecV.all_one r) ?_;(change wpList _ _ _ _ _ (wc.setRow g (old.toList.take (i*8)++r.cells++old.toList.drop (i*8+8)).toArray));generalize wc.setRow g (old.toList.take (i*8)++r.cells++old.toList.drop (i*8+8)).toArray=wd at *)|fail)
   go_roundw
   case rel =>
    refine ⟨_,_,_,_,_,_,_,_,_,_,_,_,_,_,_,_,_,_,_,_,_,_,_,⟨i+1,j+1,?_,?_,hid (by have:=EJ.out;omega),by omega,by have:=EJ.out;omega,?_,HSPW.out⟩,rfl⟩
    ·go_num
    ·go_num
    have h1:=HSET.out
    have h2:=down1_step rs p (i-p) (by have:=EJ.out;have:=EN.out;omega)
    rw [show p+(i-p)=i by omega,show i+1=j from EJ.out.symm,←HRR.out] at h2
    rw [h2,show i-p+1=i+1-p by omega] at h1
    exact h1
   case measure=>simp [intOf];omega
  ·have hjn':¬(j:Int)<(n:Int):=by omega
   have HII:=hid (show i=n-1 by have:=EJ.out;omega)
   have hz3:(i:Int)≤(n:Int):=by omega
   have hz4:(i:Int)≤(c:Int):=by have:=(owns_split hown).choose_spec.2.2.2.1;omega
   have hci:¬c=i:=by have:=(owns_split hown).choose_spec.2.2.2.1;omega
   have hni:¬n=i:=by omega
   obtain ⟨z,hz⟩:∃z:List Value,z=(Builtin.zeroCells (Value.agg #[.string ByteArray.empty,.int .i64 0,.int .i64 0,.int .i64 0,.int .i64 0,.int .i64 0,.slice none 0 0,.slice none 0 0]).cells (n-i)).toList:=⟨_,rfl⟩
   obtain ⟨we,hwe⟩:∃we,we=wr.setCells g (i*8) z:=⟨_,rfl⟩
   have hcl:∀ty,(Builtin.clear_ #[98] ty #[.slice (some ⟨g,i*8,none⟩) (n-i) (c-i)]).run Tryz.prog wr=.ok (.tuple #[]) we:=fun ty=>by
    obtain ⟨tl,h1,h2,h3,h4,h5,h6⟩:=owns_split hown
    have h7:=run_clear_any (P:=Tryz.prog) wr 98 127 ty _ Tryz.underlying98 Tryz.zeroValue127 (by simp [Value.cells,Value.oneCell']) g (i*8) (n-i) (c-i) (by omega)
     (fun q hq=>block_some h1 (by rw [h3];simp [Value.cells] at hq;omega)) (fun q _=>cells_fz h1)
    rw [hwe,hz]
    exact h7
   have HE:=hid (show we.ownsRow 0 127 8 (.slice (some ⟨g,0,none⟩) (n-1) c) (n-1) (recs (rs.eraseIdx p))∧Spared (fun b=>b=g) w we from by
    have hzl:z.length=(n-i)*8:=by rw [hz];simp [Builtin.zeroCells,Value.cells]
    obtain ⟨tl,h1,h2,h3,h4,h5,h6⟩:=owns_split hown
    have h7:=owns_tail hown (m:=i) (by omega) z (by rw [hzl];omega)
    have hT:(recs (down1 rs p (i-p))).take (i*8)=recs ((down1 rs p (i-p)).take i):=by
     have h9:(recs ((down1 rs p (i-p)).take i)).length=i*8:=by rw [recs_length,List.length_take,down1_length,←EN.out,Nat.min_eq_left (by omega)]
     have h10:recs (down1 rs p (i-p))=recs ((down1 rs p (i-p)).take i)++recs ((down1 rs p (i-p)).drop i):=by rw [←recs_append,List.take_append_drop]
     rw [h10,←h9,List.take_left]
    rw [←hwe,hT] at h7
    have h8:=down1_end rs p (by rw [←EN.out];exact hp)
    rw [←EN.out,←HII.out] at h8
    rw [h8] at h7
    rw [←HII.out]
    exact ⟨h7,by rw [hwe];exact hsp.trans (setCells_spared (fun b=>b=g) g rfl _ _ wr)⟩)
   clear hown hwe hz
   go_wp2_with fail
   go_ret
   exact ⟨by rw [←HII.out];rfl,HE.out⟩
theorem sorted_other {rs:List RecV} (h:Sorted rs) (nm:ByteArray) (hy:hasName rs nm=true) (k:Nat) (hk:k<rs.length) (hkp:k≠posOf rs nm):(rs[k]!).name≠nm:=by
 intro e
 have hp:=has_lt hy
 have hn:=has_name hy
 rcases Nat.lt_or_gt_of_ne hkp with hlt | hlt
 ·have:=h k _ hlt hp
  rw [hn,e,cmpB_zero.2 rfl] at this
  omega
 ·have:=h _ k hlt hk
  rw [hn,e,cmpB_zero.2 rfl] at this
  omega
theorem remR_erase {rs:List RecV} (h:Sorted rs) (nm:ByteArray) (hy:hasName rs nm=true):remR rs nm=rs.eraseIdx (posOf rs nm):=by
 have hp:=has_lt hy
 have hsplit:rs=rs.take (posOf rs nm)++rs[posOf rs nm]'hp :: rs.drop (posOf rs nm+1):=by
  rw [List.getElem_cons_drop,List.take_append_drop]
 have hne:∀k (hk:k<rs.length),k≠posOf rs nm→(rs[k]).name≠nm:=fun k hk hkp=>by
  have:=sorted_other h nm hy k hk hkp
  rwa [getElem!_pos rs k hk] at this
 have hat:(rs[posOf rs nm]'hp).name=nm:=by
  have:=has_name hy
  rwa [getElem!_pos rs _ hp] at this
 rw [List.eraseIdx_eq_take_drop_succ]
 unfold remR
 conv=>lhs;rw [hsplit]
 rw [List.filter_append,List.filter_cons_of_neg (by simp [hat])]
 congr 1
 ·rw [List.filter_eq_self]
  intro x hx
  obtain ⟨k,hk,rfl⟩:=List.getElem_of_mem hx
  rw [List.length_take] at hk
  rw [List.getElem_take]
  simp [hne k (by omega) (by omega)]
 ·rw [List.filter_eq_self]
  intro x hx
  obtain ⟨k,hk,rfl⟩:=List.getElem_of_mem hx
  rw [List.length_drop] at hk
  rw [List.getElem_drop]
  simp [hne (posOf rs nm+1+k) (by omega) (by omega)]
theorem wpList_store_one {P:Program} {ops:Array Oper} {rest:List Oper} {o:Oper} {a:Act} {w:World} {Q:Exit→Act→World→Prop} (hgd:o.guard=none) (ty:TypeId) (x y:Operand) (ho:o.op=.store ty x y)
  (b off:Nat) (u:Value) (hx:a.eval x=.pointer (some ⟨b,off,none⟩)) (hy:a.eval y=u) (hu:u.oneCell'=true) (huc:u.cells=#[u]) (hi:(P.info? ty).map (·.size)=some 1)
  (old:Value) (hc:w.cell? ⟨b,off,none⟩=some old) (hf:w.frozen? ⟨b,off,none⟩=false)
  (h:wpList P ops Q rest (a.put o.dst undef) (w.setCell ⟨b,off,none⟩ u)):wpList P ops Q (o :: rest) a w :=
 wpList_plain hgd fun _ hK=>wp_store_one ty x y ho b off u hx hy hu huc hi old hc hf (hK _ _ h)
set_option maxRecDepth 100000 in
set_option maxHeartbeats 1000000 in
theorem remove_of (S:Nat) (down:Bool) (v:Value) (rs:List RecV) (r:RecV) (w:World) (h:Sto w S down v rs) (v':Value) (rs':List RecV) (hob:v'.ownBlock=v.ownBlock) (hv1:v'.oneCell'=true∧v'.cells=#[v'])
  (hdel:∀X w',w'.cell? ⟨X,0,none⟩=some (.string r.name)→X<w'.heap.size→v.ownBlock≠some X→Sto w' S down v rs →
   Calls Tryz.prog 159 #[v,.func (.func 160) #[] #[.pointer (some ⟨X,0,none⟩)]] w' fun e w''=>e=.returned v'∧w''.ownsRow 0 127 8 v' rs'.length (recs rs')∧Spared (fun b=>v.ownBlock=some b) w' w'')
  (hso:Sorted rs') (hle:rs'.length≤10) :
  Calls Tryz.prog 122 #[.pointer (some ⟨S,0,none⟩),r.val] w fun e w' =>
   e=.returned (.tuple #[])∧Sto w' S down v' rs'∧Spared (fun b=>b=S∨v.ownBlock=some b) w w':=by
 have hba:=(Below.refl w.heap.size w).alloc (Nat.le_refl _) (.cells #[.string r.name,.int .i64 r.mode,.int .i64 r.t,.int .i64 r.l,.int .i64 r.size,.int .i64 r.epoch,.slice r.sa r.sn r.sc,.slice r.na r.nn r.nc] 127)
 have hSlt:=cells_lt h.hp
 have hvS:v.ownBlock≠some S:=fun e=>h.ne S e rfl
 have hvlt:∀b,v.ownBlock=some b→b<w.heap.size:=fun b hb=>(h.row.lt b hb).2
 have HD:=hid (hdel w.heap.size _ (by rw [World.cell?_alloc_at _ _ _ _ rfl];rfl) (by simp) (fun e=>by have:=hvlt _ e;omega) (h.keeps (Spared.ofBelow (own:=fun _=>False) hba (Nat.le_refl _)) (fun h=>h) (fun _ _ h=>h)))
 have c1:w.cell? ⟨S,1,none⟩=some v:=by rw [cells_at h.hp];rfl
 have c1':=(hba.cell (p:=⟨S,1,none⟩) hSlt).trans c1
 have HS:=hid h
 clear h hdel c1
 unfold RecV.val
 go_enter Tryz.func122,Tryz.ntmps122
 go_wp2_with fail
 refine HD.out.mono ?_
 rintro e w1 ⟨rfl,hrow,hsp⟩
 have hS1:w1.heap[S]?=some (.cells #[.bool down,v] 100):=hsp.heap (by rw [hba.block S hSlt];exact HS.out.hp) hvS
 have d1:w1.cell? ⟨S,1,none⟩=some v:=by rw [cells_at hS1];rfl
 have f1:w1.frozen? ⟨S,1,none⟩=false:=cells_fz hS1
 have HE:=hid (show Sto (w1.setCell ⟨S,1,none⟩ v') S down v' rs'∧Spared (fun b=>b=S∨v.ownBlock=some b) w (w1.setCell ⟨S,1,none⟩ v') from
  ⟨⟨cells_set _ hS1,owns_spared hrow ((Spared.refl (fun b=>b=S) w1).setCell (p:=⟨S,1,none⟩) rfl _) (fun b hb e=>by rw [hob] at hb;exact hvS (by rw [hb,e])),hso,hle⟩,
   ((Spared.ofBelow hba (Nat.le_refl _)).trans (hsp.mono fun k hk=>.inr hk)).setCell (p:=⟨S,1,none⟩) (.inl rfl) _⟩)
 clear hS1 hrow
 go_wp2_with (first | (refine wpList_store_one rfl 98 (.tmp 12) (.tmp 10) rfl S 1 v' rfl rfl hv1.1 hv1.2 (by kernel_rfl) v d1 f1 ?_;generalize w1.setCell ⟨S,1,none⟩ v'=w2 at *)|fail)
 exact bodyPost_end (by simp [results,Tryz.results122,go_sem]) rfl ⟨rfl,HE.out⟩
theorem slice_one {w:World} {base n size:Nat} {e:TypeId} {L:List Value} {v:Value} (h:w.ownsRow base e size v n L):v.oneCell'=true∧v.cells=#[v]:=by
 obtain ⟨a,c,rfl,_⟩:=owns_rd_size h
 exact ⟨rfl,rfl⟩
theorem remove_any (S:Nat) (down:Bool) (v:Value) (rs:List RecV) (r:RecV) (w:World) (h:Sto w S down v rs) :
  Calls Tryz.prog 122 #[.pointer (some ⟨S,0,none⟩),r.val] w fun e w' =>
   e=.returned (.tuple #[])∧∃v',Sto w' S down v' (remR rs r.name)∧v'.ownBlock=v.ownBlock∧Spared (fun b=>b=S∨v.ownBlock=some b) w w':=by
 have h10:=h.le
 cases hy:hasName rs r.name with
 | false =>
  rw [remR_self h.so r.name hy]
  refine (remove_of S down v rs r w h v rs rfl (slice_one h.row) (fun X w' hX hlt _ hs=>?_) h.so h.le).mono ?_
  ·refine (delf_no v rs.length X rs r.name w' rfl hs.row (by omega) (fun k hk e=>?_) hX hlt).mono ?_
   ·have:=(hasName_iff h.so r.name).2 ⟨rs[k]!,by rw [getElem!_pos rs k hk];exact List.getElem_mem _,e⟩
    rw [hy] at this
    cases this
   ·rintro e w'' ⟨rfl,hb⟩
    exact ⟨rfl,owns_spared hs.row (Spared.ofBelow (own:=fun _=>False) hb (Nat.le_refl _)) (fun _ _ h=>h),Spared.ofBelow hb (Nat.le_refl _)⟩
  ·rintro e w' ⟨rfl,h1,h2⟩
   exact ⟨rfl,v,h1,rfl,h2⟩
 | true =>
  have hp:=has_lt hy
  rw [remR_erase h.so r.name hy]
  have hso:=remR_sorted h.so r.name
  rw [remR_erase h.so r.name hy] at hso
  have hel:(rs.eraseIdx (posOf rs r.name)).length=rs.length-1:=by rw [List.length_eraseIdx,if_pos hp]
  obtain ⟨g,c,rfl,_,_⟩:=row_some h.row (by omega)
  refine (remove_of S down _ rs r w h (.slice (some ⟨g,0,none⟩) (rs.length-1) c) (rs.eraseIdx (posOf rs r.name)) rfl ⟨rfl,rfl⟩ (fun X w' hX hlt hne hs=>?_) hso (by omega)).mono ?_
  ·refine (delf_yes g rs.length c (posOf rs r.name) X rs r.name w' rfl hs.row (by omega) hp (has_name hy) (fun k hk hkp=>sorted_other h.so r.name hy k hk hkp) hX hlt (fun e=>hne (by rw [e];rfl))).mono ?_
   rintro e w'' ⟨rfl,h1,h2⟩
   rw [hel]
   exact ⟨rfl,h1,h2.mono fun k hk=>by rw [hk];rfl⟩
  ·rintro e w' ⟨rfl,h1,h2⟩
   exact ⟨rfl,_,h1,rfl,h2⟩
def RecV.alone (r:RecV):RecV:={ r with sa:=none,sn:=0,sc:=0,na:=none,nn:=0,nc:=0 }
set_option maxRecDepth 100000 in
set_option maxHeartbeats 1000000 in
theorem drop_yes (S:Nat) (down:Bool) (v:Value) (rs:List RecV) (r:RecV) (w:World) (h:Sto w S down v rs) (hyes:hasName rs r.name=true) :
  Calls Tryz.prog 125 #[.pointer (some ⟨S,0,none⟩),r.val] w fun e w' =>
   e=.returned (.tuple #[])∧Sto w' S down v (rs.set (posOf rs r.name) ((rs[posOf rs r.name]!).laid r.alone))∧Spared (fun b=>v.ownBlock=some b) w w':=by
 have hba:=(Below.refl w.heap.size w).alloc (Nat.le_refl _) (.cells #[.string r.name,.int .i64 r.mode,.int .i64 r.t,.int .i64 r.l,.int .i64 r.size,.int .i64 r.epoch,.slice r.sa r.sn r.sc,.slice r.na r.nn r.nc] 127)
 have HL:=hid (lay_yes S down v rs r.alone _ (h.keeps (Spared.ofBelow (own:=fun _=>False) hba (Nat.le_refl _)) (fun h=>h) (fun _ _ h=>h)) hyes)
 have HB:=hid hba
 clear h hyes hba
 unfold RecV.val
 go_enter Tryz.func125,Tryz.ntmps125
 go_wp2_with fail
 refine HL.out.mono ?_
 rintro e w1 ⟨rfl,hs,hsp⟩
 go_wp2_with fail
 exact bodyPost_end (by simp [results,Tryz.results125,go_sem]) rfl ⟨rfl,hs,(Spared.ofBelow HB.out (Nat.le_refl _)).trans hsp⟩
set_option maxRecDepth 100000 in
set_option maxHeartbeats 1000000 in
theorem turn_idle (S:Nat) (down:Bool) (v:Value) (rs:List RecV) (r q:RecV) (w:World) (h:Sto w S down v rs) (hyes:hasName rs r.name=true) (hq:q=rs[posOf rs r.name]!) (hna:q.na=none) :
  Calls Tryz.prog 124 #[.pointer (some ⟨S,0,none⟩),r.val] w fun e w' =>
   e=.returned (.tuple #[])∧Below w.heap.size w w':=by
 obtain ⟨a,c,hv,hst⟩:=h.st
 have hba:=(Below.refl w.heap.size w).alloc (Nat.le_refl _) (.cells #[.string r.name,.int .i64 r.mode,.int .i64 r.t,.int .i64 r.l,.int .i64 r.size,.int .i64 r.epoch,.slice r.sa r.sn r.sc,.slice r.na r.nn r.nc] 127)
 have HP:=hid (place_any S down a c rs r.name _ (hst.keeps hba (Nat.le_refl _)))
 rw [hyes] at HP
 have hlt:=has_lt hyes
 obtain ⟨g,cap,hv2,_,hg⟩:=row_some h.row (by omega)
 subst hv2
 have hSlt:=hst.lt
 have HS:=hid h
 generalize hpp:posOf rs r.name=p at *
 generalize hnn:rs.length=n at *
 have HQ:=hid hq
 have HNN:=hid hnn
 clear h hst hv hq hpp hnn hyes
 unfold RecV.val
 go_enter Tryz.func124,Tryz.ntmps124
 go_wp2_with fail
 refine HP.out.mono ?_
 rintro e w1 ⟨rfl,hb1⟩
 have hb01:Below w.heap.size w w1:=hba.trans (hb1.mono (by simp))
 have d1:w1.cell? ⟨S,1,none⟩=some (.slice (some ⟨g,0,none⟩) n cap):=by rw [hb01.cell (p:=⟨S,1,none⟩) hSlt,cells_at HS.out.hp];rfl
 obtain ⟨_,_,_,_,_,_,_,_,k7⟩:=rec_at (b:=g) (o:=0) (rs:=rs) (w:=w1) (by
  obtain ⟨a2,c2,hv3,h3⟩:=owns_rd_size HS.out.row
  cases hv3
  exact h3.below hb01 (Nat.le_refl _)) p (by rw [HNN.out];exact hlt)
 rw [←HQ.out,hna] at k7
 simp only [Nat.zero_add] at k7
 have hlt':(p:Int)<(n:Int):=by omega
 go_wp2_with fail
 exact bodyPost_end (by simp [results,Tryz.results124,go_sem]) rfl ⟨rfl,hb01⟩
theorem Tryz.callRemove (args:Array Value) (w:World):(callFunc 122 args).run Tryz.prog w=.ok (.enter 122 args) w:=callFn Tryz.func122 (by kernel_rfl) rfl args w
theorem Tryz.callDrop (args:Array Value) (w:World):(callFunc 125 args).run Tryz.prog w=.ok (.enter 125 args) w:=callFn Tryz.func125 (by kernel_rfl) rfl args w
structure MoveJ (W n:Nat) (sp:Nat→Nat) (dn:Nat→Bool) (vs us:Nat→Value) (old new:Nat→List RecV) (t:Nat) (w:World):Prop where
 sz:W≤w.heap.size
 st:∀i,i<n→Sto w (sp i) (dn i) (us i) (if i<t then new i else old i)
 same:∀i,t≤i→i<n→us i=vs i
 blk:∀i,i<n→(us i).ownBlock=(vs i).ownBlock∨∃b,(us i).ownBlock=some b∧W≤b
 dis:∀i j,i<n→j<n→i≠j→∀b,(us i).ownBlock=some b→(us j).ownBlock≠some b
def moveOwn (n:Nat) (sp:Nat→Nat) (vs:Nat→Value) (b:Nat):Prop:=∃i,i<n∧(b=sp i∨(vs i).ownBlock=some b)
theorem MoveJ.keeps {W n V:Nat} {sp:Nat→Nat} {dn:Nat→Bool} {vs us:Nat→Value} {old new:Nat→List RecV} {t:Nat} {w w':World} (h:MoveJ W n sp dn vs us old new t w) (hs:Spared (fun b=>b=V) w w') (hVW:V<W) (hsV:∀i,i<n→sp i≠V) (hvV:∀i,i<n→(vs i).ownBlock≠some V):MoveJ W n sp dn vs us old new t w':=by
 refine ⟨Nat.le_trans h.sz hs.size,fun i hi=>(h.st i hi).keeps hs (hsV i hi) (fun b hb e=>?_),h.same,h.blk,h.dis⟩
 subst e
 rcases h.blk i hi with h1 | ⟨b',h1,h2⟩
 ·exact hvV i hi (by rw [←h1];exact hb)
 ·rw [hb] at h1
  cases h1
  omega
theorem MoveJ.step {W n:Nat} {sp:Nat→Nat} {dn:Nat→Bool} {vs us:Nat→Value} {old new:Nat→List RecV} {i:Nat} {w w':World} (h:MoveJ W n sp dn vs us old new i w) (hi:i<n) (hsi:∀i j,i<n→j<n→i≠j→sp i≠sp j)
  (v':Value) (hst:Sto w' (sp i) (dn i) v' (new i)) (hb:v'.ownBlock=(vs i).ownBlock∨∃b,v'.ownBlock=some b∧w.heap.size≤b) (hsp:Spared (fun b=>b=sp i∨(vs i).ownBlock=some b) w w') :
  MoveJ W n sp dn vs (fun j=>if j=i then v' else us j) old new (i+1) w':=by
 have husi:us i=vs i:=h.same i (Nat.le_refl _) hi
 have hnew:∀j,j<n→j≠i→∀b,(us j).ownBlock=some b→v'.ownBlock≠some b:=by
  intro j hj hji b hb1 hb2
  rcases hb with hb | ⟨b',hb,hge⟩
  ·exact h.dis j i hj hi hji b hb1 (by rw [husi,←hb];exact hb2)
  ·rw [hb2] at hb
   cases hb
   have:=((h.st j hj).row.lt b hb1).2
   omega
 refine ⟨Nat.le_trans h.sz hsp.size,fun j hj=>?_,fun j hj hjn=>?_,fun j hj=>?_,fun a b ha hb' hab c hc=>?_⟩
 ·by_cases hji:j=i
  ·subst hji
   rw [if_pos (Nat.lt_succ_self _)]
   simp only [if_true]
   exact hst
  ·have e:(if j<i+1 then new j else old j)=(if j<i then new j else old j):=by
    by_cases hlt':j<i
    ·rw [if_pos (by omega),if_pos hlt']
    ·rw [if_neg (by omega),if_neg hlt']
   rw [e]
   simp only [hji,if_false]
   refine (h.st j hj).keeps hsp ?_ (fun b hb=>?_)
   ·rintro (e | e)
    ·exact hsi j i hj hi hji e
    ·have h1:=(h.st i hi).row
     rw [husi] at h1
     exact row_ne h1 (h.st j hj).hp (by decide) e
   ·rintro (e | e)
    ·subst e
     exact row_ne (h.st j hj).row (h.st i hi).hp (by decide) hb
    ·exact h.dis j i hj hi hji b hb (by rw [husi];exact e)
 ·simp only [show ¬j=i by omega,if_false]
  exact h.same j (by omega) hjn
 ·by_cases hji:j=i
  ·subst hji
   simp only [if_true]
   rcases hb with hb | ⟨b,hb,hge⟩
   ·exact .inl hb
   ·exact .inr ⟨b,hb,Nat.le_trans h.sz hge⟩
  ·simp only [hji,if_false]
   exact h.blk j hj
 ·by_cases hai:a=i
  ·subst hai
   simp only [if_true] at hc
   simp only [Ne.symm hab,if_false]
   exact fun e=>hnew b hb' (Ne.symm hab) c e hc
  ·simp only [hai,if_false] at hc
   by_cases hbi:b=i
   ·subst hbi
    simp only [if_true]
    exact hnew a ha hab c hc
   ·simp only [hbi,if_false]
    exact h.dis a b ha hb' hab c hc
def Moved (w':World) (W V key n B bc:Nat) (sp:Nat→Nat) (dn:Nat→Bool) (vs:Nat→Value) (old new:Nat→List RecV) (p:Pen) (d t:Nat) (e:Ending):Prop :=
 Ended w' V key n B bc sp p n d t e∧∃us,MoveJ W n sp dn vs us old new t w'
theorem write_move (c f:Nat) (base V key n B bc br rc:Nat) (sp:Nat→Nat) (dn:Nat→Bool) (vs:Nat→Value) (old new:Nat→List RecV) (xs:List RecV) (p:Pen) (w:World) (hn8:n≤8)
  (hsteps:∀w,Calls Tryz.prog 89 #[.int .i64 c] w fun e w'=>∃g,e=.returned (.slice (some ⟨g,0,none⟩) 1 1)∧w.heap.size≤g∧Fns w' g [f]∧Below w.heap.size w w')
  (hcall:∀args w,(callFunc f args).run Tryz.prog w=.ok (.enter f args) w)
  (hv:Vp w V key n B bc sp p) (hxl:xs.length=n) (hx:Rd w (some ⟨br,0,none⟩) (recs xs)) (hbr:br<w.heap.size) (hrt:∃cs,w.heap[br]?=some (.cells cs 127)) (hrv:∀i,i<n→(vs i).ownBlock≠some br)
  (hst:∀i,i<n→Sto w (sp i) (dn i) (vs i) (old i)) (hsi:∀i j,i<n→j<n→i≠j→sp i≠sp j) (hvi:∀i j,i<n→j<n→i≠j→∀b,(vs i).ownBlock=some b→(vs j).ownBlock≠some b)
  (hG:Glob w base) (hbV:base≤V) (hbs:∀i,i<n→base≤sp i) (hbv:∀i,i<n→∀b,(vs i).ownBlock=some b→base≤b)
  (hop:∀i w1,i<n→Sto w1 (sp i) (dn i) (vs i) (old i)→Spared (fun b=>b=V∨moveOwn n sp vs b) w w1→Calls Tryz.prog f #[.pointer (some ⟨sp i,0,none⟩),(xs[i]!).val] w1 fun e w2 =>
   e=.returned (.tuple #[])∧∃v',Sto w2 (sp i) (dn i) v' (new i)∧(v'.ownBlock=(vs i).ownBlock∨∃b,v'.ownBlock=some b∧w1.heap.size≤b)∧Spared (fun b=>b=sp i∨(vs i).ownBlock=some b) w1 w2) :
  Calls Tryz.prog 59 #[.pointer (some ⟨V,0,none⟩),.int .i64 c,.slice (some ⟨br,0,none⟩) n rc] w fun e w' =>
   ∃t,Moved w' w.heap.size V key n B bc sp dn vs old new p 1 t e∧Spared (fun b=>b=V∨moveOwn n sp vs b) w w':=by
 obtain ⟨LB,hLB,_⟩:=hv.hb
 obtain ⟨csR,hR⟩:=hrt
 have hVh:=hv.hp
 have hlt:∀i,i<n→sp i<w.heap.size:=fun i hi=>cells_lt (hst i hi).hp
 have hvlt:∀i,i<n→∀b,(vs i).ownBlock=some b→b<w.heap.size:=fun i hi b hb=>((hst i hi).row.lt b hb).2
 have hown:∀b cs e,w.heap[b]?=some (.cells cs e)→e≠100→(∀i,i<n→(vs i).ownBlock≠some b)→¬moveOwn n sp vs b:=by
  rintro b cs e hb he hno ⟨i,hi,e1 | e1⟩
  ·subst e1
   rw [(hst i hi).hp] at hb
   cases hb
   exact he rfl
  ·exact hno i hi e1
 have hoV:¬moveOwn n sp vs V:=hown V _ _ hVh (by decide) (fun i hi=>row_ne (hst i hi).row hVh (by decide))
 have hoB:¬moveOwn n sp vs B:=hown B _ _ hLB (by decide) (fun i hi=>row_ne (hst i hi).row hLB (by decide))
 have hor:¬moveOwn n sp vs br:=hown br _ _ hR (by decide) hrv
 have hrV:br≠V:=fun e=>by rw [e,hVh] at hR;cases hR
 have hBV:B≠V:=fun e=>by rw [e,hVh] at hLB;cases hLB
 refine (write_any c 1 [f] (fun t w'=>∃us,MoveJ w.heap.size n sp dn vs us old new t w') (moveOwn n sp vs) V key n B bc br rc sp xs p w rfl (by decide) hn8 hsteps
  (fun j g hg args w'=>by
   cases j with
   | zero=>cases hg;exact hcall args w'
   | succ j=>cases hg)
  hv hxl hx hbr
  (fun w' hb=>⟨vs,hb.size,fun i hi=>by
   rw [if_neg (Nat.not_lt_zero _)]
   exact (hst i hi).keeps (Spared.ofBelow (own:=fun _=>False) hb (Nat.le_refl _)) (fun h=>h) (fun _ _ h=>h),fun _ _ _=>rfl,fun _ _=>.inl rfl,hvi⟩)
  (fun t w1 w2 ⟨us,h⟩ hs=>⟨us,h.keeps hs (cells_lt hVh) (fun i hi e=>hoV ⟨i,hi,.inl e.symm⟩) (fun i hi e=>hoV ⟨i,hi,.inr e⟩)⟩)
  (fun b ⟨i,hi,hb⟩=>hb.elim (fun e=>by rw [e];exact hlt i hi) (fun e=>hvlt i hi b e)) hoV hoB hor hrV hBV
  (fun w1 hs=>(hG.spared hs (fun b hb=>by
   rcases hb with rfl | ⟨i,hi,rfl | hb⟩
   ·exact hbV
   ·exact hbs i hi
   ·exact hbv i hi b hb)).tb)
  (fun j i g w1 hg hi hJ hs=>?_)).mono ?_
 ·cases j with
  | succ j=>cases hg
  | zero =>
   cases hg
   rw [Nat.zero_mul,Nat.zero_add] at hJ ⊢
   obtain ⟨us,hm⟩:=hJ
   have h0:=hm.st i hi
   rw [if_neg (Nat.lt_irrefl _),hm.same i (Nat.le_refl _) hi] at h0
   refine (hop i w1 hi h0 hs).mono ?_
   rintro e w2 ⟨rfl,v',h1,h2,h3⟩
   exact ⟨rfl,⟨_,hm.step hi hsi v' h1 h2 h3⟩,h3.mono fun b hb=>⟨i,hi,hb⟩⟩
 ·rintro e w' ⟨⟨t,h1,⟨us,hm⟩,h3,h4⟩,h5⟩
  rw [Nat.one_mul] at h1 h4
  exact ⟨t,⟨⟨h1,h3,h4⟩,us,hm⟩,h5⟩
end Go.Proofs.YtcegdgmbponapabGreatDoor