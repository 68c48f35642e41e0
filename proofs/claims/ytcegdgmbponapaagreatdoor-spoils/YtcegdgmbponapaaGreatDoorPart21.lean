import Derived.Test.YtcegdgmbponapaaGreatDoorPart20
set_option maxRecDepth 100000
set_option maxHeartbeats 4000000
namespace Go.Proofs.YtcegdgmbponapaaGreatDoor
open Go.RowKit
attribute [local go_sem ↓] Go.wp_at_zero Go.wp_at_succ
def adV (S W n p:Nat) (v:Value) (L:List Value) (r:RecV):Nat→Value→World→Prop
 | 0,u,_=>u=.pointer (some ⟨S,0,none⟩)
 | 1,u,_=>u=.pointer (some ⟨S,0,none⟩)
 | 2,u,_=>u=.pointer (some ⟨S,0,none⟩)
 | 3,u,_=>u=.pointer (some ⟨S,1,none⟩)
 | 4,u,_=>u=v
 | 5,u,_=>u=.int .i64 p
 | 6,u,_=>u=.agg #[.string r.name,.int .i64 r.mode,.int .i64 r.t,.int .i64 r.l,.int .i64 r.size,.int .i64 r.epoch,.slice r.sa r.sn r.sc,.slice r.na r.nn r.nc]
 | 7,u,w=>∃b,u=.slice (some ⟨b,0,none⟩) 1 1∧W≤b∧w.heap[b]?=some (.cells r.cells.toArray 152)
 | 8,u,w=>w.ownsRow 0 152 8 u n L∧(u.ownBlock=v.ownBlock∨∃b,u.ownBlock=some b∧W≤b)
 | 9,u,_=>u=.pointer (some ⟨S,0,none⟩)
 | 10,u,_=>u=.pointer (some ⟨S,1,none⟩)
 | _,_,_=>True
def qdc (i:Nat):Option Nat:=if i=11 then none else some (i+14)
def adO (S:Nat) (v:Value) (i b:Nat):Prop:=(i=8∧v.ownBlock=some b)∨(i=11∧b=S)
def adA (S W n p:Nat) (down:Bool) (v:Value) (L:List Value) (r:RecV) (j:Nat) (a:Act) (w:World):Prop :=
 adV S W n p v L r j (a.tmps.getD (j+14) undef) w∧(j=11→w.heap[S]?=some (.cells #[.bool down,a.tmps.getD 22 undef] 178))
def adU (S n:Nat) (down:Bool) (v:Value) (rs:List RecV) (j:Nat) (w:World):Prop :=
 (j=8→w.ownsRow 0 152 8 v n (recs rs))∧(j=4∨j=11→w.heap[S]?=some (.cells #[.bool down,v] 178))
theorem qjk (S W n p:Nat) (v:Value) (L:List Value) (r:RecV) (hvW:∀b,v.ownBlock=some b→b<W) (hSW:S<W) (hvS:v.ownBlock≠some S) (i j:Nat) (u:Value) (w w':World) (hij:i≠j) (h:adV S W n p v L r j u w) (hs:qaa (adO S v i) w w'):adV S W n p v L r j u w':=by
 unfold adV at h ⊢
 split at h
 ·exact h
 ·exact h
 ·exact h
 ·exact h
 ·exact h
 ·exact h
 ·exact h
 ·obtain ⟨b,h1,h2,h3⟩:=h
  refine ⟨b,h1,h2,hs.heap h3 ?_⟩
  rintro (⟨_,hb⟩|⟨_,hb⟩)
  ·have:=hvW b hb;omega
  ·omega
 ·refine ⟨qab h.1 hs (fun b hb=>?_),h.2⟩
  rintro (⟨rfl,hb2⟩|⟨_,hb2⟩)
  ·exact hij rfl
  ·subst hb2
   rcases h.2 with h3 | ⟨b',h3,h4⟩
   ·rw [hb] at h3;exact hvS h3.symm
   ·rw [hb] at h3;cases h3;omega
 ·exact h
 ·exact h
 ·trivial
theorem qhO {P:Program} {o:Oper} {a:Act} {w:World} {post:Value→World→Prop} (ty:TypeId) (x y:Operand) (ho:o.op=.store ty x y)
  (b off:Nat) (u:Value) (hx:a.eval x=.pointer (some ⟨b,off,none⟩)) (hy:a.eval y=u) (hu:u.oneCell'=true) (huc:u.cells=#[u]) (hi:(P.info? ty).map (·.size)=some 1)
  (old:Value) (hc:w.cell? ⟨b,off,none⟩=some old) (hf:w.frozen? ⟨b,off,none⟩=false)
  (h:post undef (w.setCell ⟨b,off,none⟩ u)):qcS P o a w post:=by
 have hv:(storeVar ty ⟨b,off,none⟩ u).run P w=.ok () (w.setCell ⟨b,off,none⟩ u):=by
  cases hq:P.info? ty with
  | none=>simp [hq] at hi
  | some i =>
   have hs':i.size=1:=by simpa [hq] using hi
   simp [storeVar,sizeOf,typeInfo,hq,huc,hs',storeCells,Addr.add]
   rw [run_store P w _ _ _ hu]
   simp [hc,hf]
 refine .inr ⟨_,?_,h⟩
 unfold execOp
 simp only [ho,hx,hy,Instr.storeAt,Instr.sureAddr,Sem.run_bind,Sem.run_pure,Result.andThen_ok,hv]
theorem add_any (S:Nat) (down:Bool) (v:Value) (rs:List RecV) (r:RecV) (w:World) (h:Sto w S down v rs) (hlen:rs.length<10) (hno:hasName rs r.name=false) :
  Calls Tryz.prog 155 #[.pointer (some ⟨S,0,none⟩),r.val] w fun e w' =>
   e=.returned (.tuple #[])∧∃v',Sto w' S down v' (insR rs r)∧(v'.ownBlock=v.ownBlock∨∃b,v'.ownBlock=some b∧w.heap.size≤b)∧qaa (fun b=>b=S∨v.ownBlock=some b) w w':=by
 obtain ⟨a,c,hv,hst⟩:=h.st
 have hba:=(Below.refl w.heap.size w).alloc nl (.cells #[.string r.name,.int .i64 r.mode,.int .i64 r.t,.int .i64 r.l,.int .i64 r.size,.int .i64 r.epoch,.slice r.sa r.sn r.sc,.slice r.na r.nn r.nc] 152)
 have HP:=hid (qcw S down a c rs r.name _ (hst.keeps hba nl))
 have hpl:=qh9 rs r.name
 have HSO:=hid (qed h.so r hno)
 have HIL:=qgY rs r
 have HIE:=hid (show insR rs r=rs.take (qai rs r.name)++r :: rs.drop (qai rs r.name) from rfl)
 generalize insR rs r=rs' at HSO HIL HIE ⊢
 generalize qai rs r.name=p at *
 rw [hno] at HP
 have hSlt:=hst.lt
 have hvS:v.ownBlock≠some S:=fun e=>h.ne S e rfl
 have hvlt:∀b,v.ownBlock=some b→b<w.heap.size:=fun b hb=>(h.row.lt b hb).2
 have HS:=hid h
 clear h hst
 obtain ⟨n,hn⟩:∃n,n=rs.length:=⟨_,rfl⟩
 unfold RecV.val
 go_enter Tryz.func155,Tryz.ntmps155
 go_wp2_with fail
 refine HP.out.mono ?_
 rintro e w1 ⟨rfl,hb1⟩
 have hb01:Below w.heap.size w w1:=hba.trans (hb1.mono (by simp))
 have hz1:w.heap.size<w1.heap.size:=by have:=hb1.size;simp at this;omega
 have hX:w1.heap[w.heap.size]?=some (.cells #[.string r.name,.int .i64 r.mode,.int .i64 r.t,.int .i64 r.l,.int .i64 r.size,.int .i64 r.epoch,.slice r.sa r.sn r.sc,.slice r.na r.nn r.nc] 152):=by
  rw [hb1.block w.heap.size (by simp)]
  show (w.heap.push _)[w.heap.size]?=_
  simp
 go_wp2_with fail
 have hS1:w1.heap[S]?=some (.cells #[.bool down,v] 178):=by rw [hb01.block S hSlt];exact HS.out.hp
 have hrow1:w1.ownsRow 0 152 8 v n (recs rs):=by rw [hn];exact qal HS.out.row hb01 nl
 have HX:∀w':World,qaa (fun b=>∃i,adO S v i b) { w1 with drawn:=w1.drawn+1 } w'→w'.cell? ⟨w.heap.size,0,none⟩=some (.string r.name)∧w'.cell? ⟨w.heap.size,1,none⟩=some (.int .i64 r.mode)∧w'.cell? ⟨w.heap.size,2,none⟩=some (.int .i64 r.t)∧w'.cell? ⟨w.heap.size,3,none⟩=some (.int .i64 r.l)∧w'.cell? ⟨w.heap.size,4,none⟩=some (.int .i64 r.size)∧w'.cell? ⟨w.heap.size,5,none⟩=some (.int .i64 r.epoch)∧w'.cell? ⟨w.heap.size,6,none⟩=some (.slice r.sa r.sn r.sc)∧w'.cell? ⟨w.heap.size,7,none⟩=some (.slice r.na r.nn r.nc):=by
  intro w' hs
  have hh:=hs.heap (b:=w.heap.size) hX (by
   rintro ⟨i,⟨_,hb⟩|⟨_,hb⟩⟩
   ·have:=hvlt _ hb;omega
   ·omega)
  exact ⟨cq hh rfl,cq hh rfl,cq hh rfl,cq hh rfl,cq hh rfl,cq hh rfl,cq hh rfl,cq hh rfl⟩
 have MK:∀(i:Nat) (a:Act) (w':World) (o:Oper),a.tmps.size=25→i<11→qbc Tryz.prog o a w' (fun u w''=>qaa (adO S v i) w' w''∧adV S w1.heap.size (n+1) p v (recs rs') r i u w'')→qcS Tryz.prog o a w' (fun u w''=>qaa (adO S v i) w' w''∧adA S w1.heap.size (n+1) p down v (recs rs') r i (a.put (qdc i) u) w''):=by
  intro i a w' o hsz hi h
  refine .inl <| h.weaken fun u w'' hp=>⟨hp.1,?_,fun h=>by omega⟩
  rw [show qdc i=some (i+14) by unfold qdc;rw [if_neg (by omega)],put_eq _ _ _ (by omega)]
  exact hp.2
 refine qcK (by kernel_rfl) qdc (adA S w1.heap.size (n+1) p down v (recs rs') r) (adU S n down v rs) (adO S v) [(0,.pointer (some ⟨S,0,none⟩)),(3,.pointer (some ⟨w.heap.size,0,none⟩)),(4,.int .i64 p)] 25 (fun i=>if i=0∨i=1 then [0] else if i=5 then [4] else if i=6 then [3] else []) (by kernel_rfl) rfl rfl ?_ ?_ ?_ ?_ ?_ ?_
 ·simp
 ·intro j _
  exact ⟨fun _=>hrow1,fun _=>hS1⟩
 ·intro i j ac u w3 w4 hj hij hwt _ hr hs hsl
  refine ⟨?_,fun h11=>?_⟩
  ·have e:((ac.put (qdc i) u).tmps.getD (j+14) undef)=ac.tmps.getD (j+14) undef:=by
    unfold qdc
    split
    ·rfl
    ·rw [qhA _ _ _ _ (by omega)]
   rw [e]
   exact qjk S _ _ _ v _ r (fun b hb=>Nat.lt_trans (hvlt b hb) hz1) (by omega) hvS i j _ w3 w4 hij hr.1 hs
  ·subst h11
   have h8:i≠8:=by
    rintro rfl
    exact absurd (Eq.trans (show true=_ by kernel_rfl) hwt) (by decide)
   have e:((ac.put (qdc i) u).tmps.getD 22 undef)=ac.tmps.getD 22 undef:=by
    unfold qdc
    split
    ·rfl
    ·rw [qhA _ _ _ _ (by omega)]
   rw [e]
   refine hs.heap (hr.2 rfl) ?_
   rintro (⟨h,_⟩|⟨h,_⟩)
   ·exact h8 h
   ·exact hij h
 ·intro i j w3 w4 hij hwt _ hr hs
  refine ⟨fun h8=>?_,fun h4=>?_⟩
  ·refine qab (hr.1 h8) hs (fun b hb=>?_)
   rintro (⟨h,_⟩|⟨_,h⟩)
   ·omega
   ·exact hvS (by rw [hb,h])
  ·refine hs.heap (hr.2 h4) ?_
   rintro (⟨_,h⟩|⟨h,_⟩)
   ·exact hvS h
   ·subst h
    rcases h4 with rfl | rfl
    ·exact absurd (Eq.trans (show true=_ by kernel_rfl) hwt) (by decide)
    ·exact hij rfl
 ·refine ⟨?_,?_,?_,?_,?_,?_,?_,?_,?_,?_,?_,?_,trivial⟩
  ·intro ac w' hsz hs hf hd2 hu
   have hd:=fun e he hb=>(hd2 e he hb).1.1
   refine MK 0 ac w' _ hsz (by decide) ?_
   clear hsz
   have f0:ac.tmps[0]?.getD undef=.pointer (some ⟨S,0,none⟩):=by simpa using hf (0,.pointer (some ⟨S,0,none⟩)) (by simp) rfl
   simp [adV,Region.binds] at hd
   exact .inl ⟨.pointer (some ⟨S,0,none⟩),w',by go_simp,sr,rfl⟩
  ·intro ac w' hsz hs hf hd2 hu
   have hd:=fun e he hb=>(hd2 e he hb).1.1
   refine MK 1 ac w' _ hsz (by decide) ?_
   clear hsz
   have f0:ac.tmps[0]?.getD undef=.pointer (some ⟨S,0,none⟩):=by simpa using hf (0,.pointer (some ⟨S,0,none⟩)) (by simp) rfl
   simp [adV,Region.binds] at hd
   exact .inl ⟨.pointer (some ⟨S,0,none⟩),w',by go_simp,sr,rfl⟩
  ·intro ac w' hsz hs hf hd2 hu
   have hd:=fun e he hb=>(hd2 e he hb).1.1
   refine MK 2 ac w' _ hsz (by decide) ?_
   clear hsz
   simp [adV,Region.binds] at hd
   exact .inl ⟨.pointer (some ⟨S,0,none⟩),w',by go_simp,sr,rfl⟩
  ·intro ac w' hsz hs hf hd2 hu
   have hd:=fun e he hb=>(hd2 e he hb).1.1
   refine MK 3 ac w' _ hsz (by decide) ?_
   clear hsz
   simp [adV,Region.binds] at hd
   exact .inl ⟨.pointer (some ⟨S,1,none⟩),w',by go_simp,sr,rfl⟩
  ·intro ac w' hsz hs hf hd2 hu
   have hd:=fun e he hb=>(hd2 e he hb).1.1
   refine MK 4 ac w' _ hsz (by decide) ?_
   clear hsz
   have c1:w'.cell? ⟨S,1,none⟩=some v:=cq (hu.2 (.inl rfl)) rfl
   simp [adV,Region.binds] at hd
   exact .inl ⟨v,w',by go_simp,sr,rfl⟩
  ·intro ac w' hsz hs hf hd2 hu
   have hd:=fun e he hb=>(hd2 e he hb).1.1
   refine MK 5 ac w' _ hsz (by decide) ?_
   clear hsz
   have f4:ac.tmps[4]?.getD undef=.int .i64 p:=by simpa using hf (4,.int .i64 p) (by simp) rfl
   simp [adV,Region.binds] at hd
   exact .inl ⟨.int .i64 p,w',by go_simp,sr,rfl⟩
  ·intro ac w' hsz hs hf hd2 hu
   have hd:=fun e he hb=>(hd2 e he hb).1.1
   refine MK 6 ac w' _ hsz (by decide) ?_
   clear hsz
   have f3:ac.tmps[3]?.getD undef=.pointer (some ⟨w.heap.size,0,none⟩):=by simpa using hf (3,.pointer (some ⟨w.heap.size,0,none⟩)) (by simp) rfl
   obtain ⟨k0,k1,k2,k3,k4,k5,k6,k7⟩:=HX w' hs
   simp [adV,Region.binds] at hd
   exact .inl ⟨.agg #[.string r.name,.int .i64 r.mode,.int .i64 r.t,.int .i64 r.l,.int .i64 r.size,.int .i64 r.epoch,.slice r.sa r.sn r.sc,.slice r.na r.nn r.nc],w',by go_simp,sr,rfl⟩
  ·intro ac w' hsz hs hf hd2 hu
   have hd:=fun e he hb=>(hd2 e he hb).1.1
   refine MK 7 ac w' _ hsz (by decide) ?_
   clear hsz
   simp [adV,Region.binds] at hd
   refine .inl ⟨.slice (some ⟨w'.heap.size,0,none⟩) 1 1,w'.alloc (.cells #[.string r.name,.int .i64 r.mode,.int .i64 r.t,.int .i64 r.l,.int .i64 r.size,.int .i64 r.epoch,.slice r.sa r.sn r.sc,.slice r.na r.nn r.nc] 152),by go_simp,qaa.ofBelow ((Below.refl _ _).alloc nl _) nl,w'.heap.size,rfl,hs.size,?_⟩
   show (w'.heap.push _)[w'.heap.size]?=_
   simp [RecV.cells]
  ·intro ac w' hsz hs hf hd2 hu
   have hd:=fun e he hb=>(hd2 e he hb).1.1
   refine MK 8 ac w' _ hsz (by decide) ?_
   clear hsz
   simp [adV,Region.binds] at hd
   obtain ⟨h4,h5,b,h7,hbW,h7c⟩:=hd
   have hsw:w1.heap.size≤w'.heap.size:=hs.size
   refine .inr ⟨197,#[v,.int .i64 p,.slice (some ⟨b,0,none⟩) 1 1],by go_simp,(qiy 0 n p b v rs r w' hn.symm (by omega) (by omega) (hu.1 rfl) (by simpa using h7c) (fun e=>by have:=hvlt b e;omega) (Nat.zero_le _)).mono ?_⟩
   rintro e w'' ⟨u,rfl,hown,hsp2,hob⟩
   refine ⟨u,rfl,hsp2.mono fun k hk=>.inl ⟨rfl,hk⟩,by rw [HIE.out];exact hown,?_⟩
   rcases hob with h | h
   ·exact .inl h
   ·exact .inr ⟨_,h,hsw⟩
  ·intro ac w' hsz hs hf hd2 hu
   have hd:=fun e he hb=>(hd2 e he hb).1.1
   refine MK 9 ac w' _ hsz (by decide) ?_
   clear hsz
   simp [adV,Region.binds] at hd
   exact .inl ⟨.pointer (some ⟨S,0,none⟩),w',by go_simp,sr,rfl⟩
  ·intro ac w' hsz hs hf hd2 hu
   have hd:=fun e he hb=>(hd2 e he hb).1.1
   refine MK 10 ac w' _ hsz (by decide) ?_
   clear hsz
   simp [adV,Region.binds] at hd
   exact .inl ⟨.pointer (some ⟨S,1,none⟩),w',by go_simp,sr,rfl⟩
  ·intro ac w' hsz hs hf hd2 hu
   have hd:=fun e he hb=>(hd2 e he hb).1.1
   simp [adV,Region.binds] at hd
   obtain ⟨h10,h8,_⟩:=hd
   have hpS:=hu.2 (.inr rfl)
   obtain ⟨g,cap,hv8,_,_⟩:=qb4 h8.1 (by omega)
   refine qhO 145 (.tmp 24) (.tmp 22) rfl S 1 (.slice (some ⟨g,0,none⟩) (n+1) cap) (by simp [Act.eval];exact h10) (by simp [Act.eval];exact hv8) rfl rfl (by kernel_rfl) v (cq hpS rfl) (qam hpS) ?_
   refine ⟨(qaa.refl _ _).setCell (p:=⟨S,1,none⟩) (.inr ⟨rfl,rfl⟩) _,trivial,fun _=>?_⟩
   rw [qan _ hpS]
   have e:(ac.put (qdc 11) undef).tmps.getD 22 undef=.slice (some ⟨g,0,none⟩) (n+1) cap:=by
    show ac.tmps.getD 22 undef=_
    simpa using hv8
   rw [e]
   rfl
 ·intro ac w' hdf hsz hsp _ hr
  have r8:=(hr 8 (by decide)).1
  have r11:=(hr 11 (by decide)).2 rfl
  simp only [adV,Nat.reduceAdd] at r8
  generalize ac.tmps.getD 22 undef=u at r8 r11
  refine bodyPost_end (by simp [results,Tryz.results155,go_sem]) hdf ⟨rfl,u,⟨r11,?_,HSO.out,by omega⟩,?_,?_⟩
  ·rw [HIL,←hn];exact r8.1
  ·rcases r8.2 with h | ⟨b,h,h'⟩
   ·exact .inl h
   ·exact .inr ⟨b,h,by omega⟩
  ·refine (qaa.ofBelow (own:=fun b=>b=S∨v.ownBlock=some b) hb01 nl).drew.trans (qaa.mono hsp ?_)
   rintro k ⟨i,⟨_,h⟩|⟨_,h⟩⟩
   ·exact .inr h
   ·exact .inl h
theorem qhC (X:Nat) (q:RecV) (nm:ByteArray) (w:World) (hX:w.cell? ⟨X,0,none⟩=some (.string nm)) (hlt:X<w.heap.size) :
  Calls Tryz.prog 222 #[.agg #[.string q.name,.int .i64 q.mode,.int .i64 q.t,.int .i64 q.l,.int .i64 q.size,.int .i64 q.epoch,.slice q.sa q.sn q.sc,.slice q.na q.nn q.nc],.pointer (some ⟨X,0,none⟩)] w fun e w'=>e=.returned (.bool (decide (q.name=nm)))∧Below w.heap.size w w':=by
 obtain ⟨name,mode,t,l,size,epoch,sa,sn,sc,na,nn,nc⟩:=q
 have hba:=(Below.refl w.heap.size w).alloc nl (.cells #[.string name,.int .i64 mode,.int .i64 t,.int .i64 l,.int .i64 size,.int .i64 epoch,.slice sa sn sc,.slice na nn nc] 152)
 have hX':=(hba.cell (p:=⟨X,0,none⟩) hlt).trans hX
 clear hX
 go_enter Tryz.func222,Tryz.ntmps222
 go_wp2_with fail
 go_ret
 refine ⟨?_,hba⟩
 rw [←bytes_beq]
 rfl
theorem qhD (a:Option Addr) (n c m X:Nat) (rs:List RecV) (nm:ByteArray) (w:World) (en:n=rs.length) (hr:Rd w a (recs rs)) (hn:n≤100) (_hm:m≤n) (hno:∀k,k<m→(rs[k]!).name≠nm) (hyes:m<n→(rs[m]!).name=nm) (hX:w.cell? ⟨X,0,none⟩=some (.string nm)) (hlt:X<w.heap.size) :
  Calls Tryz.prog 245 #[.slice a n c,.func (.func 222) #[] #[.pointer (some ⟨X,0,none⟩)]] w fun e w'=>e=.returned (.int .i64 (if m<n then (m:Int) else -1))∧Below w.heap.size w w':=by
 have EN:=hid en
 have HR:=hid hr
 have HNO:=hid hno
 have HY:=hid hyes
 obtain ⟨res,hres⟩:∃res:Int,res=if m<n then (m:Int) else -1:=⟨_,rfl⟩
 rw [←hres]
 have HRES:=hid hres
 clear en hr hno hyes hres
 go_enter Tryz.func245,Tryz.ntmps245
 go_wp2
 go_loopw [8] (fun u wr=>∃k:Nat,u=.int .i64 k∧k≤m∧Below w.heap.size w wr) (fun u _=>n-(intOf u).toNat)
 case atStart=>exact ⟨0,rfl,Nat.zero_le _,bl⟩
 case round =>
  obtain ⟨k,rfl,hkm,hbel⟩:=hrel
  by_cases hkn:k<n
  ·have hkn':(k:Int)<(n:Int):=by omega
   obtain ⟨b,o,rfl,hb,_⟩:=HR.out.pos (by rw [qah,←EN.out];omega)
   obtain ⟨_,k0,k1,k2,k3,k4,k5,k6,k7⟩:=qcY (HR.out.below hbel nl) k (by rw [←EN.out];omega)
   obtain ⟨r,hr⟩:∃r,r=rs[k]! := ⟨_,rfl⟩
   rw [←hr] at k0 k1 k2 k3 k4 k5 k6 k7
   have HRR:=hid hr
   clear hr
   have HC:=hid (fun w' (hb':Below w.heap.size w w')=>qhC X r nm w' ((hb'.cell (p:=⟨X,0,none⟩) hlt).trans hX) (Nat.lt_of_lt_of_le hlt hb'.size))
   by_cases hke:k=m
   ·have hq:decide (r.name=nm)=true:=by rw [HRR.out,hke];exact decide_eq_true (HY.out (hke ▸ hkn))
    have HE:=hid (show res=(k:Int) by rw [HRES.out,if_pos (hke ▸ hkn),hke])
    rw [hq] at HC
    clear hq hke
    go_wp2_with fail
    refine (HC.out _ hbel).mono ?_
    rintro e w1 ⟨rfl,hb1⟩
    go_wp2
    go_ret
    exact ⟨by rw [HE.out];rfl,hbel.trans (hb1.mono hbel.size)⟩
   ·have hq:decide (r.name=nm)=false:=by rw [HRR.out];exact decide_eq_false (HNO.out k (by omega))
    rw [hq] at HC
    clear hq
    go_wp2_with fail
    refine (HC.out _ hbel).mono ?_
    rintro e w1 ⟨rfl,hb1⟩
    go_wp2
    go_roundw
    case rel=>exact ⟨k+1,by go_num,by omega,hbel.trans (hb1.mono hbel.size)⟩
    case measure=>simp [intOf];omega
  ·have hkn':¬(k:Int)<(n:Int):=by omega
   have HE:=hid (show res=-1 by rw [HRES.out,if_neg (by omega)])
   go_wp2
   go_ret
   exact ⟨by rw [HE.out];rfl,hbel⟩
theorem ql5 (v:Value) (n X:Nat) (rs:List RecV) (nm:ByteArray) (w:World) (en:n=rs.length) (hr:w.ownsRow 0 152 8 v n (recs rs)) (hn:n≤100) (hno:∀k,k<n→(rs[k]!).name≠nm) (hX:w.cell? ⟨X,0,none⟩=some (.string nm)) (hlt:X<w.heap.size) :
  Calls Tryz.prog 221 #[v,.func (.func 222) #[] #[.pointer (some ⟨X,0,none⟩)]] w fun e w'=>e=.returned v∧Below w.heap.size w w':=by
 obtain ⟨a,c,rfl,hrd⟩:=qad hr
 have HI:=hid (qhD a n c n X rs nm w en hrd hn nl hno (fun h=>by omega) hX hlt)
 rw [if_neg (show ¬n<n by omega)] at HI
 clear hr hrd hno en
 go_enter Tryz.func221,Tryz.ntmps221
 go_wp2_with fail
 refine HI.out.mono ?_
 rintro e w1 ⟨rfl,hb1⟩
 go_wp2
 go_ret
 exact ⟨rfl,hb1⟩
def qcd (rs:List RecV) (p k:Nat):List RecV:=(List.range rs.length).map fun q=>if q<p then rs[q]! else if q<p+k then rs[q+1]! else rs[q]!
theorem qaL (rs:List RecV) (p k:Nat):(qcd rs p k).length=rs.length:=by simp [qcd]
theorem qkN (rs:List RecV) (p k q:Nat) (hq:q<rs.length):(qcd rs p k)[q]! = if q<p then rs[q]! else if q<p+k then rs[q+1]! else rs[q]! := by
 rw [getElem!_pos (qcd rs p k) q (by rw [qaL];exact hq)]
 simp [qcd]
theorem qig (rs:List RecV) (p:Nat):qcd rs p 0=rs:=by
 refine List.ext_getElem (qaL _ _ _) fun i h1 h2=>?_
 simp only [qcd,List.getElem_map,List.getElem_range,Nat.add_zero]
 rw [getElem!_pos rs i h2]
 split
 ·rfl
 ·rfl
theorem qi5 (rs:List RecV) (p k:Nat) (_h:p+k+1<rs.length):(qcd rs p k).set (p+k) (rs[p+k+1]!)=qcd rs p (k+1):=by
 refine List.ext_getElem (by rw [List.length_set,qaL,qaL]) fun i h1 h2=>?_
 rw [List.getElem_set]
 simp only [qcd,List.getElem_map,List.getElem_range]
 by_cases hi:p+k=i
 ·subst hi
  rw [if_pos rfl,if_neg (by omega),if_pos (by omega)]
 ·rw [if_neg hi]
  by_cases hip:i<p
  ·rw [if_pos hip,if_pos hip]
  ·rw [if_neg hip,if_neg hip]
   by_cases hik:i<p+k
   ·rw [if_pos hik,if_pos (by omega)]
   ·rw [if_neg hik,if_neg (by omega)]
theorem qiW (rs:List RecV) (p:Nat) (hp:p<rs.length):(qcd rs p (rs.length-1-p)).take (rs.length-1)=rs.eraseIdx p:=by
 refine List.ext_getElem (by rw [List.length_take,qaL,List.length_eraseIdx,if_pos hp];omega) fun i h1 h2=>?_
 have h3:i<rs.length-1:=by rw [List.length_eraseIdx,if_pos hp] at h2;exact h2
 rw [List.getElem_take,List.getElem_eraseIdx]
 simp only [qcd,List.getElem_map,List.getElem_range]
 by_cases hip:i<p
 ·rw [if_pos hip,dif_pos hip,getElem!_pos rs i (by omega)]
 ·rw [if_neg hip,dif_neg hip,if_pos (by omega),getElem!_pos rs (i+1) (by omega)]
theorem qcq {P:Program} {ops:Array Oper} {rest:List Oper} {o:Oper} {a:Act} {w:World} {Q:Exit→Act→World→Prop} (hgd:o.guard=none) (ty:TypeId) (x y:Operand) (ho:o.op=.store ty x y)
  (g off:Nat) (cells:Array Value) (hx:a.eval x=.pointer (some ⟨g,off,none⟩)) (hy:a.eval y=.agg cells)
  (t:TypeId) (old:Array Value) (hg:w.heap[g]?=some (.cells old t (0,0))) (hi:(P.info? ty).map (·.size)=some cells.size)
  (hold:off+cells.size≤old.size) (h1:cells.all (·.oneCell')=true)
  (h:wpList P ops Q rest (a.put o.dst undef) (w.setRow g (old.toList.take off++cells.toList++old.toList.drop (off+cells.size)).toArray)):wpList P ops Q (o :: rest) a w :=
 wpList_plain hgd fun _ hK=>qbN ty x y ho g off cells hx hy t old hg hi hold h1 (hK _ _ h)
theorem RecV.all_one (r:RecV):(#[Value.string r.name,.int .i64 r.mode,.int .i64 r.t,.int .i64 r.l,.int .i64 r.size,.int .i64 r.epoch,.slice r.sa r.sn r.sc,.slice r.na r.nn r.nc].all (·.oneCell'))=true:=by
 simp [Value.oneCell']
theorem qb8 (w:World) (g:Nat) (L:Array Value):qaa (fun b=>b=g) w (w.setRow g L):=by
 refine ⟨rfl,rfl,rfl,by simp [World.setRow],fun k _ hk=>?_⟩
 simp [World.setRow,Array.getElem?_modify,Ne.symm hk]
theorem qkS (g n c p X:Nat) (rs:List RecV) (nm:ByteArray) (w:World) (en:n=rs.length) (hr:w.ownsRow 0 152 8 (.slice (some ⟨g,0,none⟩) n c) n (recs rs)) (hn:n≤100) (hp:p<n) (hpy:(rs[p]!).name=nm) (hno:∀k,k<n→k≠p→(rs[k]!).name≠nm) (hX:w.cell? ⟨X,0,none⟩=some (.string nm)) (hlt:X<w.heap.size) (hXg:X≠g) :
  Calls Tryz.prog 221 #[.slice (some ⟨g,0,none⟩) n c,.func (.func 222) #[] #[.pointer (some ⟨X,0,none⟩)]] w fun e w'=>e=.returned (.slice (some ⟨g,0,none⟩) (n-1) c)∧w'.ownsRow 0 152 8 (.slice (some ⟨g,0,none⟩) (n-1) c) (n-1) (recs (rs.eraseIdx p))∧qaa (fun b=>b=g) w w':=by
 obtain ⟨a,c0,hv,hrd⟩:=qad hr
 cases hv
 have HI:=hid (qhD _ n c p X rs nm w en hrd hn (Nat.le_of_lt hp) (fun k hk=>hno k (by omega) (by omega)) (fun _=>hpy) hX hlt)
 rw [if_pos hp] at HI
 have hgw:=(hr.lt g rfl).2
 have HR:=hid hr
 have HNO:=hid hno
 have EN:=hid en
 clear hr hrd hno hpy en
 have hpm:¬(p:Int)=-1:=by omega
 go_enter Tryz.func221,Tryz.ntmps221
 go_wp2_with fail
 refine HI.out.mono ?_
 rintro e w1 ⟨rfl,hb1⟩
 go_wp2_with fail
 go_loopw [5,6] (fun u u2 wr=>∃i j:Nat,u=.int .i64 i∧u2=.int .i64 j∧Hid (j=i+1)∧p≤i∧i<n∧wr.ownsRow 0 152 8 (.slice (some ⟨g,0,none⟩) n c) n (recs (qcd rs p (i-p)))∧qaa (fun b=>b=g) w wr) (fun _ u _=>n-(intOf u).toNat)
 case atStart=>exact ⟨p,p+1,rfl,by go_num,hid rfl,Nat.le_refl _,hp,by rw [Nat.sub_self,qig];exact qab HR.out (qaa.ofBelow (own:=fun _=>False) hb1 nl) (fun _ _ h=>h),qaa.ofBelow hb1 nl⟩
 case round =>
  obtain ⟨i,j,rfl,rfl,EJ,hpi,hin,hown,hsp⟩:=hrel
  have hgr:=(hown.lt g rfl).2
  by_cases hjn:j<n
  ·have hjn':(j:Int)<(n:Int):=by omega
   have hin':(i:Int)<(n:Int):=by omega
   obtain ⟨_,k0,k1,k2,k3,k4,k5,k6,k7⟩:=qcY (b:=g) (o:=0) (by obtain ⟨a,c1,hv,h⟩:=qad hown;cases hv;exact h) j (by rw [qaL,←EN.out];exact hjn)
   rw [qkN _ _ _ _ (by rw [←EN.out];exact hjn),if_neg (by have:=EJ.out;omega),if_neg (by have:=EJ.out;omega)] at k0 k1 k2 k3 k4 k5 k6 k7
   simp only [Nat.zero_add] at k0 k1 k2 k3 k4 k5 k6 k7
   have hq:decide ((rs[j]!).name=nm)=false:=decide_eq_false (HNO.out j hjn (by have:=EJ.out;omega))
   obtain ⟨r,hr⟩:∃r,r=rs[j]! := ⟨_,rfl⟩
   rw [←hr] at k0 k1 k2 k3 k4 k5 k6 k7 hq
   have HRR:=hid hr
   clear hr
   have HC:=hid (fun w' (hb':Below wr.heap.size wr w')=>qhC X r nm w' (by
    rw [hb'.cell (p:=⟨X,0,none⟩) (Nat.lt_of_lt_of_le hlt hsp.size),World.cell?_of_block (hsp.block X hlt hXg)]
    exact hX) (Nat.lt_of_lt_of_le hlt (Nat.le_trans hsp.size hb'.size)))
   rw [hq] at HC
   clear hq
   have HO:=hid hown
   clear hown
   go_wp2_with fail
   have hba:=(Below.refl wr.heap.size wr).alloc nl (.cells #[.string r.name,.int .i64 r.mode,.int .i64 r.t,.int .i64 r.l,.int .i64 r.size,.int .i64 r.epoch,.slice r.sa r.sn r.sc,.slice r.na r.nn r.nc] 152)
   refine (HC.out _ hba).mono ?_
   rintro e wc ⟨rfl,hbc⟩
   have hbr:Below wr.heap.size wr wc:=hba.trans (hbc.mono (by simp))
   have hbx:wc.heap[wr.heap.size]?=some (.cells #[.string r.name,.int .i64 r.mode,.int .i64 r.t,.int .i64 r.l,.int .i64 r.size,.int .i64 r.epoch,.slice r.sa r.sn r.sc,.slice r.na r.nn r.nc] 152):=by
    rw [hbc.block wr.heap.size (by simp)]
    show (wr.heap.push _)[wr.heap.size]?=_
    simp
   have x0:wc.cell? ⟨wr.heap.size,0,none⟩=some (.string r.name):=cq hbx rfl
   have x1:wc.cell? ⟨wr.heap.size,1,none⟩=some (.int .i64 r.mode):=cq hbx rfl
   have x2:wc.cell? ⟨wr.heap.size,2,none⟩=some (.int .i64 r.t):=cq hbx rfl
   have x3:wc.cell? ⟨wr.heap.size,3,none⟩=some (.int .i64 r.l):=cq hbx rfl
   have x4:wc.cell? ⟨wr.heap.size,4,none⟩=some (.int .i64 r.size):=cq hbx rfl
   have x5:wc.cell? ⟨wr.heap.size,5,none⟩=some (.int .i64 r.epoch):=cq hbx rfl
   have x6:wc.cell? ⟨wr.heap.size,6,none⟩=some (.slice r.sa r.sn r.sc):=cq hbx rfl
   have x7:wc.cell? ⟨wr.heap.size,7,none⟩=some (.slice r.na r.nn r.nc):=cq hbx rfl
   obtain ⟨old,hold,holdl,hset⟩:=qcV (qab HO.out (qaa.ofBelow (own:=fun _=>False) hbr nl) (fun _ _ h=>h)) i (by rw [qaL,←EN.out];exact hin)
   have HSET:=hid (hset r)
   have HSPW:=hid ((hsp.trans (qaa.ofBelow hbr nl)).trans (qb8 wc g (old.toList.take (i*8)++r.cells++old.toList.drop (i*8+8)).toArray))
   have HOLD:=hid hold
   clear hset hbx hold k0 k1 k2 k3 k4 k5 k6 k7
   go_wp2_with (first | (refine qcq rfl 152 (.tmp 33) (.tmp 32) rfl g (i*8) #[.string r.name,.int .i64 r.mode,.int .i64 r.t,.int .i64 r.l,.int .i64 r.size,.int .i64 r.epoch,.slice r.sa r.sn r.sc,.slice r.na r.nn r.nc] rfl rfl 152 old HOLD.out Tryz.cellsRec holdl (RecV.all_one r) ?_;(change wpList _ _ _ _ _ (wc.setRow g (old.toList.take (i*8)++r.cells++old.toList.drop (i*8+8)).toArray));generalize wc.setRow g (old.toList.take (i*8)++r.cells++old.toList.drop (i*8+8)).toArray=wd at *)|fail)
   go_roundw
   case rel =>
    refine ⟨_,_,_,_,_,_,_,_,_,_,_,_,_,_,_,_,_,_,_,_,_,_,_,⟨i+1,j+1,?_,?_,hid (by have:=EJ.out;omega),by omega,by have:=EJ.out;omega,?_,HSPW.out⟩,rfl⟩
    ·go_num
    ·go_num
    have h1:=HSET.out
    have h2:=qi5 rs p (i-p) (by have:=EJ.out;have:=EN.out;omega)
    rw [show p+(i-p)=i by omega,show i+1=j from EJ.out.symm,←HRR.out] at h2
    rw [h2,show i-p+1=i+1-p by omega] at h1
    exact h1
   case measure=>simp [intOf];omega
  ·have hjn':¬(j:Int)<(n:Int):=by omega
   have HII:=hid (show i=n-1 by have:=EJ.out;omega)
   have hz3:(i:Int)≤(n:Int):=by omega
   have hz4:(i:Int)≤(c:Int):=by have:=(qaP hown).choose_spec.2.2.2.1;omega
   have hci:¬c=i:=by have:=(qaP hown).choose_spec.2.2.2.1;omega
   have hni:¬n=i:=by omega
   obtain ⟨z,hz⟩:∃z:List Value,z=(Builtin.zeroCells (Value.agg #[.string ByteArray.empty,.int .i64 0,.int .i64 0,.int .i64 0,.int .i64 0,.int .i64 0,.slice none 0 0,.slice none 0 0]).cells (n-i)).toList:=⟨_,rfl⟩
   obtain ⟨we,hwe⟩:∃we,we=wr.setCells g (i*8) z:=⟨_,rfl⟩
   have hcl:∀ty,(Builtin.clear_ #[145] ty #[.slice (some ⟨g,i*8,none⟩) (n-i) (c-i)]).run Tryz.prog wr=.ok (.tuple #[]) we:=fun ty=>by
    obtain ⟨tl,h1,h2,h3,h4,h5,h6⟩:=qaP hown
    have h7:=qfv (P:=Tryz.prog) wr 145 152 ty _ Tryz.underlying145 Tryz.zeroValue152 (by simp [Value.cells,Value.oneCell']) g (i*8) (n-i) (c-i) (by omega)
     (fun q hq=>qbF h1 (by rw [h3];simp [Value.cells] at hq;omega)) (fun q _=>qam h1)
    rw [hwe,hz]
    exact h7
   have HE:=hid (show we.ownsRow 0 152 8 (.slice (some ⟨g,0,none⟩) (n-1) c) (n-1) (recs (rs.eraseIdx p))∧qaa (fun b=>b=g) w we from by
    have hzl:z.length=(n-i)*8:=by rw [hz];simp [Builtin.zeroCells,Value.cells]
    obtain ⟨tl,h1,h2,h3,h4,h5,h6⟩:=qaP hown
    have h7:=qjs hown (m:=i) (by omega) z (by rw [hzl];omega)
    have hT:(recs (qcd rs p (i-p))).take (i*8)=recs ((qcd rs p (i-p)).take i):=by
     have h9:(recs ((qcd rs p (i-p)).take i)).length=i*8:=by rw [qah,List.length_take,qaL,←EN.out,Nat.min_eq_left (by omega)]
     have h10:recs (qcd rs p (i-p))=recs ((qcd rs p (i-p)).take i)++recs ((qcd rs p (i-p)).drop i):=by rw [←qa7,List.take_append_drop]
     rw [h10,←h9,List.take_left]
    rw [←hwe,hT] at h7
    have h8:=qiW rs p (by rw [←EN.out];exact hp)
    rw [←EN.out,←HII.out] at h8
    rw [h8] at h7
    rw [←HII.out]
    exact ⟨h7,by rw [hwe];exact hsp.trans (qa4 (fun b=>b=g) g rfl _ _ wr)⟩)
   clear hown hwe hz
   go_wp2_with fail
   go_ret
   exact ⟨by rw [←HII.out];rfl,HE.out⟩
theorem qd3 {rs:List RecV} (h:Sorted rs) (nm:ByteArray) (hy:hasName rs nm=true) (k:Nat) (hk:k<rs.length) (hkp:k≠qai rs nm):(rs[k]!).name≠nm:=by
 intro e
 have hp:=qbz hy
 have hn:=qaS hy
 rcases Nat.lt_or_gt_of_ne hkp with hlt | hlt
 ·have:=h k _ hlt hp
  rw [hn,e,qaB.2 rfl] at this
  omega
 ·have:=h _ k hlt hk
  rw [hn,e,qaB.2 rfl] at this
  omega
theorem qeM {rs:List RecV} (h:Sorted rs) (nm:ByteArray) (hy:hasName rs nm=true):remR rs nm=rs.eraseIdx (qai rs nm):=by
 have hp:=qbz hy
 have hsplit:rs=rs.take (qai rs nm)++rs[qai rs nm]'hp :: rs.drop (qai rs nm+1):=by
  rw [List.getElem_cons_drop,List.take_append_drop]
 have hne:∀k (hk:k<rs.length),k≠qai rs nm→(rs[k]).name≠nm:=fun k hk hkp=>by
  have:=qd3 h nm hy k hk hkp
  rwa [getElem!_pos rs k hk] at this
 have hat:(rs[qai rs nm]'hp).name=nm:=by
  have:=qaS hy
  rwa [getElem!_pos rs _ hp] at this
 rw [List.eraseIdx_eq_take_drop_succ]
 unfold remR
 conv=>lhs;rw [hsplit]
 rw [List.filter_append,List.filter_cons_of_neg (by simp [hat])]
 congr 1
 ·rw [List.filter_eq_self]
  intro x hx
  obtain ⟨k,hk,rfl⟩:=List.getElem_of_mem hx
  rw [List.length_take] at hk
  rw [List.getElem_take]
  simp [hne k (by omega) (by omega)]
 ·rw [List.filter_eq_self]
  intro x hx
  obtain ⟨k,hk,rfl⟩:=List.getElem_of_mem hx
  rw [List.length_drop] at hk
  rw [List.getElem_drop]
  simp [hne (qai rs nm+1+k) (by omega) (by omega)]
theorem wpList_store_one {P:Program} {ops:Array Oper} {rest:List Oper} {o:Oper} {a:Act} {w:World} {Q:Exit→Act→World→Prop} (hgd:o.guard=none) (ty:TypeId) (x y:Operand) (ho:o.op=.store ty x y)
  (b off:Nat) (u:Value) (hx:a.eval x=.pointer (some ⟨b,off,none⟩)) (hy:a.eval y=u) (hu:u.oneCell'=true) (huc:u.cells=#[u]) (hi:(P.info? ty).map (·.size)=some 1)
  (old:Value) (hc:w.cell? ⟨b,off,none⟩=some old) (hf:w.frozen? ⟨b,off,none⟩=false)
  (h:wpList P ops Q rest (a.put o.dst undef) (w.setCell ⟨b,off,none⟩ u)):wpList P ops Q (o :: rest) a w :=
 wpList_plain hgd fun _ hK=>qaF ty x y ho b off u hx hy hu huc hi old hc hf (hK _ _ h)
theorem qgm (S:Nat) (down:Bool) (v:Value) (rs:List RecV) (r:RecV) (w:World) (h:Sto w S down v rs) (v':Value) (rs':List RecV) (hob:v'.ownBlock=v.ownBlock) (hv1:v'.oneCell'=true∧v'.cells=#[v'])
  (hdel:∀X w',w'.cell? ⟨X,0,none⟩=some (.string r.name)→X<w'.heap.size→v.ownBlock≠some X→Sto w' S down v rs →
   Calls Tryz.prog 221 #[v,.func (.func 222) #[] #[.pointer (some ⟨X,0,none⟩)]] w' fun e w''=>e=.returned v'∧w''.ownsRow 0 152 8 v' rs'.length (recs rs')∧qaa (fun b=>v.ownBlock=some b) w' w'')
  (hso:Sorted rs') (hle:rs'.length≤10) :
  Calls Tryz.prog 182 #[.pointer (some ⟨S,0,none⟩),r.val] w fun e w' =>
   e=.returned (.tuple #[])∧Sto w' S down v' rs'∧qaa (fun b=>b=S∨v.ownBlock=some b) w w':=by
 have hba:=(Below.refl w.heap.size w).alloc nl (.cells #[.string r.name,.int .i64 r.mode,.int .i64 r.t,.int .i64 r.l,.int .i64 r.size,.int .i64 r.epoch,.slice r.sa r.sn r.sc,.slice r.na r.nn r.nc] 152)
 have hSlt:=cells_lt h.hp
 have hvS:v.ownBlock≠some S:=fun e=>h.ne S e rfl
 have hvlt:∀b,v.ownBlock=some b→b<w.heap.size:=fun b hb=>(h.row.lt b hb).2
 have HD:=hid (hdel w.heap.size _ (by rw [World.cell?_alloc_at _ _ _ _ rfl];rfl) (by simp) (fun e=>by have:=hvlt _ e;omega) (h.keeps (qaa.ofBelow (own:=fun _=>False) hba nl) (fun h=>h) (fun _ _ h=>h)))
 have c1:w.cell? ⟨S,1,none⟩=some v:=cq h.hp rfl
 have c1':=(hba.cell (p:=⟨S,1,none⟩) hSlt).trans c1
 have HS:=hid h
 clear h hdel c1
 unfold RecV.val
 go_enter Tryz.func182,Tryz.ntmps182
 go_wp2_with fail
 refine HD.out.mono ?_
 rintro e w1 ⟨rfl,hrow,hsp⟩
 have hS1:w1.heap[S]?=some (.cells #[.bool down,v] 178):=hsp.heap (by rw [hba.block S hSlt];exact HS.out.hp) hvS
 have d1:w1.cell? ⟨S,1,none⟩=some v:=cq hS1 rfl
 have f1:w1.frozen? ⟨S,1,none⟩=false:=qam hS1
 have HE:=hid (show Sto (w1.setCell ⟨S,1,none⟩ v') S down v' rs'∧qaa (fun b=>b=S∨v.ownBlock=some b) w (w1.setCell ⟨S,1,none⟩ v') from
  ⟨⟨qan _ hS1,qab hrow ((qaa.refl (fun b=>b=S) w1).setCell (p:=⟨S,1,none⟩) rfl _) (fun b hb e=>by rw [hob] at hb;exact hvS (by rw [hb,e])),hso,hle⟩,
   ((qaa.ofBelow hba nl).trans (hsp.mono fun k hk=>.inr hk)).setCell (p:=⟨S,1,none⟩) (.inl rfl) _⟩)
 clear hS1 hrow
 go_wp2_with (first | (refine wpList_store_one rfl 145 (.tmp 12) (.tmp 10) rfl S 1 v' rfl rfl hv1.1 hv1.2 (by kernel_rfl) v d1 f1 ?_;generalize w1.setCell ⟨S,1,none⟩ v'=w2 at *)|fail)
 exact bodyPost_end (by simp [results,Tryz.results182,go_sem]) rfl ⟨rfl,HE.out⟩
theorem qj9 {w:World} {base n size:Nat} {e:TypeId} {L:List Value} {v:Value} (h:w.ownsRow base e size v n L):v.oneCell'=true∧v.cells=#[v]:=by
 obtain ⟨a,c,rfl,_⟩:=qad h
 exact ⟨rfl,rfl⟩
theorem qhR (S:Nat) (down:Bool) (v:Value) (rs:List RecV) (r:RecV) (w:World) (h:Sto w S down v rs) :
  Calls Tryz.prog 182 #[.pointer (some ⟨S,0,none⟩),r.val] w fun e w' =>
   e=.returned (.tuple #[])∧∃v',Sto w' S down v' (remR rs r.name)∧v'.ownBlock=v.ownBlock∧qaa (fun b=>b=S∨v.ownBlock=some b) w w':=by
 have h10:=h.le
 cases hy:hasName rs r.name with
 | false =>
  rw [qj6 h.so r.name hy]
  refine (qgm S down v rs r w h v rs rfl (qj9 h.row) (fun X w' hX hlt _ hs=>?_) h.so h.le).mono ?_
  ·refine (ql5 v rs.length X rs r.name w' rfl hs.row (by omega) (fun k hk e=>?_) hX hlt).mono ?_
   ·have:=(qay h.so r.name).2 ⟨rs[k]!,by rw [getElem!_pos rs k hk];exact List.getElem_mem _,e⟩
    rw [hy] at this
    cases this
   ·rintro e w'' ⟨rfl,hb⟩
    exact ⟨rfl,qab hs.row (qaa.ofBelow (own:=fun _=>False) hb nl) (fun _ _ h=>h),qaa.ofBelow hb nl⟩
  ·rintro e w' ⟨rfl,h1,h2⟩
   exact ⟨rfl,v,h1,rfl,h2⟩
 | true =>
  have hp:=qbz hy
  rw [qeM h.so r.name hy]
  have hso:=qer h.so r.name
  rw [qeM h.so r.name hy] at hso
  have hel:(rs.eraseIdx (qai rs r.name)).length=rs.length-1:=by rw [List.length_eraseIdx,if_pos hp]
  obtain ⟨g,c,rfl,_,_⟩:=qb4 h.row (by omega)
  refine (qgm S down _ rs r w h (.slice (some ⟨g,0,none⟩) (rs.length-1) c) (rs.eraseIdx (qai rs r.name)) rfl ⟨rfl,rfl⟩ (fun X w' hX hlt hne hs=>?_) hso (by omega)).mono ?_
  ·refine (qkS g rs.length c (qai rs r.name) X rs r.name w' rfl hs.row (by omega) hp (qaS hy) (fun k hk hkp=>qd3 h.so r.name hy k hk hkp) hX hlt (fun e=>hne (by rw [e];rfl))).mono ?_
   rintro e w'' ⟨rfl,h1,h2⟩
   rw [hel]
   exact ⟨rfl,h1,h2.mono fun k hk=>by rw [hk];rfl⟩
  ·rintro e w' ⟨rfl,h1,h2⟩
   exact ⟨rfl,_,h1,rfl,h2⟩
def RecV.count (r:RecV):Nat:=if r.na=none then 1 else 2
theorem count_any (r:RecV) (w:World) :
  Calls Tryz.prog 158 #[.agg #[.string r.name,.int .i64 r.mode,.int .i64 r.t,.int .i64 r.l,.int .i64 r.size,.int .i64 r.epoch,.slice r.sa r.sn r.sc,.slice r.na r.nn r.nc]] w fun e w'=>e=.returned (.int .u8 r.count)∧Below w.heap.size w w':=by
 have HB:=hid ((Below.refl w.heap.size w).alloc nl (.cells #[.string r.name,.int .i64 r.mode,.int .i64 r.t,.int .i64 r.l,.int .i64 r.size,.int .i64 r.epoch,.slice r.sa r.sn r.sc,.slice r.na r.nn r.nc] 152))
 have HC:=hid (show r.count=if r.na=none then 1 else 2 from rfl)
 have hEQ:∀(w:World) (a:Option Addr) (n c:Nat),(binOp .eql 50 (.slice a n c) (.slice none 0 0)).run Tryz.prog w=.ok (.bool a.isNone) w:=fun w a n c=>Lib.run_eql_slice_nil w _ _ a n c 0 0 Tryz.underlying50
 generalize r.count=x at *
 obtain ⟨name,mode,t,l,size,epoch,sa,sn,sc,na,nn,nc⟩:=r
 simp only at HB HC ⊢
 cases na with
 | none =>
  have hx:=HC.out
  rw [if_pos rfl] at hx
  subst hx
  go_enter Tryz.func158,Tryz.ntmps158
  go_wp2_with fail
  go_ret
  exact ⟨rfl,HB.out⟩
 | some ad =>
  have hx:=HC.out
  rw [if_neg (by simp)] at hx
  subst hx
  go_enter Tryz.func158,Tryz.ntmps158
  go_wp2_with fail
  go_ret
  exact ⟨rfl,HB.out⟩
structure Tell (w:World) (n i:Nat) (r:RecV) (X Y:List UInt8):Prop where
 plan:qaj r.mode r.t r.l n
 ep:r.epoch≤100
 sz:r.size≤60
 nm:r.name.size≤12
 sh:Rd w r.sa (bs X)∧X.length=r.sn∧r.sn≤5000∧(r.sa=none→r.sc=0)
 nx:Rd w r.na (bs Y)∧Y.length=r.nn∧r.nn≤5000∧(r.na=none→r.nc=0)
theorem Tell.keeps {w w':World} {n i:Nat} {r:RecV} {X Y:List UInt8} (h:Tell w n i r X Y) (hb:Below w.heap.size w w'):Tell w' n i r X Y :=
 ⟨h.plan,h.ep,h.sz,h.nm,⟨h.sh.1.below hb nl,h.sh.2⟩,⟨h.nx.1.below hb nl,h.nx.2⟩⟩
def qel (n i:Nat) (r:RecV) (X Y:List UInt8):List UInt8:=UInt8.ofNat r.count :: (Cof.head r.mode r.t r.l n i r.epoch r.size r.name.data.toList++X++Y)
def qez (I:List UInt8) (n i:Nat) (r:RecV) (X Y:List UInt8):Nat→List UInt8
 | 0=>I
 | 1=>[UInt8.ofNat r.count]
 | 2=>Cof.head r.mode r.t r.l n i r.epoch r.size r.name.data.toList
 | 3=>X
 | _=>Y
theorem qg2 (I:List UInt8) (n i:Nat) (r:RecV) (X Y:List UInt8):flat (qez I n i r X Y) 5=I++qel n i r X Y:=by
 simp [flat,qez,qel,List.range_succ]
def qbT (n i:Nat) (rs:List RecV) (X Y:Nat→List UInt8):Nat→List UInt8
 | 0=>[]
 | k+1=>qbT n i rs X Y k++qel n i (rs[k]!) (X k) (Y k)
def Row5 (w:World) (a:Option Addr) (n c:Nat) (X:List UInt8):Prop:=Rd w a (bs X)∧X.length=n∧n≤5000∧(a=none→c=0)
theorem Row5.keeps {w w':World} {a:Option Addr} {n c:Nat} {X:List UInt8} (h:Row5 w a n c X) (hb:Below w.heap.size w w'):Row5 w' a n c X:=⟨h.1.below hb nl,h.2⟩
theorem qfT {w:World} {base n:Nat} {v:Value} {X:List UInt8} (h:w.ownsRow base 5 1 v n (bs X)) (hn:n≤5000):∃a c,v=.slice a n c∧Row5 w a n c X:=by
 have h1:=h.1
 rw [qag,Nat.mul_one] at h1
 obtain ⟨a,c,rfl,hrd⟩:=qad h
 refine ⟨a,c,rfl,hrd,h1,hn,fun e=>?_⟩
 rcases h.2 with ⟨h8,_⟩|⟨g',cap,cur,h8,_⟩
 ·cases h8;rfl
 ·cases h8;cases e
def imV (T W0:Nat) (r:RecV) (a0 ah:Option Addr) (n0 c0 nh ch:Nat) (Z:List UInt8):Nat→Value→World→Prop
 | 0,v,_=>v=.slice a0 n0 c0
 | 1,v,_=>v=.agg #[.string r.name,.int .i64 r.mode,.int .i64 r.t,.int .i64 r.l,.int .i64 r.size,.int .i64 r.epoch,.slice r.sa r.sn r.sc,.slice r.na r.nn r.nc]
 | 2,v,_=>v=.int .u8 r.count
 | 3,v,w=>∃b1,v=.slice (some ⟨b1,0,none⟩) 1 1∧w.heap[b1]?=some (.cells #[.int .u8 r.count] 5)
 | 4,v,_=>v=.slice ah nh ch
 | 5,v,_=>v=.pointer (some ⟨T,6,none⟩)
 | 6,v,_=>v=.slice r.sa r.sn r.sc
 | 7,v,_=>v=.pointer (some ⟨T,7,none⟩)
 | 8,v,_=>v=.slice r.na r.nn r.nc
 | 9,v,w=>∃b2 b1,v=.slice (some ⟨b2,0,none⟩) 5 5∧w.heap[b2]?=some (.cells #[.slice a0 n0 c0,.slice (some ⟨b1,0,none⟩) 1 1,.slice ah nh ch,.slice r.sa r.sn r.sc,.slice r.na r.nn r.nc] 50)∧w.heap[b1]?=some (.cells #[.int .u8 r.count] 5)
 | 10,v,w=>w.ownsRow W0 5 1 v Z.length (bs Z)
 | 11,v,w=>w.ownsRow W0 5 1 v Z.length (bs Z)
 | _,_,_=>True
def imS (i:Nat):Nat:=if i=11 then 7 else i+23
theorem qjE (T W0:Nat) (r:RecV) (a0 ah:Option Addr) (n0 c0 nh ch:Nat) (Z:List UInt8) (j:Nat) (v:Value) (w w':World) (h:imV T W0 r a0 ah n0 c0 nh ch Z j v w) (hs:qaa (fun _=>False) w w'):imV T W0 r a0 ah n0 c0 nh ch Z j v w':=by
 unfold imV at h ⊢
 split at h
 ·exact h
 ·exact h
 ·exact h
 ·obtain ⟨b1,h1,h2⟩:=h
  exact ⟨b1,h1,hs.heap h2 (fun h=>h)⟩
 ·exact h
 ·exact h
 ·exact h
 ·exact h
 ·exact h
 ·obtain ⟨b2,b1,h1,h2,h3⟩:=h
  exact ⟨b2,b1,h1,hs.heap h2 (fun h=>h),hs.heap h3 (fun h=>h)⟩
 ·exact qab h hs (fun _ _ h=>h)
 ·exact qab h hs (fun _ _ h=>h)
 ·trivial
theorem arr36 (t:Array Value) (h:t.size=36):∃u0 u1 u2 u3 u4 u5 u6 u7 u8 u9 u10 u11 u12 u13 u14 u15 u16 u17 u18 u19 u20 u21 u22 u23 u24 u25 u26 u27 u28 u29 u30 u31 u32 u33 u34 u35:Value,t=#[u0,u1,u2,u3,u4,u5,u6,u7,u8,u9,u10,u11,u12,u13,u14,u15,u16,u17,u18,u19,u20,u21,u22,u23,u24,u25,u26,u27,u28,u29,u30,u31,u32,u33,u34,u35]:=⟨_,_,_,_,_,_,_,_,_,_,_,_,_,_,_,_,_,_,_,_,_,_,_,_,_,_,_,_,_,_,_,_,_,_,_,_,qco t 36 h⟩
theorem qjP (a:Option Addr) (m c n i:Nat) (rs:List RecV) (X Y:Nat→List UInt8) (w:World) (em:m=rs.length) (hm:m≤10) (hi:i<n) (hr:Rd w a (recs rs)) (ht:∀k,k<m→Tell w n i (rs[k]!) (X k) (Y k)) (hI:∀k,k≤m→(qbT n i rs X Y k).length≤5000) :
  Calls Tryz.prog 108 #[.slice a m c,.int .i64 n,.int .i64 i] w fun e w'=>∃v,e=.returned v∧w'.ownsRow w.heap.size 5 1 v (qbT n i rs X Y m).length (bs (qbT n i rs X Y m))∧Below w.heap.size w w':=by
 have EM:=hid em
 have HR:=hid hr
 have HT:=hid ht
 have HIM:=hid hI
 clear em hr ht hI
 go_enter Tryz.func108,Tryz.ntmps108
 go_wp2_with fail
 go_loopw [7,13] (fun v u wr=>∃k:Nat,u=.int .i64 k∧k≤m∧wr.ownsRow w.heap.size 5 1 v (qbT n i rs X Y k).length (bs (qbT n i rs X Y k))∧Below w.heap.size w wr) (fun _ u _=>m-(intOf u).toNat)
 case atStart=>exact ⟨0,rfl,Nat.zero_le _,⟨rfl,.inl ⟨rfl,rfl⟩⟩,bl⟩
 case round =>
  obtain ⟨k,rfl,hkm,hown,hbel⟩:=hrel
  by_cases hlt:k<m
  ·have hlt':(k:Int)<(m:Int):=by omega
   obtain ⟨b,o,rfl,hb,_⟩:=HR.out.pos (by rw [qah,←EM.out];omega)
   obtain ⟨_,k0,k1,k2,k3,k4,k5,k6,k7⟩:=qcY (HR.out.below hbel nl) k (by rw [←EM.out];omega)
   have hT:=(HT.out k hlt).keeps hbel
   obtain ⟨r,hr⟩:∃r,r=rs[k]! := ⟨_,rfl⟩
   rw [←hr] at k0 k1 k2 k3 k4 k5 k6 k7 hT
   have HRR:=hid hr
   clear hr
   have HO:=hid hown
   have HTT:=hid hT
   have HHD:=hid (fun w'=>qfm r.mode r.t r.l n i r.epoch r.size r.name w' hT.plan hi hT.ep hT.sz hT.nm)
   clear hown hT
   go_wp2_with fail
   refine (HHD.out _).mono ?_
   rintro e w2 ⟨hv,rfl,hhd,hb2⟩
   have HH:=hid hhd
   clear hhd
   go_wp2_with fail
   obtain ⟨ah,ch,rfl,hrh⟩:=qfT HH.out (by have:=HTT.out.nm;omega)
   obtain ⟨a0,c0,rfl,hr0⟩:=qfT HO.out (HIM.out k hkm)
   have HI1:=hid (HIM.out (k+1) hlt)
   obtain ⟨n0,hn0⟩:∃n0,n0=(qbT n i rs X Y k).length:=⟨_,rfl⟩
   obtain ⟨nh,hnh⟩:∃nh,nh=10+r.name.size:=⟨_,rfl⟩
   rw [←hn0] at hr0 ⊢
   rw [←hnh] at hrh ⊢
   obtain ⟨T,hT⟩:∃T,T=wr.heap.size:=⟨_,rfl⟩
   have HBX:=hid ((hb2.block wr.heap.size (by simp)).trans (alloc_at wr _))
   have hbr2:Below wr.heap.size wr w2:=((Below.refl wr.heap.size wr).alloc nl _).trans (hb2.mono (by simp))
   have HR0:=hid (hr0.keeps hbr2)
   have HRH:=hid hrh
   have HSH:=hid (show Row5 w2 r.sa r.sn r.sc (X k) from ⟨HTT.out.sh.1.below hbr2 nl,HTT.out.sh.2⟩)
   have HNX:=hid (show Row5 w2 r.na r.nn r.nc (Y k) from ⟨HTT.out.nx.1.below hbr2 nl,HTT.out.nx.2⟩)
   have hbw2:Below w.heap.size w w2:=hbel.trans (hbr2.mono hbel.size)
   have HN0:=hid hn0
   rw [←hT] at HBX ⊢
   clear hr0 hrh hn0 hnh hT k0 k1 k2 k3 k4 k5 k6 k7 HH HO
   obtain ⟨Z,hZ⟩:∃Z,Z=qbT n i rs X Y k++qel n i r (X k) (Y k):=⟨_,rfl⟩
   have HZ:=hid hZ
   clear hZ
   have HC:∀w':World,qaa (fun b=>∃_:Nat,False) { w2 with drawn:=w2.drawn+1 } w'→w'.cell? ⟨T,0,none⟩=some (.string r.name)∧w'.cell? ⟨T,1,none⟩=some (.int .i64 r.mode)∧w'.cell? ⟨T,2,none⟩=some (.int .i64 r.t)∧w'.cell? ⟨T,3,none⟩=some (.int .i64 r.l)∧w'.cell? ⟨T,4,none⟩=some (.int .i64 r.size)∧w'.cell? ⟨T,5,none⟩=some (.int .i64 r.epoch)∧w'.cell? ⟨T,6,none⟩=some (.slice r.sa r.sn r.sc)∧w'.cell? ⟨T,7,none⟩=some (.slice r.na r.nn r.nc):=by
    intro w' hs
    have hh:=hs.heap (b:=T) HBX.out (by rintro ⟨_,h⟩;exact h)
    exact ⟨cq hh rfl,cq hh rfl,cq hh rfl,cq hh rfl,cq hh rfl,cq hh rfl,cq hh rfl,cq hh rfl⟩
   have MK:∀(j:Nat) (a:Act) (w':World) (o:Oper),a.tmps.size=36→j<12→qbc Tryz.prog o a w' (fun u w''=>qaa (fun _=>False) w' w''∧imV T w.heap.size r a0 ah n0 c0 nh ch Z j u w'')→qbc Tryz.prog o a w' (fun u w''=>qaa (fun _=>False) w' w''∧imV T w.heap.size r a0 ah n0 c0 nh ch Z j ((a.put (some (imS j)) u).tmps.getD (imS j) undef) w''):=by
    intro j a w' o hsz hj hh
    refine hh.weaken fun u w'' hp=>⟨hp.1,?_⟩
    rw [put_eq _ _ _ (by unfold imS;split<;>omega)]
    exact hp.2
   refine qfu (by kernel_rfl) imS (fun j a w'=>imV T w.heap.size r a0 ah n0 c0 nh ch Z j (a.tmps.getD (imS j) undef) w') (fun _ _=>True) (fun _ _=>False) [(0,.slice (some ⟨b,o,none⟩) m c),(1,.int .i64 n),(2,.int .i64 i),(3,undef),(4,undef),(5,undef),(6,.slice none 0 0),(7,.slice a0 n0 c0),(8,undef),(9,.pointer (some ⟨T,0,none⟩)),(10,.slice ah nh ch),(11,.slice (some ⟨b,o,none⟩) m c),(12,.int .i64 m),(13,.int .i64 k),(35,undef)] 36 (fun j=>if j=0 then [7] else if j=1∨j=5∨j=7 then [9] else if j=4 then [10] else []) (by kernel_rfl) rfl rfl ?_ (fun _ _=>trivial) ?_ (fun _ _ _ _ _ _ _ _=>trivial) ?_ ?_
   ·simp
   ·intro p q ac u w3 w4 _ hpq _ _ hr hs hsl
    rw [qhA _ _ _ _ hsl]
    exact qjE _ _ _ _ _ _ _ _ _ _ _ _ w3 w4 hr hs
   ·refine ⟨?_,?_,?_,?_,?_,?_,?_,?_,?_,?_,?_,?_,trivial⟩
    ·intro ac w' hsz hs hf hd2 hu
     have hd:=fun e he hb=>(hd2 e he hb).1
     refine MK 0 ac w' _ hsz (by decide) ?_
     clear hsz
     have f7:ac.tmps[7]?.getD undef=.slice a0 n0 c0:=by simpa using hf (7,.slice a0 n0 c0) (by simp) rfl
     simp [imV,imS,Region.binds] at hd
     exact .inl ⟨.slice a0 n0 c0,w',by go_simp,sr,rfl⟩
    ·intro ac w' hsz hs hf hd2 hu
     have hd:=fun e he hb=>(hd2 e he hb).1
     refine MK 1 ac w' _ hsz (by decide) ?_
     clear hsz
     have f9:ac.tmps[9]?.getD undef=.pointer (some ⟨T,0,none⟩):=by simpa using hf (9,.pointer (some ⟨T,0,none⟩)) (by simp) rfl
     obtain ⟨k0,k1,k2,k3,k4,k5,k6,k7⟩:=HC w' hs
     simp [imV,imS,Region.binds] at hd
     exact .inl ⟨.agg #[.string r.name,.int .i64 r.mode,.int .i64 r.t,.int .i64 r.l,.int .i64 r.size,.int .i64 r.epoch,.slice r.sa r.sn r.sc,.slice r.na r.nn r.nc],w',by go_simp,sr,rfl⟩
    ·intro ac w' hsz hs hf hd2 hu
     have hd:=fun e he hb=>(hd2 e he hb).1
     refine MK 2 ac w' _ hsz (by decide) ?_
     clear hsz
     simp [imV,imS,Region.binds] at hd
     refine .inr ⟨158,#[.agg #[.string r.name,.int .i64 r.mode,.int .i64 r.t,.int .i64 r.l,.int .i64 r.size,.int .i64 r.epoch,.slice r.sa r.sn r.sc,.slice r.na r.nn r.nc]],by go_simp,(count_any r w').mono ?_⟩
     rintro e w'' ⟨rfl,hb3⟩
     exact ⟨_,rfl,qaa.ofBelow hb3 nl,rfl⟩
    ·intro ac w' hsz hs hf hd2 hu
     have hd:=fun e he hb=>(hd2 e he hb).1
     refine MK 3 ac w' _ hsz (by decide) ?_
     clear hsz
     simp [imV,imS,Region.binds] at hd
     refine .inl ⟨.slice (some ⟨w'.heap.size,0,none⟩) 1 1,w'.alloc (.cells #[.int .u8 r.count] 5),by go_simp,qaa.ofBelow ((Below.refl _ _).alloc nl _) nl,w'.heap.size,rfl,alloc_at _ _⟩
    ·intro ac w' hsz hs hf hd2 hu
     have hd:=fun e he hb=>(hd2 e he hb).1
     refine MK 4 ac w' _ hsz (by decide) ?_
     clear hsz
     have f10:ac.tmps[10]?.getD undef=.slice ah nh ch:=by simpa using hf (10,.slice ah nh ch) (by simp) rfl
     simp [imV,imS,Region.binds] at hd
     exact .inl ⟨.slice ah nh ch,w',by go_simp,sr,rfl⟩
    ·intro ac w' hsz hs hf hd2 hu
     have hd:=fun e he hb=>(hd2 e he hb).1
     refine MK 5 ac w' _ hsz (by decide) ?_
     clear hsz
     have f9:ac.tmps[9]?.getD undef=.pointer (some ⟨T,0,none⟩):=by simpa using hf (9,.pointer (some ⟨T,0,none⟩)) (by simp) rfl
     simp [imV,imS,Region.binds] at hd
     exact .inl ⟨.pointer (some ⟨T,6,none⟩),w',by go_simp,sr,rfl⟩
    ·intro ac w' hsz hs hf hd2 hu
     have hd:=fun e he hb=>(hd2 e he hb).1
     refine MK 6 ac w' _ hsz (by decide) ?_
     clear hsz
     obtain ⟨k0,k1,k2,k3,k4,k5,k6,k7⟩:=HC w' hs
     simp [imV,imS,Region.binds] at hd
     exact .inl ⟨.slice r.sa r.sn r.sc,w',by go_simp,sr,rfl⟩
    ·intro ac w' hsz hs hf hd2 hu
     have hd:=fun e he hb=>(hd2 e he hb).1
     refine MK 7 ac w' _ hsz (by decide) ?_
     clear hsz
     have f9:ac.tmps[9]?.getD undef=.pointer (some ⟨T,0,none⟩):=by simpa using hf (9,.pointer (some ⟨T,0,none⟩)) (by simp) rfl
     simp [imV,imS,Region.binds] at hd
     exact .inl ⟨.pointer (some ⟨T,7,none⟩),w',by go_simp,sr,rfl⟩
    ·intro ac w' hsz hs hf hd2 hu
     have hd:=fun e he hb=>(hd2 e he hb).1
     refine MK 8 ac w' _ hsz (by decide) ?_
     clear hsz
     obtain ⟨k0,k1,k2,k3,k4,k5,k6,k7⟩:=HC w' hs
     simp [imV,imS,Region.binds] at hd
     exact .inl ⟨.slice r.na r.nn r.nc,w',by go_simp,sr,rfl⟩
    ·intro ac w' hsz hs hf hd2 hu
     have hd:=fun e he hb=>(hd2 e he hb).1
     refine MK 9 ac w' _ hsz (by decide) ?_
     clear hsz
     simp [imV,imS,Region.binds] at hd
     obtain ⟨d0,⟨b1,d1,d1h⟩,d2,d3,d4⟩:=hd
     refine .inl ⟨.slice (some ⟨w'.heap.size,0,none⟩) 5 5,w'.alloc (.cells #[.slice a0 n0 c0,.slice (some ⟨b1,0,none⟩) 1 1,.slice ah nh ch,.slice r.sa r.sn r.sc,.slice r.na r.nn r.nc] 50),by go_simp,qaa.ofBelow ((Below.refl _ _).alloc nl _) nl,w'.heap.size,b1,rfl,alloc_at _ _,?_⟩
     exact (((Below.refl w'.heap.size w').alloc nl _).block b1 (cells_lt d1h)).trans d1h
    ·intro ac w' hsz hs hf hd2 hu
     have hd:=fun e he hb=>(hd2 e he hb).1
     refine MK 10 ac w' _ hsz (by decide) ?_
     clear hsz
     simp [imV,imS,Region.binds] at hd
     obtain ⟨⟨b2,d9,b1,d9h,d9b⟩,_⟩:=hd
     have hbb:Below w2.heap.size w2 w':=(Below.refl w2.heap.size w2).drew.trans (hs.below _ nl (by rintro k ⟨_,h⟩;exact h.elim))
     have hcc:∀q,q<5→w'.cell? ⟨b2,q,none⟩=some (.slice (match q with | 0=>a0 | 1=>some ⟨b1,0,none⟩|2=>ah | 3=>r.sa | _=>r.na) (match q with | 0=>n0 | 1=>1 | 2=>nh | 3=>r.sn | _=>r.nn) (match q with | 0=>c0 | 1=>1 | 2=>ch | 3=>r.sc | _=>r.nc))∧Row5 w' (match q with | 0=>a0 | 1=>some ⟨b1,0,none⟩|2=>ah | 3=>r.sa | _=>r.na) (match q with | 0=>n0 | 1=>1 | 2=>nh | 3=>r.sn | _=>r.nn) (match q with | 0=>c0 | 1=>1 | 2=>ch | 3=>r.sc | _=>r.nc) (qez (qbT n i rs X Y k) n i r (X k) (Y k) q):=by
      intro q hq
      rcases show q=0∨q=1∨q=2∨q=3∨q=4 by omega with rfl | rfl | rfl | rfl | rfl
      ·exact ⟨cq d9h rfl,HR0.out.keeps hbb⟩
      ·refine ⟨cq d9h rfl,fun j u hj=>⟨b1,0,rfl,cells_lt d9b,?_⟩,rfl,show (1:Nat)≤5000 by decide,nofun⟩
       rw [Nat.zero_add,cells_at d9b,←hj]
       have hc8:(UInt8.ofNat r.count).toNat=r.count:=by unfold RecV.count;split<;>rfl
       simp only [qez,bs,List.map_cons,List.map_nil,hc8]
       simp
      ·exact ⟨cq d9h rfl,HRH.out.keeps hbb⟩
      ·exact ⟨cq d9h rfl,HSH.out.keeps hbb⟩
      ·exact ⟨cq d9h rfl,HNX.out.keeps hbb⟩
     refine .inr ⟨157,#[.slice (some ⟨b2,0,none⟩) 5 5],by go_simp,(qj1 b2 5 5 _ _ _ (qez (qbT n i rs X Y k) n i r (X k) (Y k)) w' (cells_lt d9h) (by decide) (fun q hq=>⟨(hcc q hq).1,(hcc q hq).2.1,(hcc q hq).2.2.1,(hcc q hq).2.2.2.1,(hcc q hq).2.2.2.2⟩)).mono ?_⟩
     rintro e w'' ⟨v,rfl,hown,hb3⟩
     rw [qg2,←HZ.out] at hown
     exact ⟨_,rfl,qaa.ofBelow hb3 nl,World.ownsRow.mono hown (by have:=hbb.size;have:=hbw2.size;omega)⟩
    ·intro ac w' hsz hs hf hd2 hu
     have hd:=fun e he hb=>(hd2 e he hb).1
     refine MK 11 ac w' _ hsz (by decide) ?_
     clear hsz
     simp [imV,imS,Region.binds] at hd
     obtain ⟨d10,_⟩:=hd
     exact .inl ⟨ac.tmps[33]?.getD undef,w',by go_simp,sr,d10⟩
   ·intro ac w' hdf hsz hsp hfx hr
    have r11:=hr 11 (by decide)
    have hF:∀x∈[(0,.slice (some ⟨b,o,none⟩) m c),(1,.int .i64 n),(2,.int .i64 i),(3,undef),(4,undef),(5,undef),(6,.slice none 0 0),(7,.slice a0 n0 c0),(8,undef),(9,.pointer (some ⟨T,0,none⟩)),(10,.slice ah nh ch),(11,.slice (some ⟨b,o,none⟩) m c),(12,.int .i64 m),(13,.int .i64 k),(35,undef)],x.1≠7→ac.tmps.getD x.1 undef=x.2:=fun x hx h7=>hfx x hx (fun q hq e=>by
     unfold imS at e
     simp only [List.mem_cons,List.not_mem_nil,or_false] at hx
     split at e
     ·exact h7 e.symm
     ·rcases hx with rfl | rfl | rfl | rfl | rfl | rfl | rfl | rfl | rfl | rfl | rfl | rfl | rfl | rfl | rfl<;>simp at e<;>(have:q<12:=hq)<;>omega)
    obtain ⟨tm,df⟩:=ac
    simp only at hdf hsz r11 hF
    subst hdf
    obtain ⟨y0,y1,y2,y3,y4,y5,y6,y7,y8,y9,y10,y11,y12,y13,y14,y15,y16,y17,y18,y19,y20,y21,y22,y23,y24,y25,y26,y27,y28,y29,y30,y31,y32,y33,y34,y35,rfl⟩:=arr36 tm hsz
    simp [imV,imS] at r11
    simp at hF
    obtain ⟨rfl,rfl,rfl,rfl,rfl,rfl,rfl,rfl,rfl,rfl,rfl,rfl,rfl,rfl⟩:=hF
    have hbF:Below w.heap.size w w':=hbw2.drew.trans ((hsp.below w2.heap.size nl (by rintro k ⟨_,h⟩;exact h.elim)).mono hbw2.size)
    have HF:=hid (show w'.ownsRow w.heap.size 5 1 y7 (qbT n i rs X Y (k+1)).length (bs (qbT n i rs X Y (k+1))) from by
     have e:qbT n i rs X Y (k+1)=Z:=by rw [HZ.out,HRR.out];rfl
     rw [e]
     exact r11)
    clear hr hfx hsz r11
    go_wp2_with fail
    go_roundw
    case rel=>exact ⟨k+1,by go_num,by omega,HF.out,hbF⟩
    case measure=>simp [intOf];omega
  ·have hkm':¬(k:Int)<(m:Int):=by omega
   have HKM:=hid (show k=m by omega)
   have HO:=hid hown
   clear hown
   go_wp2_with fail
   go_ret
   refine ⟨_,rfl,?_,hbel⟩
   rw [←HKM.out]
   exact HO.out
end Go.Proofs.YtcegdgmbponapaaGreatDoor