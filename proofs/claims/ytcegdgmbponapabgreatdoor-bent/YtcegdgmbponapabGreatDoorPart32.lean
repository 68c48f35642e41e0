/-
  cofferkeep.do: Refresh.
  cofferkeep.do over a coffer with several objects: what it did.
  Epochs that cannot be, told.
  A region that draws its order, makes one variable and writes it, with what an operation of it built.
-/
import Derived.Test.YtcegdgmbponapabGreatDoorPart31
namespace Go.Proofs.YtcegdgmbponapabGreatDoor
open Go.RowKit
attribute [local go_sem ↓] Go.wp_at_zero Go.wp_at_succ
set_option maxRecDepth 100000 in
set_option maxHeartbeats 2000000 in
theorem do_ref_none (C n:Nat) (st:StepV) (w:World) (hst:st.Ok) (hk:pickN st.kind 7=2) (onm:ByteArray) (om ot ol oz oe:Nat) (fd:Bool)
  (hsz:∀w1,Below w.heap.size w w1→Calls Tryz.prog 30 #[.pointer (some ⟨C,0,none⟩),.string (nameB st.a)] w1 fun e w'=>e=.returned (.tuple #[.agg #[.string onm,.int .i64 om,.int .i64 ot,.int .i64 ol,.int .i64 oz,.int .i64 oe],.bool fd])∧Below w1.heap.size w1 w') (h0:ot<1) :
  Calls Tryz.prog 7 #[.pointer (some ⟨C,0,none⟩),.int .i64 n,st.val] w fun e w'=>e=.returned (.int .i64 9)∧Below w.heap.size w w':=by
 have HPI:=hid (fun w'=>pick_any st.kind 7 w' hst.kind.1 hst.kind.2 (by decide) (by decide))
 rw [hk] at HPI
 have HNA:=hid (fun w'=>name_any st.a w' hst.a)
 have HSZ:=hid hsz
 obtain ⟨kd,a,b,c,d,v,tp,m,t,l⟩:=st
 simp only [StepV.val] at *
 generalize nameB a=nm at *
 have h0':(ot:Int)<1:=by omega
 clear hst hk hsz
 go_enter Tryz.func7,Tryz.ntmps7
 go_wp2_with (first | (go_at_call 5;refine (HPI.out _).mono ?_;rintro e w9 ⟨rfl,rfl⟩))
 refine (HNA.out _).mono ?_
 rintro e w2 ⟨rfl,hb2⟩
 have hb02:Below w.heap.size w w2:=((Below.refl w.heap.size w).alloc (Nat.le_refl _) _).trans (hb2.mono (by simp))
 have HB2:=hid (show w2.heap[w.heap.size]?=some (.cells #[.int .i64 kd,.int .i64 a,.int .i64 b,.int .i64 c,.int .i64 d,.string v,.string tp,.int .i64 m,.int .i64 t,.int .i64 l] 31) from (hb2.block _ (by simp)).trans (alloc_at _ _))
 go_wp2_with fail
 refine (HSZ.out _ hb02).mono ?_
 rintro e w4 ⟨rfl,hb4⟩
 have hb04:Below w.heap.size w w4:=hb02.trans (hb4.mono hb02.size)
 go_wp2_with fail
 go_ret
 exact ⟨rfl,hb04.trans (((Below.refl w4.heap.size w4).alloc (Nat.le_refl _) _).mono hb04.size)⟩
def drS (i:Nat):Nat:=if i=12 then 6 else i+63
def drV (C W T:Nat) (a:Int) (nm tp:ByteArray) (om ot ol oz:Nat):Nat→Value→Prop
 | 0,v=>v=.pointer (some ⟨C,0,none⟩)
 | 1,v=>v=.pointer (some ⟨W,1,none⟩)
 | 2,v=>v=.int .i64 a
 | 3,v=>v=.string nm
 | 4,v=>v=.pointer (some ⟨W,6,none⟩)
 | 5,v=>v=.string tp
 | 6,v=>v=.pointer (some ⟨T,1,none⟩)
 | 7,v=>v=.agg #[.int .i64 om,.int .i64 ot,.int .i64 ol]
 | 8,v=>v=.pointer (some ⟨T,4,none⟩)
 | 9,v=>v=.int .i64 oz
 | 10,v=>∃s:ByteArray,v=.string s∧s.size=Cof.tsize om ot*Cof.ngroups om ot ol oz
 | _,_=>True
set_option maxRecDepth 100000 in
set_option maxHeartbeats 2000000 in
theorem do_ref (C n:Nat) (st:StepV) (w:World) (hst:st.Ok) (hk:pickN st.kind 7=2) (onm:ByteArray) (om ot ol oz oe:Nat) (fd:Bool)
  (hsz:∀w1,Below w.heap.size w w1→Calls Tryz.prog 30 #[.pointer (some ⟨C,0,none⟩),.string (nameB st.a)] w1 fun e w'=>e=.returned (.tuple #[.agg #[.string onm,.int .i64 om,.int .i64 ot,.int .i64 ol,.int .i64 oz,.int .i64 oe],.bool fd])∧Below w1.heap.size w1 w') (hpl:IsPlan om ot ol n) (hz:oz≤60) (O:Nat→Prop) (hO:∀b,O b→b<w.heap.size) (Post:Value→World→Prop) (hPost:∀v w1 w2,Post v w1→Spared (fun _=>False) w1 w2→Post v w2)
  (hc:∀w1 tape,Below w.heap.size w w1→tape.size=Cof.tsize om ot*Cof.ngroups om ot ol oz→Calls Tryz.prog 17 #[.pointer (some ⟨C,0,none⟩),.string (nameB st.a),.string tape] w1 fun e w'=>∃v,e=.returned v∧Post v w'∧Spared O w1 w') :
  Calls Tryz.prog 7 #[.pointer (some ⟨C,0,none⟩),.int .i64 n,st.val] w fun e w'=>∃v,e=.returned v∧Post v w':=by
 have HPI:=hid (fun w'=>pick_any st.kind 7 w' hst.kind.1 hst.kind.2 (by decide) (by decide))
 rw [hk] at HPI
 have HNA:=hid (fun w'=>name_any st.a w' hst.a)
 have HTA:=hid (fun w'=>tape_any st.tp om ot ol n oz w' hpl hz hst.tp)
 have HSZ:=hid hsz
 have HC:=hid hc
 have HPO:=hid hPost
 have HOO:=hid hO
 have h0':¬(ot:Int)<1:=by have:=hpl.t1;omega
 have h1':¬(ol:Int)<1:=by have:=hpl.l1;omega
 obtain ⟨kd,a,b,c,d,v,tp,m,t,l⟩:=st
 simp only [StepV.val] at *
 generalize nameB a=nm at *
 clear hst hk hsz hc hPost hO hpl
 go_enter Tryz.func7,Tryz.ntmps7
 go_wp2_with (first | (go_at_call 5;refine (HPI.out _).mono ?_;rintro e w9 ⟨rfl,rfl⟩))
 refine (HNA.out _).mono ?_
 rintro e w2 ⟨rfl,hb2⟩
 have hb02:Below w.heap.size w w2:=((Below.refl w.heap.size w).alloc (Nat.le_refl _) _).trans (hb2.mono (by simp))
 have HB2:=hid (show w2.heap[w.heap.size]?=some (.cells #[.int .i64 kd,.int .i64 a,.int .i64 b,.int .i64 c,.int .i64 d,.string v,.string tp,.int .i64 m,.int .i64 t,.int .i64 l] 31) from (hb2.block _ (by simp)).trans (alloc_at _ _))
 go_wp2_with fail
 refine (HSZ.out _ hb02).mono ?_
 rintro e w4 ⟨rfl,hb4⟩
 have hb04:Below w.heap.size w w4:=hb02.trans (hb4.mono hb02.size)
 have HB4':=(hb4.block _ (cells_lt HB2.out)).trans HB2.out
 have hlt4:w.heap.size<w4.heap.size:=cells_lt HB4'
 have HB4:=hid HB4'
 clear hb2 hb4 HB4'
 go_wp2_with fail
 have hba3:=(Below.refl w4.heap.size w4).alloc (Nat.le_refl _) (.cells #[.string onm,.int .i64 om,.int .i64 ot,.int .i64 ol,.int .i64 oz,.int .i64 oe] 65)
 have HP3':=alloc_at w4 (.cells #[.string onm,.int .i64 om,.int .i64 ot,.int .i64 ol,.int .i64 oz,.int .i64 oe] 65)
 have HB3':=(hba3.block _ hlt4).trans HB4.out
 generalize w4.alloc (.cells #[.string onm,.int .i64 om,.int .i64 ot,.int .i64 ol,.int .i64 oz,.int .i64 oe] 65)=w3 at *
 have HP3:=hid HP3'
 have HB3:=hid HB3'
 clear HP3' HB3'
 have hb03:Below w.heap.size w w3:=hb04.trans (hba3.mono hb04.size)
 have HCX:=hid (show ∀w':World,Spared O { w3 with drawn:=w3.drawn+1 } w'→w'.cell? ⟨w.heap.size,1,none⟩=some (.int .i64 a)∧w'.cell? ⟨w.heap.size,6,none⟩=some (.string tp)∧w'.cell? ⟨w4.heap.size,1,none⟩=some (.int .i64 om)∧w'.cell? ⟨w4.heap.size,2,none⟩=some (.int .i64 ot)∧w'.cell? ⟨w4.heap.size,3,none⟩=some (.int .i64 ol)∧w'.cell? ⟨w4.heap.size,4,none⟩=some (.int .i64 oz) from fun w' hs=>by
  have h1:=hs.heap (b:=w.heap.size) HB3.out (fun e=>by have:=HOO.out _ e;omega)
  have h2:=hs.heap (b:=w4.heap.size) HP3.out (fun e=>by have:=HOO.out _ e;omega)
  exact ⟨by rw [cells_at h1];rfl,by rw [cells_at h1];rfl,by rw [cells_at h2];rfl,by rw [cells_at h2];rfl,by rw [cells_at h2];rfl,by rw [cells_at h2];rfl⟩)
 refine wp_region_call (by kernel_rfl) drS (drV C w.heap.size w4.heap.size a nm tp om ot ol oz) 11 Post O [(0,.pointer (some ⟨C,0,none⟩)),(5,.pointer (some ⟨w.heap.size,0,none⟩)),(9,.pointer (some ⟨w4.heap.size,0,none⟩))] 114 (fun j=>if j=0 then [0] else if j=1∨j=4 then [5] else if j=6∨j=8 then [9] else []) (by kernel_rfl) rfl (by kernel_rfl) rfl rfl ?_ HPO.out ?_ ?_
 ·simp
 ·refine ⟨?_,?_,?_,?_,?_,?_,?_,?_,?_,?_,?_,?_,?_,trivial⟩
  ·intro ac w' hsz hs hf hd
   refine ⟨fun _=>?_,fun h=>?_,fun h=>?_⟩
   ·clear hsz
    have f0:ac.tmps[0]?.getD undef=.pointer (some ⟨C,0,none⟩):=by simpa using hf (0,.pointer (some ⟨C,0,none⟩)) (by simp) rfl
    obtain ⟨k1,k6,q0,q1,q2,q3⟩:=HCX.out w' hs
    simp [drV,drS,Region.binds] at hd
    exact .inl ⟨.pointer (some ⟨C,0,none⟩),w',by go_simp,rfl,Spared.refl _ _⟩
   ·exact absurd h (by decide)
   ·exact absurd h (by decide)
  ·intro ac w' hsz hs hf hd
   refine ⟨fun _=>?_,fun h=>?_,fun h=>?_⟩
   ·clear hsz
    have f5:ac.tmps[5]?.getD undef=.pointer (some ⟨w.heap.size,0,none⟩):=by simpa using hf (5,.pointer (some ⟨w.heap.size,0,none⟩)) (by simp) rfl
    obtain ⟨k1,k6,q0,q1,q2,q3⟩:=HCX.out w' hs
    simp [drV,drS,Region.binds] at hd
    exact .inl ⟨.pointer (some ⟨w.heap.size,1,none⟩),w',by go_simp,rfl,Spared.refl _ _⟩
   ·exact absurd h (by decide)
   ·exact absurd h (by decide)
  ·intro ac w' hsz hs hf hd
   refine ⟨fun _=>?_,fun h=>?_,fun h=>?_⟩
   ·clear hsz
    obtain ⟨k1,k6,q0,q1,q2,q3⟩:=HCX.out w' hs
    simp [drV,drS,Region.binds] at hd
    exact .inl ⟨.int .i64 a,w',by go_simp,rfl,Spared.refl _ _⟩
   ·exact absurd h (by decide)
   ·exact absurd h (by decide)
  ·intro ac w' hsz hs hf hd
   refine ⟨fun _=>?_,fun h=>?_,fun h=>?_⟩
   ·clear hsz
    obtain ⟨k1,k6,q0,q1,q2,q3⟩:=HCX.out w' hs
    simp [drV,drS,Region.binds] at hd
    refine .inr ⟨28,#[.int .i64 a],by go_simp,(HNA.out w').mono ?_⟩
    rintro e w'' ⟨rfl,hb⟩
    exact ⟨_,rfl,rfl,Spared.ofBelow hb (Nat.le_refl _)⟩
   ·exact absurd h (by decide)
   ·exact absurd h (by decide)
  ·intro ac w' hsz hs hf hd
   refine ⟨fun _=>?_,fun h=>?_,fun h=>?_⟩
   ·clear hsz
    have f5:ac.tmps[5]?.getD undef=.pointer (some ⟨w.heap.size,0,none⟩):=by simpa using hf (5,.pointer (some ⟨w.heap.size,0,none⟩)) (by simp) rfl
    obtain ⟨k1,k6,q0,q1,q2,q3⟩:=HCX.out w' hs
    simp [drV,drS,Region.binds] at hd
    exact .inl ⟨.pointer (some ⟨w.heap.size,6,none⟩),w',by go_simp,rfl,Spared.refl _ _⟩
   ·exact absurd h (by decide)
   ·exact absurd h (by decide)
  ·intro ac w' hsz hs hf hd
   refine ⟨fun _=>?_,fun h=>?_,fun h=>?_⟩
   ·clear hsz
    obtain ⟨k1,k6,q0,q1,q2,q3⟩:=HCX.out w' hs
    simp [drV,drS,Region.binds] at hd
    exact .inl ⟨.string tp,w',by go_simp,rfl,Spared.refl _ _⟩
   ·exact absurd h (by decide)
   ·exact absurd h (by decide)
  ·intro ac w' hsz hs hf hd
   refine ⟨fun _=>?_,fun h=>?_,fun h=>?_⟩
   ·clear hsz
    have f9:ac.tmps[9]?.getD undef=.pointer (some ⟨w4.heap.size,0,none⟩):=by simpa using hf (9,.pointer (some ⟨w4.heap.size,0,none⟩)) (by simp) rfl
    obtain ⟨k1,k6,q0,q1,q2,q3⟩:=HCX.out w' hs
    simp [drV,drS,Region.binds] at hd
    exact .inl ⟨.pointer (some ⟨w4.heap.size,1,none⟩),w',by go_simp,rfl,Spared.refl _ _⟩
   ·exact absurd h (by decide)
   ·exact absurd h (by decide)
  ·intro ac w' hsz hs hf hd
   refine ⟨fun _=>?_,fun h=>?_,fun h=>?_⟩
   ·clear hsz
    obtain ⟨k1,k6,q0,q1,q2,q3⟩:=HCX.out w' hs
    simp [drV,drS,Region.binds] at hd
    exact .inl ⟨.agg #[.int .i64 om,.int .i64 ot,.int .i64 ol],w',by go_simp,rfl,Spared.refl _ _⟩
   ·exact absurd h (by decide)
   ·exact absurd h (by decide)
  ·intro ac w' hsz hs hf hd
   refine ⟨fun _=>?_,fun h=>?_,fun h=>?_⟩
   ·clear hsz
    have f9:ac.tmps[9]?.getD undef=.pointer (some ⟨w4.heap.size,0,none⟩):=by simpa using hf (9,.pointer (some ⟨w4.heap.size,0,none⟩)) (by simp) rfl
    obtain ⟨k1,k6,q0,q1,q2,q3⟩:=HCX.out w' hs
    simp [drV,drS,Region.binds] at hd
    exact .inl ⟨.pointer (some ⟨w4.heap.size,4,none⟩),w',by go_simp,rfl,Spared.refl _ _⟩
   ·exact absurd h (by decide)
   ·exact absurd h (by decide)
  ·intro ac w' hsz hs hf hd
   refine ⟨fun _=>?_,fun h=>?_,fun h=>?_⟩
   ·clear hsz
    obtain ⟨k1,k6,q0,q1,q2,q3⟩:=HCX.out w' hs
    simp [drV,drS,Region.binds] at hd
    exact .inl ⟨.int .i64 oz,w',by go_simp,rfl,Spared.refl _ _⟩
   ·exact absurd h (by decide)
   ·exact absurd h (by decide)
  ·intro ac w' hsz hs hf hd
   refine ⟨fun _=>?_,fun h=>?_,fun h=>?_⟩
   ·clear hsz
    obtain ⟨k1,k6,q0,q1,q2,q3⟩:=HCX.out w' hs
    simp [drV,drS,Region.binds] at hd
    refine .inr ⟨29,#[.string tp,.agg #[.int .i64 om,.int .i64 ot,.int .i64 ol],.int .i64 oz],by go_simp,(HTA.out w').mono ?_⟩
    rintro e w'' ⟨s,rfl,hsz,hb⟩
    exact ⟨_,rfl,⟨s,rfl,hsz⟩,Spared.ofBelow hb (Nat.le_refl _)⟩
   ·exact absurd h (by decide)
   ·exact absurd h (by decide)
  ·intro ac w' hsz hs hf hd
   refine ⟨fun h=>absurd h (by decide),fun _ hu=>?_,fun h=>absurd h (by decide)⟩
   clear hsz
   simp [drV,drS,Region.binds] at hd
   obtain ⟨h0,h3,s,h10,hs10⟩:=hd
   refine .inr ⟨17,#[.pointer (some ⟨C,0,none⟩),.string nm,.string s],by go_simp,(HC.out w' s (hb03.drew.trans (hu.below w.heap.size (by show w.heap.size≤w3.heap.size;exact hb03.size) (fun _ h=>h.elim))) hs10).mono ?_⟩
   rintro e w'' ⟨v,rfl,hp,hsp⟩
   exact ⟨_,rfl,hp,hsp⟩
  ·intro ac w' hsz hs hf hd
   refine ⟨fun h=>absurd h (by decide),fun h=>absurd h (by decide),fun _=>?_⟩
   have h35:74<ac.tmps.size:=by rw [hsz];decide
   go_simp
   simp [drS,h35]
 ·intro a1 w' hdf hsz hs hp
  obtain ⟨tm,df⟩:=a1
  simp only at hdf hsz hp
  subst hdf
  have HPP:=hid hp
  clear hp hsz
  go_wp2_with fail
  go_ret
  exact ⟨_,rfl,HPP.out⟩
end Go.Proofs.YtcegdgmbponapabGreatDoor
namespace Go.Proofs.YtcegdgmbponapabGreatDoor
open Go.RowKit
def EndsK (L:Seat) (s s':Sta) (m j:Nat) (k:Int):Prop :=
 (j=m∧k=0∧s'.p=s.p.ticks j∧Calm L s')∨(j<m∧k=1∧(s'.p=(s.p.ticks j).fall∧(s.p.ticks j).halts=true)∧Torn L s')
theorem EndsC.k {L:Seat} {s s':Sta} {m j:Nat} {e:Ending} (h:EndsC L s s' m j e):∃k:Int,e=.returned (.int .i64 k)∧EndsK L s s' m j k:=by
 rcases h with ⟨h1,h2,h3,h4⟩|⟨h1,h2,h3,h4⟩
 ·exact ⟨0,h2,.inl ⟨h1,rfl,h3,h4⟩⟩
 ·exact ⟨1,h2,.inr ⟨h1,rfl,h3,h4⟩⟩
def DidPut (L:Seat) (s:Sta) (st:StepV) (k:Int) (s':Sta):Prop :=
 pickN st.kind 7=0∧hasName (s.rss 0) (nameB st.a)=false∧(s.rss 0).length<10∧∃(ys:List RecV) (j:Nat) (tape:ByteArray),tape.size=Cof.tsize (pMode st.m) (pT st.t L.n)*Cof.ngroups (pMode st.m) (pT st.t L.n) (pL st.m st.t st.l L.n) (st.v.extract 0 60).size ∧
  News L s s' ⟨nameB st.a,pMode st.m,pT st.t L.n,pL st.m st.t st.l L.n,(st.v.extract 0 60).size,0⟩ (fun i=>shardOf L.key ⟨nameB st.a,pMode st.m,pT st.t L.n,pL st.m st.t st.l L.n,(st.v.extract 0 60).size,0⟩ L.n i ((Cof.split (st.v.extract 0 60).data.toList (pMode st.m) (pT st.t L.n) (pL st.m st.t st.l L.n) L.n tape.data.toList).getD i [])) ys ∧
  (∀i,s'.rss i=putL s.rss ys j i)∧EndsK L s s' L.n j k
def DidDel (L:Seat) (s:Sta) (st:StepV) (k:Int) (s':Sta):Prop :=
 pickN st.kind 7=1∧hasName (s.rss 0) (nameB st.a)=true∧∃j:Nat,s'.dn=s.dn∧s'.X=s.X∧(∀i,s'.rss i=delL s.rss (nameB st.a) j i)∧EndsK L s s' L.n j k
def DidRef (L:Seat) (s:Sta) (st:StepV) (k:Int) (s':Sta):Prop :=
 pickN st.kind 7=2∧hasName (s.rss 0) (nameB st.a)=true∧∃o:Ob,o=(recOf (s.rss 0) (nameB st.a)).ob∧o.mode=0∧o.epoch<100∧∃(P:Nat→List UInt8) (ys:List RecV) (j:Nat) (tape:ByteArray),tape.size=Cof.tsize o.mode o.t*Cof.ngroups o.mode o.t o.l o.size ∧
  (∀i,i<L.n→Cof.Good L.key (Cof.head o.mode o.t o.l L.n i o.epoch o.size (nameB st.a).data.toList) (Cof.ngroups o.mode o.t o.l o.size) ((recOf (s.rss i) (nameB st.a)).x s.X) (P i)) ∧
  News L s s' ⟨nameB st.a,0,o.t,o.l,o.size,o.epoch+1⟩ (fun i=>shardOf L.key ⟨nameB st.a,0,o.t,o.l,o.size,o.epoch+1⟩ L.n i (Cof.sumRow (P i) ((Cof.split (List.replicate o.size 0) 0 o.t o.l L.n tape.data.toList).getD i []))) ys ∧
  (∀i,s'.rss i=refL L.n s.rss (nameB st.a) ys j i)∧EndsK L s s' (2*L.n) j k
def DidRec (L:Seat) (s:Sta) (st:StepV) (k:Int) (s':Sta):Prop :=
 pickN st.kind 7=6∧k=0∧((Calm L s∧s'=s)∨(Torn L s∧Calm L s'∧s'.dn=s.dn∧s'.X=s.X∧(∀i,i<L.n→s'.rss i=settleL (cutOf L.n s.rss) (s.rss i))∧s'.p.crashes=false))
def Did (L:Seat) (s:Sta) (st:StepV) (k:Int) (s':Sta):Prop :=
 (s'=s∧k≠0∧(Calm L s→k≠1))∨(Calm L s∧(DidPut L s st k s'∨DidDel L s st k s'∨DidRef L s st k s')) ∨
 ((pickN st.kind 7=3∨pickN st.kind 7=4)∧k=0∧(Calm L s→Calm L s')∧(Torn L s→Torn L s')) ∨
 (pickN st.kind 7=5∧k=0∧s'=⟨s.dn,s.vs,s.rss,⟨s.p.done,true,pickN st.c 30,s.p.crashed⟩,s.X⟩) ∨
 DidRec L s st k s'
def DoPost (L:Seat) (s:Sta) (st:StepV) (w:World) (v:Value) (w':World):Prop:=∃k s',v=.int .i64 k∧Bank w' L s'∧Did L s st k s'∧Spared (Mine L s) w w'
theorem DoPost.keeps {L:Seat} {s:Sta} {st:StepV} {w:World} (v:Value) (w1 w2:World) (h:DoPost L s st w v w1) (hs:Spared (fun _=>False) w1 w2):DoPost L s st w v w2:=by
 obtain ⟨k,s',h1,h2,h3,h4⟩:=h
 exact ⟨k,s',h1,h2.spared hs (fun _ h=>h.elim),h3,h4.trans (hs.mono fun _ h=>h.elim)⟩
theorem Bank.mine_ge {w:World} {L:Seat} {s:Sta} (h:Bank w L s) {b:Nat} (hb:Mine L s b):L.base≤b:=by
 rcases hb with e | ⟨i,hi,e | e⟩|⟨i,hi,r,hr,hb⟩
 ·rw [e];exact h.bV
 ·rw [e];exact h.bsp i hi
 ·exact h.bv i hi b e
 ·exact ((h.ok i hi r hr).at hb).1
theorem Bank.lift {w w1 w':World} {L:Seat} {s:Sta} (_:Bank w L s) (hb:Below w.heap.size w w1) (hs:Spared (Mine L s) w1 w'):Spared (Mine L s) w w' :=
 (Mine.below hb).trans hs
theorem Bank.lower {w w':World} {L:Seat} {s:Sta} (h:Bank w L s) (hs:Spared (Mine L s) w w'):Below L.base w w' :=
 hs.below L.base h.G.bs (fun _ hb=>h.mine_ge hb)
theorem EndsK.or {L:Seat} {s s':Sta} {m j:Nat} {k:Int} (h:EndsK L s s' m j k):Calm L s'∨Torn L s':=h.elim (fun h=>.inl h.2.2.2) (fun h=>.inr h.2.2.2)
theorem Did.or {L:Seat} {s:Sta} {st:StepV} {k:Int} {s':Sta} (h:Did L s st k s') (hc:Calm L s∨Torn L s):Calm L s'∨Torn L s':=by
 rcases h with ⟨rfl,_⟩|⟨_,h | h | h⟩|⟨_,_,h1,h2⟩|⟨_,_,rfl⟩|⟨_,_,⟨_,rfl⟩|⟨_,h,_⟩⟩
 ·exact hc
 ·obtain ⟨_,_,_,ys,j,tape,_,_,_,h⟩:=h;exact h.or
 ·obtain ⟨_,_,j,_,_,_,h⟩:=h;exact h.or
 ·obtain ⟨_,_,o,_,_,_,P,ys,j,tape,_,_,_,_,h⟩:=h;exact h.or
 ·exact hc.imp h1 h2
 ·exact hc
 ·exact hc
 ·exact .inl h
section
variable {w:World} {L:Seat} {s:Sta}
theorem did_no {f:FuncId} {args:Array Value} (h:Bank w L s) (w1:World) (hb:Below w.heap.size w w1) (st:StepV) (k:Int) (h0:k≠0) (h1:Calm L s→k≠1) (hc:Calls Tryz.prog f args w1 fun e w'=>e=.returned (.int .i64 k)∧Below w1.heap.size w1 w') :
  Calls Tryz.prog f args w1 fun e w'=>∃v,e=.returned v∧DoPost L s st w v w'∧Spared (Mine L s) w1 w' :=
 hc.mono fun _ _ ⟨h2,h3⟩=>⟨_,h2,⟨k,s,rfl,(h.below hb).below h3,.inl ⟨rfl,h0,h1⟩,h.lift hb (Mine.below h3)⟩,Mine.below h3⟩
theorem no_did {f:FuncId} {args:Array Value} (h:Bank w L s) (w1:World) (hb:Below w.heap.size w w1) (st:StepV) (R:Ending→World→Prop) (hc:Calls Tryz.prog f args w1 fun e w'=>No w1 e w'∨R e w')
  (hR:∀e w',R e w'→∃v,e=.returned v∧DoPost L s st w v w'∧Spared (Mine L s) w1 w') :
  Calls Tryz.prog f args w1 fun e w'=>∃v,e=.returned v∧DoPost L s st w v w'∧Spared (Mine L s) w1 w':=by
 refine hc.mono ?_
 rintro e w' (⟨k,rfl,h0,h1,h3⟩|hr)
 ·exact ⟨_,rfl,⟨k,s,rfl,(h.below hb).below h3,.inl ⟨rfl,h0,fun _=>h1⟩,h.lift hb (Mine.below h3)⟩,Mine.below h3⟩
 ·exact hR e w' hr
theorem do_any (h:Bank w L s) (hc:Calm L s∨Torn L s) (st:StepV) (hst:st.Ok) :
  Calls Tryz.prog 7 #[.pointer (some ⟨L.C,0,none⟩),.int .i64 L.n,st.val] w fun e w'=>∃v,e=.returned v∧DoPost L s st w v w':=by
 have hn1:=h.n1
 have hn8:=h.n8
 have hO:∀b,Mine L s b→b<w.heap.size:=fun b hb=>h.mine_lt hb
 have torn:Torn L s→∀w1,Below w.heap.size w w1→L.V<w1.heap.size∧w1.cell? ⟨L.V,5,none⟩=some (.bool true)∧Bank w1 L s:=fun ht w1 hb=>by
  have h':=h.below hb
  exact ⟨cells_lt h'.vp.hp,by rw [h'.cell5,ht.1],h'⟩
 have notCalm:Torn L s→¬Calm L s:=fun ht hc=>by have:=ht.1;rw [hc.1] at this;cases this
 have hlt:pickN st.kind 7<7:=pickN_lt _ _ (by decide)
 have hcases:pickN st.kind 7=0∨pickN st.kind 7=1∨pickN st.kind 7=2∨pickN st.kind 7=3∨pickN st.kind 7=4∨pickN st.kind 7=5∨pickN st.kind 7=6:=by omega
 rcases hcases with hk | hk | hk | hk | hk | hk | hk
 ·refine do_put L.C L.n st w hst hk hn1 hn8 (Mine L s) hO (DoPost L s st w) DoPost.keeps fun w1 tape hb htp=>?_
  rcases hc with hc | ht
  ·have h':=h.below hb
   have hpl:=plan_is st.m st.t st.l L.n hn1 hn8
   have hnm:=nameN_size (pickN st.a 4)
   refine no_did h w1 hb st _ (h'.put_any hc (pMode st.m) (pT st.t L.n) (pL st.m st.t st.l L.n) (nameB st.a) (st.v.extract 0 60) tape hpl (by simp;omega) hnm.1 hnm.2 (by omega)) ?_
   rintro e w' ⟨hno,hfew,s',ys,j,hb',hn,hr,he,hsp⟩
   obtain ⟨k,rfl,hek⟩:=he.k
   exact ⟨_,rfl,⟨k,s',rfl,hb',.inr (.inl ⟨hc,.inl ⟨hk,hno,hfew,ys,j,tape,htp,hn,hr,hek⟩⟩),h.lift hb hsp⟩,hsp⟩
  ·obtain ⟨a1,a2,a3⟩:=torn ht w1 hb
   exact did_no h w1 hb st 1 (by decide) (fun hc=>absurd hc (notCalm ht)) (crash_put a3.cf a1 a2 a3.G.et _ _ _ _ _ _)
 ·refine do_del L.C L.n st w hst hk (DoPost L s st w) fun w1 hb=>?_
  have key:Calls Tryz.prog 18 #[.pointer (some ⟨L.C,0,none⟩),.string (nameB st.a)] w1 fun e w'=>∃v,e=.returned v∧DoPost L s st w v w'∧Spared (Mine L s) w1 w':=by
   rcases hc with hc | ht
   ·refine no_did h w1 hb st _ ((h.below hb).del_any hc (nameB st.a)) ?_
    rintro e w' ⟨hy,s',j,hb',hdn,hX,hr,he,hsp⟩
    obtain ⟨k,rfl,hek⟩:=he.k
    exact ⟨_,rfl,⟨k,s',rfl,hb',.inr (.inl ⟨hc,.inr (.inl ⟨hk,hy,j,hdn,hX,hr,hek⟩)⟩),h.lift hb hsp⟩,hsp⟩
   ·obtain ⟨a1,a2,a3⟩:=torn ht w1 hb
    exact did_no h w1 hb st 1 (by decide) (fun hc=>absurd hc (notCalm ht)) (crash_delete a3.cf a1 a2 a3.G.et _)
  exact key.mono fun _ _ ⟨v,h1,h2,_⟩=>⟨v,h1,h2⟩
 ·rcases hc with hc | ht
  ·have hS:∀w1,Below w.heap.size w w1→Calls Tryz.prog 30 #[.pointer (some ⟨L.C,0,none⟩),.string (nameB st.a)] w1 fun e w'=>e=.returned (sizeV (s.rss 0) (nameB st.a))∧Below w1.heap.size w1 w':=fun w1 hb =>
    size_of L.C (nameB st.a) (s.rss 0) w1 (h.so 0 hn1) (h.st 0 hn1).le fun w2 hb2=>((h.below hb).below hb2).objects_go hc.1
   cases hy:hasName (s.rss 0) (nameB st.a) with
   | false =>
    unfold sizeV at hS
    rw [hy] at hS
    refine (do_ref_none L.C L.n st w hst hk _ 0 0 0 0 0 _ hS (by decide)).mono ?_
    rintro e w' ⟨rfl,hb⟩
    exact ⟨_,rfl,9,s,rfl,h.below hb,.inl ⟨rfl,by decide,fun _=>by decide⟩,Mine.below hb⟩
   | true =>
    unfold sizeV at hS
    rw [hy] at hS
    have hg:=h.ok 0 hn1 _ (recOf_mem hy).1
    refine do_ref L.C L.n st w hst hk _ _ _ _ _ _ _ hS hg.plan hg.z (Mine L s) hO (DoPost L s st w) DoPost.keeps fun w1 tape hb htp=>?_
    refine no_did h w1 hb st _ ((h.below hb).ref_any hc (nameB st.a) tape hy (recOf (s.rss 0) (nameB st.a)).ob rfl (by show Cof.tsize (recOf (s.rss 0) (nameB st.a)).mode (recOf (s.rss 0) (nameB st.a)).t*_≤_;rw [htp];exact Nat.le_refl _)) ?_
    rintro e w' ⟨hm0,he0,P,hP,s',ys,j,hb',hn,hr,he,hsp⟩
    obtain ⟨k,rfl,hek⟩:=he.k
    exact ⟨_,rfl,⟨k,s',rfl,hb',.inr (.inl ⟨hc,.inr (.inr ⟨hk,hy,_,rfl,hm0,he0,P,ys,j,tape,htp,hP,hn,hr,hek⟩)⟩),h.lift hb hsp⟩,hsp⟩
  ·have hS:∀w1,Below w.heap.size w w1→Calls Tryz.prog 30 #[.pointer (some ⟨L.C,0,none⟩),.string (nameB st.a)] w1 fun e w'=>e=.returned (sizeV [] (nameB st.a))∧Below w1.heap.size w1 w':=fun w1 hb =>
    size_of L.C (nameB st.a) [] w1 (fun i j _ hj=>by simp at hj) (by simp) fun w2 hb2=>by
     have h2:=(h.below hb).below hb2
     refine (cobjects_crash L.C L.V w2 h2.cf (by rw [h2.cell5,ht.1])).mono ?_
     rintro e w' ⟨rfl,rfl⟩
     exact ⟨_,rfl,⟨rfl,.inl ⟨rfl,rfl⟩⟩,Below.refl _ _⟩
   refine (do_ref_none L.C L.n st w hst hk _ 0 0 0 0 0 _ hS (by decide)).mono ?_
   rintro e w' ⟨rfl,hb⟩
   exact ⟨_,rfl,9,s,rfl,h.below hb,.inl ⟨rfl,by decide,fun _=>by decide⟩,Mine.below hb⟩
 ·refine do_spoil L.C L.n st w hst hk hn1 hn8 (Mine L s) hO (DoPost L s st w) DoPost.keeps fun w1 hb=>?_
  have hpd:pickN st.d 256<256:=pickN_lt _ _ (by decide)
  have hpi:pickN st.a L.n<L.n:=pickN_lt _ _ hn1
  have hpc:pickN st.c 100<100:=pickN_lt _ _ (by decide)
  have ed:((pickN st.d 256:Nat):Int)=((UInt8.ofNat (pickN st.d 256)).toNat:Nat):=by
   rw [UInt8.toNat_ofNat']
   congr 1
   omega
  rw [ed]
  have h':=h.below hb
  rcases hc with hc | ht
  ·have ha:=h'.ask hc.1
   cases hy:hasName (s.rss (pickN st.a L.n)) (nameB st.b) with
   | false=>exact did_no h w1 hb st 9 (by decide) (fun _=>by decide) (ha.spoil_none _ _ _ _ hpi hy)
   | true =>
    by_cases hp:pickN st.c 100<(recOf (s.rss (pickN st.a L.n)) (nameB st.b)).sn
    ·refine (h'.spoil_go hc.1 _ hpi _ hy _ hp _).mono ?_
     rintro e w' ⟨rfl,hb',hsp⟩
     exact ⟨_,rfl,⟨0,_,rfl,hb',.inr (.inr (.inl ⟨.inl hk,rfl,id,id⟩)),h.lift hb hsp⟩,hsp⟩
    ·exact did_no h w1 hb st 14 (by decide) (fun _=>by decide) (ha.spoil_place _ _ _ _ _ hpi hy rfl (by unfold I64;omega) (.inr (by show ((recOf (s.rss (pickN st.a L.n)) (nameB st.b)).sn:Int)≤_;omega)))
  ·obtain ⟨a1,a2,a3⟩:=torn ht w1 hb
   exact did_no h w1 hb st 1 (by decide) (fun hc=>absurd hc (notCalm ht)) (crash_spoil a3.cf a2 a3.G.et _ _ _ _)
 ·refine do_up L.C L.n st w hst hk hn1 hn8 (Mine L s) hO (DoPost L s st w) DoPost.keeps fun w1 up hb=>?_
  refine ((h.below hb).up_go _ (pickN_lt _ _ hn1) up).mono ?_
  rintro e w' ⟨rfl,hb',hsp⟩
  exact ⟨_,rfl,⟨0,_,rfl,hb',.inr (.inr (.inl ⟨.inr hk,rfl,id,id⟩)),h.lift hb hsp⟩,hsp⟩
 ·refine do_crash L.C L.n st w hst hk (DoPost L s st w) fun w1 hb=>?_
  refine ((h.below hb).crashAt_go (pickN st.c 30)).mono ?_
  rintro e w' ⟨rfl,hb',hsp⟩
  refine ⟨rfl,0,_,rfl,hb',.inr (.inr (.inr (.inl ⟨hk,rfl,?_⟩))),h.lift hb hsp⟩
  rw [decide_eq_true (by omega)]
 ·refine do_rec L.C L.n st w hst hk (DoPost L s st w) fun w1 hb=>?_
  have h':=h.below hb
  rcases ups_or L.n s.dn with hup | hd
  ·rcases hc with hc | ht
   ·refine (crecover_nil L.C L.V () w1 (fun w'=>w'=w1) h'.cf (vrecover_idle L.V w1 (by rw [h'.cell5,hc.1]) (h'.allUp_yes hup))).mono ?_
    rintro e w' ⟨rfl,rfl⟩
    exact ⟨_,rfl,0,s,rfl,h',.inr (.inr (.inr (.inr ⟨hk,rfl,.inl ⟨hc,rfl⟩⟩))),Mine.below hb⟩
   ·refine (h'.recover_go ht hup).mono ?_
    rintro e w' ⟨rfl,s',b1,b2,b3,b4,b5,b6,hsp⟩
    exact ⟨_,rfl,0,s',rfl,b1,.inr (.inr (.inr (.inr ⟨hk,rfl,.inr ⟨ht,b2,b3,b4,b5,b6⟩⟩))),h.lift hb hsp⟩
  ·refine (crecover_no L.C L.V 2 8 () w1 h'.cf (by decide) h'.G.et (vrecover_down L.V 1 8 w1 (allUp_no L.V L.key L.n L.B 0 L.bc L.sp s.dn w1 (Vt.va h'.vp) h.n8 (fun i hi=>by rw [cells_at (h'.st i hi).hp];rfl) hd h'.G.tb))).mono ?_
   rintro e w' ⟨rfl,hb2⟩
   exact ⟨_,rfl,8,s,rfl,h'.below hb2,.inl ⟨rfl,by decide,fun _=>by decide⟩,h.lift hb (Mine.below hb2)⟩
end
end Go.Proofs.YtcegdgmbponapabGreatDoor
namespace Go.Proofs.YtcegdgmbponapabGreatDoor
open Go.RowKit
attribute [local go_sem ↓] Go.wp_at_zero Go.wp_at_succ
set_option maxRecDepth 100000 in
set_option maxHeartbeats 1000000 in
theorem epochs_count (nm:ByteArray) (mode t l size epoch count:Nat) (w:World) (h1:¬count=1) (h2:¬count=2) (hc:count≤1000) (hT:Tab w) :
  Calls Tryz.prog 147 #[.agg #[.string nm,.int .i64 mode,.int .i64 t,.int .i64 l,.int .i64 size,.int .i64 epoch],.int .i64 count] w fun e w'=>∃ev,e=.returned ev∧Chain w' 12 1 ev∧Below w.heap.size w w':=by
 have hba:=(Below.refl w.heap.size w).alloc (Nat.le_refl _) (.cells #[.string nm,.int .i64 mode,.int .i64 t,.int .i64 l,.int .i64 size,.int .i64 epoch] 65)
 have HT:=hid (hT.keeps hba (Nat.le_refl _))
 have HB:=hid hba
 have HI:=hid (show I64 (count:Int) by unfold I64;omega)
 have g1:((count:Int) != 1)=true:=by rw [bne_iff_ne];omega
 have g2:((count:Int) != 2)=true:=by rw [bne_iff_ne];omega
 have HAC:=hid (fun w' (hT':Tab w')=>atCount_any (count:Int) ⟨#[115,104,97,114,100,115]⟩ (.iface 109 (.int .i64 12)) 12 0 w' HI.out (by decide) hT' .hit)
 clear hba hT h1 h2
 go_enter Tryz.func147,Tryz.ntmps147
 go_wp2_with fail
 refine (HAC.out _ HT.out).mono ?_
 rintro e w3 ⟨e3,rfl,hch3,hb3⟩
 go_wp2_with fail
 go_ret
 exact ⟨_,rfl,hch3,HB.out.trans (hb3.mono HB.out.size)⟩
set_option maxRecDepth 100000 in
set_option maxHeartbeats 1000000 in
theorem epochs_big1 (nm:ByteArray) (mode t l size epoch:Nat) (w:World) (h:100<epoch+1-1) (he:epoch≤100000) (hT:Tab w) :
  Calls Tryz.prog 147 #[.agg #[.string nm,.int .i64 mode,.int .i64 t,.int .i64 l,.int .i64 size,.int .i64 epoch],.int .i64 (1:Nat)] w fun e w'=>∃ev,e=.returned ev∧Chain w' 6 1 ev∧Below w.heap.size w w':=by
 have hba:=(Below.refl w.heap.size w).alloc (Nat.le_refl _) (.cells #[.string nm,.int .i64 mode,.int .i64 t,.int .i64 l,.int .i64 size,.int .i64 epoch] 65)
 have HT:=hid (hT.keeps hba (Nat.le_refl _))
 have HB:=hid hba
 have g1:(100:Int)<(epoch:Int):=by omega
 have HAC:=hid (fun w' (hT':Tab w')=>atCount_any (epoch:Int) ⟨#[101,112,111,99,104,115]⟩ (.iface 109 (.int .i64 6)) 6 0 w' (by unfold I64;omega) (by decide) hT' .hit)
 clear hba h hT
 go_enter Tryz.func147,Tryz.ntmps147
 go_wp2_with fail
 refine (HAC.out _ HT.out).mono ?_
 rintro e w3 ⟨e3,rfl,hch3,hb3⟩
 go_wp2_with fail
 go_ret
 exact ⟨_,rfl,hch3,HB.out.trans (hb3.mono HB.out.size)⟩
set_option maxRecDepth 100000 in
set_option maxHeartbeats 1000000 in
theorem epochs_big2 (nm:ByteArray) (mode t l size epoch:Nat) (w:World) (h:100<epoch+2-1) (he:epoch≤100000) (hT:Tab w) :
  Calls Tryz.prog 147 #[.agg #[.string nm,.int .i64 mode,.int .i64 t,.int .i64 l,.int .i64 size,.int .i64 epoch],.int .i64 (2:Nat)] w fun e w'=>∃ev,e=.returned ev∧Chain w' 6 1 ev∧Below w.heap.size w w':=by
 have hba:=(Below.refl w.heap.size w).alloc (Nat.le_refl _) (.cells #[.string nm,.int .i64 mode,.int .i64 t,.int .i64 l,.int .i64 size,.int .i64 epoch] 65)
 have HT:=hid (hT.keeps hba (Nat.le_refl _))
 have HB:=hid hba
 have g1:(100:Int)<(epoch:Int)+1:=by omega
 clear hba h hT
 go_enter Tryz.func147,Tryz.ntmps147
 go_wp2_with (go_at_call 77;refine (atCount_any _ _ _ 6 0 _ (by unfold I64;omega) (by decide) HT.out .hit).mono ?_;rintro e w3 ⟨e3,rfl,hch3,hb3⟩)
 go_ret
 exact ⟨_,rfl,hch3,HB.out.trans (hb3.mono HB.out.size)⟩
set_option maxRecDepth 100000 in
set_option maxHeartbeats 1000000 in
theorem epochs_mode1 (nm:ByteArray) (t l size epoch:Nat) (w:World) (h:0<epoch+1-1) (he:epoch+1-1≤100) :
  Calls Tryz.prog 147 #[.agg #[.string nm,.int .i64 (1:Nat),.int .i64 t,.int .i64 l,.int .i64 size,.int .i64 epoch],.int .i64 (1:Nat)] w fun e w'=>∃ev,e=.returned ev∧Chain w' 11 1 ev∧Below w.heap.size w w':=by
 have hba:=(Below.refl w.heap.size w).alloc (Nat.le_refl _) (.cells #[.string nm,.int .i64 (1:Nat),.int .i64 t,.int .i64 l,.int .i64 size,.int .i64 epoch] 65)
 have HB:=hid hba
 have g1:¬(100:Int)<(epoch:Int):=by omega
 have g2:(0:Int)<(epoch:Int):=by omega
 have HAC:=hid (fun w'=>at_chain ⟨#[100,105,115,112,101,114,115,101]⟩ (.iface 109 (.int .i64 11)) 11 0 w' .hit)
 clear hba h
 go_enter Tryz.func147,Tryz.ntmps147
 go_wp2_with fail
 refine (HAC.out _).mono ?_
 rintro e w3 ⟨e3,rfl,hch3,hb3⟩
 go_wp2_with fail
 go_ret
 exact ⟨_,rfl,hch3,HB.out.trans (hb3.mono HB.out.size)⟩
set_option maxRecDepth 100000 in
set_option maxHeartbeats 1000000 in
theorem epochs_mode2 (nm:ByteArray) (t l size epoch:Nat) (w:World) (h:0<epoch+2-1) (he:epoch+2-1≤100) :
  Calls Tryz.prog 147 #[.agg #[.string nm,.int .i64 (1:Nat),.int .i64 t,.int .i64 l,.int .i64 size,.int .i64 epoch],.int .i64 (2:Nat)] w fun e w'=>∃ev,e=.returned ev∧Chain w' 11 1 ev∧Below w.heap.size w w':=by
 have hba:=(Below.refl w.heap.size w).alloc (Nat.le_refl _) (.cells #[.string nm,.int .i64 (1:Nat),.int .i64 t,.int .i64 l,.int .i64 size,.int .i64 epoch] 65)
 have HB:=hid hba
 have g1:¬(100:Int)<(epoch:Int)+1:=by omega
 have g2:(0:Int)<(epoch:Int)+1:=by omega
 have HAC:=hid (fun w'=>at_chain ⟨#[100,105,115,112,101,114,115,101]⟩ (.iface 109 (.int .i64 11)) 11 0 w' .hit)
 clear hba h
 go_enter Tryz.func147,Tryz.ntmps147
 go_wp2_with fail
 refine (HAC.out _).mono ?_
 rintro e w3 ⟨e3,rfl,hch3,hb3⟩
 go_wp2_with fail
 go_ret
 exact ⟨_,rfl,hch3,HB.out.trans (hb3.mono HB.out.size)⟩
theorem epochs_no (nm:ByteArray) (mode t l size epoch count:Nat) (w:World) (h:¬EpochsOk mode epoch count) (he:epoch≤100000) (hc:count≤1000) (hT:Tab w) :
  Calls Tryz.prog 147 #[.agg #[.string nm,.int .i64 mode,.int .i64 t,.int .i64 l,.int .i64 size,.int .i64 epoch],.int .i64 count] w fun e w'=>∃ev k,e=.returned ev∧Chain w' k 1 ev∧Below w.heap.size w w':=by
 by_cases h12:count=1∨count=2
 ·by_cases hbig:epoch+count-1≤100
  ·have hm:mode=1∧0<epoch+count-1:=by
    unfold EpochsOk at h
    refine ⟨?_,?_⟩
    ·exact Classical.byContradiction fun hm=>h ⟨h12,hbig,fun _=>hm⟩
    ·exact Classical.byContradiction fun hp=>h ⟨h12,hbig,fun hp'=>absurd hp' hp⟩
   obtain ⟨rfl,hpos⟩:=hm
   rcases h12 with rfl | rfl
   ·exact (epochs_mode1 nm t l size epoch w hpos hbig).mono fun e w' ⟨ev,h⟩=>⟨ev,11,h⟩
   ·exact (epochs_mode2 nm t l size epoch w hpos hbig).mono fun e w' ⟨ev,h⟩=>⟨ev,11,h⟩
  ·rcases h12 with rfl | rfl
   ·exact (epochs_big1 nm mode t l size epoch w (by omega) he hT).mono fun e w' ⟨ev,h⟩=>⟨ev,6,h⟩
   ·exact (epochs_big2 nm mode t l size epoch w (by omega) he hT).mono fun e w' ⟨ev,h⟩=>⟨ev,6,h⟩
 ·exact (epochs_count nm mode t l size epoch count w (fun e=>h12 (.inl e)) (fun e=>h12 (.inr e)) hc hT).mono fun e w' ⟨ev,h⟩=>⟨ev,12,h⟩
end Go.Proofs.YtcegdgmbponapabGreatDoor
namespace Go.Proofs.YtcegdgmbponapabGreatDoor
open Go.RowKit
section
variable {P:Program} {ops:Array Oper} {Q:Exit→Act→World→Prop}
structure MI2 (slot:Nat→Nat) (R:Nat→Value→World→Prop) (fixed:List (Nat × Value)) (N:Nat) (p q yi:Nat) (te:TypeId) (zn:Nat) (w0:World) (listed:Array Bool) (a:Act) (w:World):Prop where
 df:a.defers=[]
 sz:a.tmps.size=N
 bl:Below w0.heap.size w0 w
 fx:∀x∈fixed,a.tmps.getD x.1 undef=x.2
 rs:∀j,j≠p→j≠q→listed.getD j false=true→R j (a.tmps.getD (slot j) undef) w
 pq:listed.getD q false=true→listed.getD p false=true
 al:listed.getD p false=true→∃b c,a.tmps.getD (slot p) undef=.pointer (some ⟨b,0,none⟩)∧w0.heap.size≤b∧w.heap[b]?=some (.cells c te)∧c.size=zn∧(listed.getD q false=true→listed.getD yi false=true∧a.tmps.getD (slot yi) undef=.agg c)
theorem wp_region_mem2 {id:Nat} {a:Act} {w:World} (hm:P.follows .mixedOrders=true) (slot:Nat→Nat) (R:Nat→Value→World→Prop) (fixed:List (Nat × Value)) (N p q yi:Nat) (keys:List Nat) (te:TypeId) (z:Array Value) (x:Operand)
  (hok:memOk ops slot N p q keys=true) (hk:fixed.map Prod.fst=keys)
  (hp:∃o,ops[p]?=some o∧∀(a:Act) (w:World),(execOp a.eval o).run P w=.ok (.value (.pointer (some ⟨w.heap.size,0,none⟩))) (w.alloc (.cells z te)))
  (hq:∃o,ops[q]?=some o∧o.op=.store te x (.tmp (slot yi))∧(∀a:Act,a.eval x=a.tmps.getD (slot p) undef)) (hyp:yi≠p) (hyq:yi≠q) (hyw:∃o,ops[q]?=some o∧∃e∈o.after,e.on=yi∧Region.binds .any e=true)
  (hyv:∀v w,R yi v w→∃cs:Array Value,v=.agg cs∧cs.size=z.size∧cs.all (·.oneCell')=true) (hi:(P.info? te).map (·.size)=some z.size)
  (ha:a.defers=[]) (hN:a.tmps.size=N) (hfx:∀p∈fixed,a.tmps.getD p.1 undef=p.2)
  (hper:∀j v w w',R j v w→Below { w with drawn:=w.drawn }.heap.size w w'→R j v w')
  (hperS:∀j v w' b c c',w'.heap[b]?=some (.cells c te)→R j v w'→w.heap.size≤b→R j v (w'.setRow b c'))
  (hstep:StepBut P slot R fixed { w with drawn:=w.drawn+1 } p q 0 ops.toList)
  (hend:∀a w' b cs,a.defers=[]→a.tmps.size=N→Below w.heap.size { w with drawn:=w.drawn+1 } w'→(∀p∈fixed,a.tmps.getD p.1 undef=p.2)→(∀j,j<ops.size→j≠p→j≠q→R j (a.tmps.getD (slot j) undef) w')→a.tmps.getD (slot p) undef=.pointer (some ⟨b,0,none⟩)→w.heap.size≤b→w'.heap[b]?=some (.cells cs te)→a.tmps.getD (slot yi) undef=.agg cs→Q .normal a w') :
  (Code.region id ops true).wp P Q a w:=by
 unfold memOk at hok
 rw [Bool.and_eq_true] at hok
 obtain ⟨hpq,hok⟩:=hok
 have hpq:p≠q:=by simpa using hpq
 rw [List.all_eq_true] at hok
 obtain ⟨op,hop,hopr⟩:=hp
 obtain ⟨oq,hoq,hoqs,hoqx⟩:=hq
 obtain ⟨oq',hoq',ye,hye,hyeo,hyb⟩:=hyw
 rw [hoq] at hoq'
 cases hoq'
 have hpl:p<ops.size:=(Array.getElem?_eq_some_iff.1 hop).1
 have hql:q<ops.size:=(Array.getElem?_eq_some_iff.1 hoq).1
 have hall:∀(i:Nat) (o:Oper),ops[i]?=some o→o.guard=none∧(∀e∈o.after,Region.binds .any e=true→e.on<i)∧(i=q∧o.dst=none∧(∃e∈o.after,e.on=p∧Region.binds .any e=true)∨i≠q∧o.dst=some (slot i)∧slot i<N∧(∀x∈fixed,x.1≠slot i)∧∀j,j<ops.size→j≠q→slot i=slot j→i=j):=by
  intro i o ho
  have his:i<ops.size:=(Array.getElem?_eq_some_iff.1 ho).1
  have:=hok i (List.mem_range.2 his)
  simp only [ho,Bool.and_eq_true,beq_iff_eq,decide_eq_true_eq,Option.isNone_iff_eq_none,List.all_eq_true,bne_iff_ne,ne_eq,Array.all_eq_true_iff_forall_mem,Bool.or_eq_true,List.mem_range,Array.any_eq_true',Bool.not_eq_true'] at this
  obtain ⟨⟨h1,h2⟩,h3⟩:=this
  refine ⟨h1,fun e he hbd=>(h2 e he).elim (fun h=>by rw [hbd] at h;cases h) (fun h=>h),?_⟩
  rcases h3 with ⟨⟨h3,h4⟩,h5⟩|⟨⟨⟨⟨h3,h4⟩,h5⟩,h6⟩,h8⟩
  ·exact .inl ⟨h3,h4,h5⟩
  ·refine .inr ⟨h3,h4,h5,fun x hx=>h6 x.1 (by rw [←hk];exact List.mem_map_of_mem hx),fun j hj hjq he=>?_⟩
   rcases h8 j hj with (h | h)|h
   ·exact absurd h hjq
   ·exact absurd he h
   ·exact h
 have hslp:slot p<N:=by
  rcases (hall p op hop).2.2 with ⟨h,_⟩|⟨_,_,h,_⟩
  ·exact absurd h hpq
  ·exact h
 refine wp_region_any hm (wpAny_inv2 (MI2 slot R fixed N p q yi te z.size { w with drawn:=w.drawn+1 }) (fun i o e ho he hbd=>(hall i o ho).2.1 e he hbd) ?_ ?_ ops.size _ _ _ (by simp) (by unfold todo;exact Nat.le_trans (List.countP_le_length ..) (by simp)) ⟨ha,hN,Below.refl _ _,hfx,?_,?_,?_⟩)
 ·intro listed a1 w1 i o hI hs ho hno hdep
  obtain ⟨hg,hed,hcase⟩:=hall i o ho
  have his:i<listed.size:=by rw [hs];exact (Array.getElem?_eq_some_iff.1 ho).1
  unfold wpOp
  simp only [ho,Region.wanted,hg,if_true]
  refine .inl ?_
  rcases hcase with ⟨rfl,hd,e,he,hep,heb⟩|⟨hiq,hd,hsl,hfk,hinj⟩
  ·rw [hoq] at ho;cases ho
   have hlp:listed.getD p false=true:=by rw [←hep];exact hdep e he heb
   obtain ⟨b,c,hb1,hb2,hb3,hb4,_⟩:=hI.al hlp
   have hly:listed.getD yi false=true:=by rw [←hyeo];exact hdep ye hye hyb
   obtain ⟨cs,hy,hzs,hcs⟩:=hyv _ _ (hI.rs yi hyp hyq hly)
   refine wp_store_row te x (.tmp (slot yi)) hoqs b cs (by rw [hoqx];exact hb1) hy te c hb3 (by rw [hzs];exact hi) (by rw [hb4,hzs]) hcs ?_
   rw [hd]
   refine ⟨hI.df,hI.sz,hI.bl.trans (below_setRow (Below.refl _ _) hb2 cs),hI.fx,fun j hjp hjq hj=>?_,fun _=>?_,fun _=>?_⟩
   ·rw [getD_set_ne false (Ne.symm hjq)] at hj
    exact hperS j _ w1 b c cs hb3 (hI.rs j hjp hjq hj) hb2
   ·rw [getD_set_ne false (Ne.symm hpq)];exact hlp
   ·exact ⟨b,cs,hb1,hb2,setRow_heap _ _ _ _ _ _ hb3,hzs,fun _=>⟨by rw [getD_set_ne false (Ne.symm hyq)];exact hly,hy⟩⟩
  ·by_cases hip:i=p
   ·subst hip
    rw [hop] at ho;cases ho
    have hqn:listed.getD q false=false:=by
     cases h:listed.getD q false with
     | false=>rfl
     | true=>rw [hI.pq h] at hno;cases hno
    unfold Oper.wp
    rw [hopr]
    show MI2 slot R fixed N i q yi te z.size _ _ (a1.put op.dst _) _
    rw [hd]
    have hba:=(Below.refl w1.heap.size w1).alloc (Nat.le_refl _) (.cells z te)
    refine ⟨hI.df,by simp [Act.put,hI.sz],hI.bl.alloc hI.bl.size _,fun x hx=>?_,fun j hjp hjq hj=>?_,fun h=>?_,fun _=>?_⟩
    ·have:=hI.fx x hx
     simp only [Act.put]
     rw [←this]
     simp [Array.getElem?_setIfInBounds_ne (Ne.symm (hfk x hx))]
    ·rw [getD_set_ne false (Ne.symm hjp)] at hj
     have hjs:j<ops.size:=by
      rcases Nat.lt_or_ge j listed.size with h | h
      ·omega
      ·simp [Array.getElem?_eq_none h] at hj
     have hne:slot i≠slot j:=fun e=>hjp (hinj j hjs hjq e).symm
     simp only [Act.put]
     have:=hper j _ _ _ (hI.rs j hjp hjq hj) hba
     simpa [Array.getElem?_setIfInBounds_ne hne] using this
    ·rw [getD_set_ne false hpq] at h
     rw [hqn] at h;cases h
    ·refine ⟨w1.heap.size,z,?_,hI.bl.size,?_,rfl,fun h=>?_⟩
     ·simp only [Act.put]
      have hz:slot i<a1.tmps.size:=by rw [hI.sz];exact hsl
      simp [hz]
     ·show (w1.heap.push _)[w1.heap.size]?=_
      simp
     ·rw [getD_set_ne false hpq] at h
      rw [hqn] at h;cases h
   ·have hok:=hstep.at (P:=P) ops.toList 0 i o (by simpa using ho) (by omega) (by omega) a1 w1 hI.bl hI.fx (fun e he hbd hne hnq=>hI.rs _ hne hnq (hdep e he hbd))
    rw [Nat.zero_add] at hok
    refine hok.wp fun v w'' hp=>?_
    rw [hd]
    refine ⟨hI.df,by simp [Act.put,hI.sz],hI.bl.trans (hp.1.mono hI.bl.size),fun x hx=>?_,fun j hjp hjq hj=>?_,fun h=>?_,fun h=>?_⟩
    ·have:=hI.fx x hx
     simp only [Act.put]
     rw [←this]
     simp [Array.getElem?_setIfInBounds_ne (Ne.symm (hfk x hx))]
    ·by_cases hji:i=j
     ·subst hji
      simp only [Act.put]
      have hz:slot i<a1.tmps.size:=by rw [hI.sz];exact hsl
      simpa [hz] using hp.2
     ·rw [getD_set_ne false hji] at hj
      have hjs:j<ops.size:=by
       rcases Nat.lt_or_ge j listed.size with h | h
       ·omega
       ·simp [Array.getElem?_eq_none h] at hj
      have hne:slot i≠slot j:=fun e=>hji (hinj j hjs hjq e)
      simp only [Act.put]
      have:=hper j _ _ _ (hI.rs j hjp hjq hj) hp.1
      simpa [Array.getElem?_setIfInBounds_ne hne] using this
    ·rw [getD_set_ne false hiq] at h
     rw [getD_set_ne false hip];exact hI.pq h
    ·rw [getD_set_ne false hip] at h
     obtain ⟨b,c,hb1,hb2,hb3,hb4,hb5⟩:=hI.al h
     have hne:slot i≠slot p:=fun e=>hip (hinj p hpl hpq e)
     refine ⟨b,c,?_,hb2,?_,hb4,fun h'=>?_⟩
     rotate_left 2
     ·rw [getD_set_ne false hiq] at h'
      obtain ⟨h5,h6⟩:=hb5 h'
      have hiy:i≠yi:=fun e=>by rw [e,h5] at hno;cases hno
      refine ⟨by rw [getD_set_ne false hiy];exact h5,?_⟩
      have hyl:yi<ops.size:=by
       rcases Nat.lt_or_ge yi listed.size with h | h
       ·omega
       ·simp [Array.getElem?_eq_none h] at h5
      have hne':slot i≠slot yi:=fun e=>hiy (hinj yi hyl hyq e)
      simp only [Act.put]
      simpa [Array.getElem?_setIfInBounds_ne hne'] using h6
     ·simp only [Act.put]
      simpa [Array.getElem?_setIfInBounds_ne hne] using hb1
     ·rw [hp.1.block b ((Array.getElem?_eq_some_iff.1 hb3).1)];exact hb3
 ·intro listed a1 w1 hI hall'
  obtain ⟨b,c,hb1,hb2,hb3,hb4,hb5⟩:=hI.al (hall' p hpl)
  exact hend a1 w1 b c hI.df hI.sz hI.bl hI.fx (fun j hj hjp hjq=>hI.rs j hjp hjq (hall' j hj)) hb1 hb2 hb3 (hb5 (hall' q hql)).2
 ·intro j _ _ hj;simp [Array.getElem?_replicate] at hj;split at hj<;>simp at hj
 ·intro hj;simp [Array.getElem?_replicate] at hj;split at hj<;>simp at hj
 ·intro hj;simp [Array.getElem?_replicate] at hj;split at hj<;>simp at hj
end
end Go.Proofs.YtcegdgmbponapabGreatDoor