/-
  Delete and Refresh of a coffer with several objects: what is at the stores behind them, done or cut off.
  Recover of a coffer with several objects: what was cut off is settled.
  Up, CrashAt, Spoil, Get, Shard, Objects of a coffer with several objects.
  Get and Objects of a coffer with several objects.
-/
import Derived.Test.YtcegdgmbponapabGreatDoorPart28
namespace Go.Proofs.YtcegdgmbponapabGreatDoor
open Go.RowKit
section
variable {w:World} {L:Seat} {s:Sta}
theorem Bank.del_go (h:Bank w L s) (hc:Calm L s) (nm:ByteArray) (hyes:hasName (s.rss 0) nm=true) (hup:∀i,i<L.n→s.dn i=false) :
  Calls Tryz.prog 18 #[.pointer (some ⟨L.C,0,none⟩),.string nm] w fun e w' =>
   ∃s' k,Bank w' L s'∧s'.dn=s.dn∧s'.X=s.X∧(∀i,s'.rss i=delL s.rss nm k i)∧EndsC L s s' L.n k e∧Spared (Mine L s) w w':=by
 obtain ⟨hcr,hev⟩:=hc
 have hst:∀i,i<L.n→Sto w (L.sp i) false (s.vs i) (s.rss i):=fun i hi=>by have:=h.st i hi;rw [hup i hi] at this;exact this
 have key:Calls Tryz.prog 40 #[.pointer (some ⟨L.V,0,none⟩),.string nm] w fun e w'=>Both 1 2
   (fun w'=>∃s',Bank w' L s'∧s'.dn=s.dn∧s'.X=s.X∧(∀i,s'.rss i=delL s.rss nm L.n i)∧s'.p=s.p.ticks L.n∧Calm L s'∧Spared (Mine L s) w w')
   (fun w'=>∃s' k,Bank w' L s'∧s'.dn=s.dn∧s'.X=s.X∧(∀i,s'.rss i=delL s.rss nm k i)∧k<L.n∧(s'.p=(s.p.ticks k).fall∧(s.p.ticks k).halts=true)∧Torn L s'∧Spared (Mine L s) w w') e w':=by
  refine (vdelete_gen L.base L.V L.key L.n L.B L.bc L.sp s.p nm s.vs s.rss w h.n1 h.n8 h.vp hcr hst hyes h.si h.vi h.G h.bV h.bsp h.bv).mono ?_
  rintro e w' ⟨k,⟨⟨hk1,_,hend⟩,us,hm⟩,hsp⟩
  have bank:∀p',Vp w' L.V L.key L.n L.B L.bc L.sp p'→Bank w' L ⟨s.dn,us,delL s.rss nm k,p',s.X⟩:=fun p' hvp=>by
   refine h.next ⟨s.dn,us,delL s.rss nm k,p',s.X⟩ hsp hvp (fun i hi=>?_) hm.blk hm.dis (fun i hi r hr=>h.stays hsp s.X (fun _ _=>rfl) i hi r (delL_sub k i r hr)) (fun i j hi hj r hr q hq b hb1 hb2=>h.ap i j hi hj r (delL_sub k i r hr) q (delL_sub k j q hq) b hb1 hb2)
   have:=hm.st i hi
   show Sto w' (L.sp i) (s.dn i) (us i) (delL s.rss nm k i)
   rw [hup i hi]
   exact this
  rcases hend with ⟨hk2,rfl,hvp⟩|⟨hk2,hh,⟨ev,rfl,hch⟩,hvp⟩
  ·subst hk2
   exact .inl ⟨rfl,_,bank _ hvp,rfl,rfl,fun _=>rfl,rfl,⟨Pen.ticks_fine hcr _,even_del h.n1 hev h.so⟩,Mine.of hsp⟩
  ·refine .inr ⟨ev,rfl,hch,(bank _ hvp).G.et,_,k,bank _ hvp,rfl,rfl,fun _=>rfl,hk2,⟨rfl,hh⟩,⟨rfl,?_⟩,Mine.of hsp⟩
   have:=cut_del (nm:=nm) h.n1 hev h.so hyes k hk2
   by_cases h0:k=0
   ·exact ⟨_,_,this.trans (by rw [if_pos h0])⟩
   ·exact ⟨_,_,this.trans (by rw [if_neg h0])⟩
 refine (cdelete_both L.C L.V 2 1 nm w _ _ h.cf (by omega) key).mono ?_
 rintro e w' (⟨rfl,w1,⟨s',hb,hn,hx,hr,hpn,hcalm,hmi⟩,hb'⟩|⟨rfl,w1,⟨s',k,hb,hn,hx,hr,hk,hpn,htorn,hmi⟩,hb'⟩)
 ·exact ⟨s',L.n,hb.below hb',hn,hx,hr,.inl ⟨rfl,rfl,hpn,hcalm⟩,hmi.trans (Mine.below hb')⟩
 ·exact ⟨s',k,hb.below hb',hn,hx,hr,.inr ⟨hk,rfl,hpn,htorn⟩,hmi.trans (Mine.below hb')⟩
theorem Bank.held (h:Bank w L s) (hc:Calm L s) (nm:ByteArray) (hyes:hasName (s.rss 0) nm=true) (o:Ob) (ho:o=(recOf (s.rss 0) nm).ob) :
  HeldL w L.base L.V L.key L.n L.B L.bc L.sp s.dn o.mode o.t o.l o.size o.epoch nm (Cof.ngroups o.mode o.t o.l o.size) (fun i=>(recOf (s.rss i) nm).x s.X) s.vs s.rss∧(∀i,i<L.n→hasName (s.rss i) nm=true∧(recOf (s.rss i) nm).ob=o∧RecGood w L.base L.n s.X (recOf (s.rss i) nm)∧(recOf (s.rss i) nm).na=none)∧o.name=nm:=by
 obtain ⟨hcr,hev⟩:=hc
 have hy:∀i,i<L.n→hasName (s.rss i) nm=true:=fun i hi=>by rw [hev.hasName h.n1 h.so nm i hi];exact hyes
 have h0:=recOf_mem hyes
 have hob:∀i,i<L.n→(recOf (s.rss i) nm).ob=o:=fun i hi=>by
  have:=(hev.has h.so 0 i (by have:=h.n1;omega) hi _ h0.1).2.1
  rw [h0.2] at this
  rw [this,ho]
 have hg:∀i,i<L.n→RecGood w L.base L.n s.X (recOf (s.rss i) nm):=fun i hi=>h.ok i hi _ (recOf_mem (hy i hi)).1
 have hnm:∀i,i<L.n→(recOf (s.rss i) nm).name=nm:=fun i hi=>(recOf_mem (hy i hi)).2
 refine ⟨⟨⟨s.p.done,s.p.crashes,s.p.ahead,by have:=h.vp;unfold Vp at this;rw [hcr] at this;exact this⟩,h.st,hy,fun i hi=>?_,fun i hi=>?_,fun i hi=>(hg i hi).own⟩,fun i hi=>⟨hy i hi,hob i hi,hg i hi,hev.bare i hi _ (recOf_mem (hy i hi)).1⟩,by rw [ho];exact h0.2⟩
 ·have:=hob i hi
  subst this
  exact ⟨hnm i hi,rfl,rfl,rfl,rfl,rfl⟩
 ·have h1:=(hg i hi).sn
  rw [hnm i hi] at h1
  have:=hob i hi
  subst this
  exact h1
theorem Bank.ref_go (h:Bank w L s) (hc:Calm L s) (nm tape:ByteArray) (hyes:hasName (s.rss 0) nm=true) (o:Ob) (ho:o=(recOf (s.rss 0) nm).ob) (hup:∀i,i<L.n→s.dn i=false) (hm:o.mode=0) (he:o.epoch<100) (htp:Cof.tsize o.mode o.t*Cof.ngroups o.mode o.t o.l o.size≤tape.size)
  (P:Nat→List UInt8) (hP:∀i,i<L.n→Cof.Good L.key (Cof.head o.mode o.t o.l L.n i o.epoch o.size nm.data.toList) (Cof.ngroups o.mode o.t o.l o.size) ((recOf (s.rss i) nm).x s.X) (P i)) :
  Calls Tryz.prog 17 #[.pointer (some ⟨L.C,0,none⟩),.string nm,.string tape] w fun e w' =>
   ∃s' ys k,Bank w' L s'∧News L s s' ⟨nm,0,o.t,o.l,o.size,o.epoch+1⟩ (fun i=>shardOf L.key ⟨nm,0,o.t,o.l,o.size,o.epoch+1⟩ L.n i (Cof.sumRow (P i) ((Cof.split (List.replicate o.size 0) 0 o.t o.l L.n tape.data.toList).getD i []))) ys∧(∀i,s'.rss i=refL L.n s.rss nm ys k i)∧EndsC L s s' (2*L.n) k e∧Spared (Mine L s) w w':=by
 obtain ⟨hH,hall,hon⟩:=h.held hc nm hyes o ho
 obtain ⟨hcr,hev⟩:=hc
 obtain ⟨onm,om,ot,ol,oz,oe⟩:=o
 simp only at hm he htp hH hall hon hP ⊢
 subst hm hon
 have hn1:=h.n1
 have hst:∀i,i<L.n→Sto w (L.sp i) false (s.vs i) (s.rss i):=fun i hi=>by have:=h.st i hi;rw [hup i hi] at this;exact this
 have hy:=fun i hi=>(hall i hi).1
 have hob:=fun i hi=>(hall i hi).2.1
 have hg0:=(hall 0 (by omega)).2.2.1
 have ho0:=hob 0 (by omega)
 have hpl:IsPlan 0 ot ol L.n:=by have:=hg0.plan;have e:=ho0;simp only [RecV.ob,Ob.mk.injEq] at e;rw [e.2.1,e.2.2.1,e.2.2.2.1] at this;exact this
 have hz:oz≤60:=by have:=hg0.z;have e:=ho0;simp only [RecV.ob,Ob.mk.injEq] at e;omega
 have hnm1:1≤onm.size:=by have:=hg0.n1;have e:=ho0;simp only [RecV.ob,Ob.mk.injEq] at e;rw [e.1] at this;exact this
 have hnm12:onm.size≤12:=by have:=hg0.n12;have e:=ho0;simp only [RecV.ob,Ob.mk.injEq] at e;rw [e.1] at this;exact this
 have hng:=ngroups_le hpl oz hz
 have hPl:∀i,i<L.n→(P i).length=Cof.ngroups 0 ot ol oz:=fun i hi=>(hP i hi).1
 have key:Calls Tryz.prog 39 #[.pointer (some ⟨L.V,0,none⟩),.string onm,.string tape] w fun e w'=>Both 1 2
   (fun w'=>∃s' ys,Bank w' L s'∧News L s s' ⟨onm,0,ot,ol,oz,oe+1⟩ (fun i=>shardOf L.key ⟨onm,0,ot,ol,oz,oe+1⟩ L.n i (Cof.sumRow (P i) ((Cof.split (List.replicate oz 0) 0 ot ol L.n tape.data.toList).getD i []))) ys∧(∀i,s'.rss i=refL L.n s.rss onm ys (2*L.n) i)∧s'.p=s.p.ticks (2*L.n)∧Calm L s'∧Spared (Mine L s) w w')
   (fun w'=>∃s' ys k,Bank w' L s'∧News L s s' ⟨onm,0,ot,ol,oz,oe+1⟩ (fun i=>shardOf L.key ⟨onm,0,ot,ol,oz,oe+1⟩ L.n i (Cof.sumRow (P i) ((Cof.split (List.replicate oz 0) 0 ot ol L.n tape.data.toList).getD i []))) ys∧(∀i,s'.rss i=refL L.n s.rss onm ys k i)∧k<2*L.n∧(s'.p=(s.p.ticks k).fall∧(s.p.ticks k).halts=true)∧Torn L s'∧Spared (Mine L s) w w') e w':=by
  refine (vrefresh_gen L.base L.V L.key L.n L.B L.bc L.sp s.p ot ol oz oe onm tape P s.vs s.rss w h.vp hcr hst hy hob hpl he hz hnm12 h.hk htp h.G h.bV h.bv hPl (fun i j hij hj=>h.vi i j (by omega) hj (by omega))
   (fun i hi w' hb hT=>hH.piece_good hpl (by omega) hz hnm1 hnm12 h.hk hng i hi (P i) (hP i hi) w' hb hT)).mono ?_
  rintro e w' ⟨ys,k,⟨hk1,_,hend⟩,hK,hyl,hys,hinj,hsp0⟩
  have hsp:Spared (fun b=>b=L.V∨moveOwn L.n L.sp s.vs b) w w':=hsp0.mono fun b hb=>hb.imp id (fun ⟨i,hi,e⟩=>⟨i,hi,.inr e⟩)
  obtain ⟨Z,hZ⟩:∃Z:Nat→List UInt8,Z=fun i=>shardOf L.key ⟨onm,0,ot,ol,oz,oe+1⟩ L.n i (Cof.sumRow (P i) ((Cof.split (List.replicate oz 0) 0 ot ol L.n tape.data.toList).getD i [])):=⟨_,rfl⟩
  obtain ⟨X',hX'⟩:∃X',X'=newX s.X w.heap.size L.n ys Z:=⟨_,rfl⟩
  have hXo:∀b,b<w.heap.size→X' b=s.X b:=fun b hb=>by rw [hX'];exact newX_old hb
  have hXn:∀i,i<L.n→(ys[i]!).x X'=Z i:=fun i hi=>by
   obtain ⟨b,e1,e2,e3,_,_⟩:=(hys i hi).blkNo
   unfold RecV.x
   rw [e1,hX']
   exact newX_new hinj hi e2 e3
  have hyo:∀i,i<L.n→(ys[i]!).ob=⟨onm,0,ot,ol,oz,oe+1⟩∧(ys[i]!).na=none∧(ys[i]!).sa≠none:=fun i hi=>by
   obtain ⟨e1,e2,e3,e4,e5,e6,e7,_⟩:=(hys i hi).e
   obtain ⟨b,f1,_⟩:=(hys i hi).blkNo
   refine ⟨by unfold RecV.ob;rw [e1,e2,e3,e4,e5,e6],e7,by rw [f1];simp⟩
  have hold:∀i,i<L.n→∀r∈s.rss i,r.x X'=r.x s.X:=fun i hi r hr=>by
   have hg:=h.ok i hi r hr
   obtain ⟨g,e1,hg1,_⟩:=hg.sa
   unfold RecV.x
   rw [e1]
   exact hXo g (hg.lt hg1)
  have hlen:∀i,i<L.n→(Cof.sumRow (P i) ((Cof.split (List.replicate oz 0) 0 ot ol L.n tape.data.toList).getD i [])).length=Cof.ngroups 0 ot ol oz:=fun i hi=>by
   have h1:=split_len hpl (List.replicate oz 0) tape.data.toList i hi (by simpa using htp)
   rw [List.length_replicate] at h1
   unfold Cof.sumRow
   rw [List.length_map,List.length_range,h1,hPl i hi,Nat.max_self]
  have hyg:∀i,i<L.n→RecGood w' L.base L.n X' (ys[i]!):=fun i hi=>(hys i hi).good h.G.bs hpl hz (by omega) (by omega) hnm1 hnm12 (hlen i hi) (by rw [hXn i hi,hZ];rfl)
  have hrg:∀i,i<L.n→RecGood w' L.base L.n X' (recOf (s.rss i) onm):=fun i hi=>h.stays hsp X' hXo i hi _ (recOf_mem (hy i hi)).1
  have hfld:∀i,i<L.n→(recOf (s.rss i) onm).mode=0∧(recOf (s.rss i) onm).epoch=oe∧(recOf (s.rss i) onm).name=onm∧(recOf (s.rss i) onm).t=ot∧(recOf (s.rss i) onm).l=ol∧(recOf (s.rss i) onm).size=oz:=fun i hi=>by
   have e:=hob i hi
   simp only [RecV.ob,Ob.mk.injEq] at e
   exact ⟨e.2.1,e.2.2.2.2.2,e.1,e.2.2.1,e.2.2.2.1,e.2.2.2.2.1⟩
  have hsn:∀i,i<L.n→(ys[i]!).sn=(recOf (s.rss i) onm).sn:=fun i hi=>by
   rw [(hys i hi).sn,hlen i hi,(hrg i hi).sn]
   obtain ⟨f1,f2,f3,f4,f5,f6⟩:=hfld i hi
   rw [f1,f3,f4,f5,f6]
  have hdif:∀i,i<L.n→blkNo (ys[i]!).sa≠blkNo (recOf (s.rss i) onm).sa:=fun i hi e=>by
   obtain ⟨b,e1,_,e3,_,_⟩:=(hys i hi).blkNo
   have hg:=h.ok i hi _ (recOf_mem (hy i hi)).1
   obtain ⟨g,f1,hg1,_⟩:=hg.sa
   have:=hg.lt hg1
   rw [e1,f1] at e
   simp only [blkNo] at e
   omega
  have lg:∀i,i<L.n→RecGood w' L.base L.n X' ((recOf (s.rss i) onm).laid (ys[i]!)):=fun i hi=>by
   have g:=hrg i hi
   obtain ⟨f1,f2,f3,f4,f5,f6⟩:=hfld i hi
   refine ⟨g.plan,g.z,g.e,g.m1,g.n1,g.n12,g.sn,g.own,.inr ⟨(hyo i hi).2.2,f1,by show (recOf (s.rss i) onm).epoch<100;omega,hsn i hi,(hyg i hi).own,hdif i hi⟩⟩
  have tg:∀i,i<L.n→RecGood w' L.base L.n X' ((recOf (s.rss i) onm).laid (ys[i]!)).turned:=fun i hi=>by
   have g:=hrg i hi
   obtain ⟨f1,f2,f3,f4,f5,f6⟩:=hfld i hi
   refine ⟨g.plan,g.z,by show (recOf (s.rss i) onm).epoch+1≤100;omega,fun hm1=>absurd (show (recOf (s.rss i) onm).mode=1 from hm1) (by rw [f1];decide),g.n1,g.n12,?_,(hyg i hi).own,.inl ⟨rfl,rfl,rfl⟩⟩
   show (ys[i]!).sn=_
   rw [hsn i hi]
   exact g.sn
  have bgood:∀i,i<L.n→RecGood w' L.base L.n X' (refState L.n (fun q=>recOf (s.rss q) onm) ys k i):=fun i hi=>by
   unfold refState
   split
   ·exact tg i hi
   ·split
    ·exact lg i hi
    ·exact hrg i hi
  have bb:∀i,i<L.n→∀b,b∈(refState L.n (fun q=>recOf (s.rss q) onm) ys k i).blks→b∈(recOf (s.rss i) onm).blks∨b∈(ys[i]!).blks:=fun i hi b hb=>by
   have hna:=(hall i hi).2.2.2
   have hyna:=(hyo i hi).2.1
   unfold refState at hb
   split at hb
   ·rcases (mem_blks _ _).1 hb with ⟨a,ha,e⟩|⟨a,ha,e⟩
    ·exact .inr ((mem_blks _ _).2 (.inl ⟨a,ha,e⟩))
    ·cases ha
   ·split at hb
    ·rcases (mem_blks _ _).1 hb with ⟨a,ha,e⟩|⟨a,ha,e⟩
     ·exact .inl ((mem_blks _ _).2 (.inl ⟨a,ha,e⟩))
     ·exact .inr ((mem_blks _ _).2 (.inl ⟨a,ha,e⟩))
    ·exact .inl hb
  have hyb:∀i,i<L.n→∀b,b∈(ys[i]!).blks→(ys[i]!).blk=some b∧w.heap.size≤b:=fun i hi b hb=>by
   obtain ⟨g,_,e2,e3,_,e5⟩:=(hys i hi).blkNo
   rw [e5,List.mem_singleton] at hb
   subst hb
   exact ⟨e2,e3⟩
  have ap:Asunder L.n (refL L.n s.rss onm ys k):=by
   have cover:∀i,i<L.n→∀r∈refL L.n s.rss onm ys k i,∀b,b∈r.blks→(∃q∈s.rss i,b∈q.blks∧(r=q∨(r=refState L.n (fun q=>recOf (s.rss q) onm) ys k i∧q=recOf (s.rss i) onm)))∨(b∈(ys[i]!).blks∧r=refState L.n (fun q=>recOf (s.rss q) onm) ys k i):=fun i hi r hr b hb=>by
    rcases (refL_mem h.so hy k i hi r).1 hr with e | ⟨hr,_⟩
    ·rw [e] at hb
     rcases bb i hi b hb with hb | hb
     ·exact .inl ⟨_,(recOf_mem (hy i hi)).1,hb,.inr ⟨e,rfl⟩⟩
     ·exact .inr ⟨hb,e⟩
    ·exact .inl ⟨r,hr,hb,.inl rfl⟩
   intro i j hi hj r hr q hq b hb1 hb2
   rcases cover i hi r hr b hb1 with ⟨r0,hr0,hbr,hrr⟩|⟨hbr,hrr⟩
   ·rcases cover j hj q hq b hb2 with ⟨q0,hq0,hbq,hqq⟩|⟨hbq,hqq⟩
    ·obtain ⟨rfl,rfl⟩:=h.ap i j hi hj r0 hr0 q0 hq0 b hbr hbq
     refine ⟨rfl,?_⟩
     have hnn:=fun i hi=>refL_name (ys:=ys) hy k i hi
     rcases hrr with e | ⟨e,e'⟩
     ·rcases hqq with f | ⟨f,f'⟩
      ·rw [e,f]
      ·
       subst e
       rcases (refL_mem h.so hy k i hi r).1 hr with g | ⟨_,g⟩
       ·rw [g,f]
       ·exact absurd (by rw [f'];exact (recOf_mem (hy i hi)).2) g
     ·rcases hqq with f | ⟨f,f'⟩
      ·subst f
       rcases (refL_mem h.so hy k i hi q).1 hq with g | ⟨_,g⟩
       ·rw [e,g]
       ·exact absurd (by rw [e'];exact (recOf_mem (hy i hi)).2) g
      ·rw [e,f]
    ·have h1:=(h.ok i hi r0 hr0).lt hbr
     have h2:=(hyb j hj b hbq).2
     omega
   ·rcases cover j hj q hq b hb2 with ⟨q0,hq0,hbq,hqq⟩|⟨hbq,hqq⟩
    ·have h1:=(h.ok j hj q0 hq0).lt hbq
     have h2:=(hyb i hi b hbr).2
     omega
    ·have e1:=(hyb i hi b hbr).1
     have e2:=(hyb j hj b hbq).1
     have:i=j:=by
      rcases Nat.lt_trichotomy i j with h | h | h
      ·exact absurd (e1.trans e2.symm) (hinj i j h hj)
      ·exact h
      ·exact absurd (e2.trans e1.symm) (hinj j i h hi)
     subst this
     exact ⟨rfl,by rw [hrr,hqq]⟩
  have bank:∀p',Vp w' L.V L.key L.n L.B L.bc L.sp p'→Bank w' L ⟨s.dn,s.vs,refL L.n s.rss onm ys k,p',X'⟩:=fun p' hvp=>by
   refine h.next ⟨s.dn,s.vs,refL L.n s.rss onm ys k,p',X'⟩ hsp hvp (fun i hi=>?_) (fun _ _=>.inl rfl) h.vi (fun i hi r hr=>?_) ap
   ·show Sto w' (L.sp i) (s.dn i) (s.vs i) (refL L.n s.rss onm ys k i)
    rw [hup i hi]
    exact hK i hi
   ·rcases (refL_mem h.so hy k i hi r).1 hr with e | ⟨hr,_⟩
    ·rw [e];exact bgood i hi
    ·exact h.stays hsp X' hXo i hi r hr
  have news:∀p',News L s ⟨s.dn,s.vs,refL L.n s.rss onm ys k,p',X'⟩ ⟨onm,0,ot,ol,oz,oe+1⟩ Z ys:=fun p'=>⟨fun _ _=>rfl,hold,hyo,hXn⟩
  rw [←hZ]
  rcases hend with ⟨hk2,rfl,hvp⟩|⟨hk2,hh,⟨ev,rfl,hch⟩,hvp⟩
  ·subst hk2
   exact .inl ⟨rfl,_,ys,bank _ hvp,news _,fun _=>rfl,rfl,⟨Pen.ticks_fine hcr _,even_ref h.n1 hev h.so hy hob (by show oe<1000;omega)⟩,Mine.of hsp⟩
  ·refine .inr ⟨ev,rfl,hch,(bank _ hvp).G.et,_,ys,k,bank _ hvp,news _,fun _=>rfl,hk2,⟨rfl,hh⟩,⟨rfl,?_⟩,Mine.of hsp⟩
   have:=cut_ref h.n1 hev h.so hy hob (ys:=ys) (fun i hi=>(hyo i hi).2.2) k hk2
   by_cases h0:k=0
   ·exact ⟨_,_,this.trans (by rw [if_pos h0])⟩
   ·exact ⟨_,_,this.trans (by rw [if_neg h0])⟩
 refine (crefresh_both L.C L.V 2 1 onm tape w _ _ h.cf (by omega) key).mono ?_
 rintro e w' (⟨rfl,w1,⟨s',ys,hb,hn,hr,hpn,hcalm,hmi⟩,hb'⟩|⟨rfl,w1,⟨s',ys,k,hb,hn,hr,hk,hpn,htorn,hmi⟩,hb'⟩)
 ·exact ⟨s',ys,2*L.n,hb.below hb',hn,hr,.inl ⟨rfl,rfl,hpn,hcalm⟩,hmi.trans (Mine.below hb')⟩
 ·exact ⟨s',ys,k,hb.below hb',hn,hr,.inr ⟨hk,rfl,hpn,htorn⟩,hmi.trans (Mine.below hb')⟩
end
theorem settled_from {rs:List RecV} (hs:Sorted rs) {c:Nat} (nm:ByteArray) (r:RecV) (h:r∈settled c nm rs):∃q∈rs,r.name=q.name∧(∀b∈r.blks,b∈q.blks)∧(r=q∨(q.na≠none∧r=q.turned)∨r=q.laid (RecV.bare nm 0 0 0 0 0)):=by
 unfold settled at h
 split at h
 ·exact ⟨r,((remR_mem _ _ _).1 h).1,rfl,fun _ h=>h,.inl rfl⟩
 ·split at h
  ·rename_i hy
   have hm:=recOf_mem hy
   split at h
   ·split at h
    ·exact ⟨r,h,rfl,fun _ h=>h,.inl rfl⟩
    ·rename_i hna
     rcases (setR_mem hs hy _ _).1 h with e | ⟨h,_⟩
     ·refine ⟨_,hm.1,by rw [e];rfl,fun b hb=>?_,.inr (.inl ⟨hna,e⟩)⟩
      rw [e] at hb
      rcases (mem_blks _ _).1 hb with ⟨a,ha,e⟩|⟨a,ha,e⟩
      ·exact (mem_blks _ _).2 (.inr ⟨a,ha,e⟩)
      ·cases ha
     ·exact ⟨r,h,rfl,fun _ h=>h,.inl rfl⟩
   ·rcases (setR_mem hs hy _ _).1 h with e | ⟨h,_⟩
    ·refine ⟨_,hm.1,by rw [e];rfl,fun b hb=>?_,.inr (.inr e)⟩
     rw [e] at hb
     rcases (mem_blks _ _).1 hb with ⟨a,ha,e⟩|⟨a,ha,e⟩
     ·exact (mem_blks _ _).2 (.inl ⟨a,ha,e⟩)
     ·cases ha
    ·exact ⟨r,h,rfl,fun _ h=>h,.inl rfl⟩
  ·exact ⟨r,h,rfl,fun _ h=>h,.inl rfl⟩
theorem sorted_unique {rs:List RecV} (hs:Sorted rs) {r q:RecV} (hr:r∈rs) (hq:q∈rs) (h:r.name=q.name):r=q:=by
 rw [←recOf_of hs r hr,←recOf_of hs q hq,h]
theorem RecGood.turned {w:World} {base n:Nat} {X:Nat→List UInt8} {r:RecV} (h:RecGood w base n X r) (hna:r.na≠none):RecGood w base n X r.turned:=by
 rcases h.nx with ⟨h1,_⟩|⟨_,h2,h3,h4,h5,h6⟩
 ·exact absurd h1 hna
 ·refine ⟨h.plan,h.z,by show r.epoch+1≤100;omega,fun hm=>absurd (show r.mode=1 from hm) (by omega),h.n1,h.n12,?_,h5,.inl ⟨rfl,rfl,rfl⟩⟩
  show r.nn=_
  rw [h4]
  exact h.sn
theorem RecGood.dropped {w:World} {base n:Nat} {X:Nat→List UInt8} {r:RecV} (h:RecGood w base n X r) (nm:ByteArray):RecGood w base n X (r.laid (RecV.bare nm 0 0 0 0 0)) :=
 ⟨h.plan,h.z,h.e,h.m1,h.n1,h.n12,h.sn,h.own,.inl ⟨rfl,rfl,rfl⟩⟩
theorem RecGood.settled {w:World} {base n:Nat} {X:Nat→List UInt8} {rs:List RecV} (hs:Sorted rs) (hg:∀r∈rs,RecGood w base n X r) {c:Nat} (nm:ByteArray) (r:RecV) (h:r∈settled c nm rs):RecGood w base n X r:=by
 obtain ⟨q,hq,_,_,rfl | ⟨hna,rfl⟩|rfl⟩:=settled_from hs nm r h
 ·exact hg r hq
 ·exact (hg q hq).turned hna
 ·exact (hg q hq).dropped nm
theorem Asunder.settled {n:Nat} {rss:Nat→List RecV} (h:Asunder n rss) (hso:∀i,i<n→Sorted (rss i)) {c:Nat} (nm:ByteArray):Asunder n (fun i=>settled c nm (rss i)):=by
 intro i j hi hj r hr q hq b hb1 hb2
 obtain ⟨r0,hr0,hrn,hrb,_⟩:=settled_from (hso i hi) nm r hr
 obtain ⟨q0,hq0,hqn,hqb,_⟩:=settled_from (hso j hj) nm q hq
 obtain ⟨rfl,rfl⟩:=h i j hi hj r0 hr0 q0 hq0 b (hrb b hb1) (hqb b hb2)
 exact ⟨rfl,sorted_unique (settled_sorted (hso i hi) c nm) hr hq (by rw [hrn,hqn])⟩
def settleL (o:Option (List UInt8 × Nat)) (rs:List RecV):List RecV:=match o with
 | some (g,c)=>if c=5 then rs else settled c ⟨g.toArray⟩ rs
 | none=>rs
theorem Pen.free (p:Pen) (h:p.crashes=false) (k:Nat):(p.ticks k).halts=false:=by
 unfold Pen.halts
 rw [(Pen.ticks_crashes p k).1,h]
 rfl
section
variable {w:World} {L:Seat} {s:Sta}
theorem Bank.settle_go (h:Bank w L s) (hp:s.p.crashes=false) (hcr:s.p.crashed=false) (hcut:∃g c,cutOf L.n s.rss=some (g,c)) :
  Calls Tryz.prog 52 #[.pointer (some ⟨L.V,0,none⟩)] w fun e w'=>∃v,e=.returned v∧v=.nilIface∧∃s' k,Bank w' L s'∧Calm L s'∧s'.dn=s.dn∧s'.X=s.X∧s'.p=s.p.ticks k∧(∀i,i<L.n→s'.rss i=settleL (cutOf L.n s.rss) (s.rss i))∧Spared (Mine L s) w w':=by
 obtain ⟨g,c,hq⟩:=hcut
 refine (settle_gen L.base L.V L.key L.n L.B L.bc L.sp s.dn s.vs s.rss s.p w h.vp h.n1 h.n8 h.st h.small h.si h.vi h.G h.bV h.bsp h.bv).mono ?_
 rintro e w' (⟨h0,_⟩|⟨f,h0,rfl,hb⟩|⟨f,c',t,h0,hc,⟨⟨_,_,hend⟩,us,hm⟩,hsp⟩)
 ·rw [hq] at h0;cases h0
 ·refine ⟨_,rfl,rfl,s,0,h.below hb,⟨hcr,cut_even h.n1 h.so h.small h0⟩,rfl,rfl,rfl,fun i _=>?_,Mine.below hb⟩
  rw [h0]
  rfl
 ·rcases hend with ⟨rfl,rfl,hvp⟩|⟨_,hh,_⟩
  ·have hsm:Small L.n (fun i=>settled c' ⟨f.toArray⟩ (s.rss i)):=fun i hi r hr=>by
    have hg:=RecGood.settled (h.so i hi) (h.ok i hi) _ r hr
    exact ⟨by have:=hg.e;omega,by have:=hg.n12;omega⟩
   refine ⟨_,rfl,rfl,⟨s.dn,us,fun i=>settled c' ⟨f.toArray⟩ (s.rss i),s.p.ticks L.n,s.X⟩,L.n,?_,⟨Pen.ticks_fine hcr _,settled_even h.n1 h.so h0 hc hsm⟩,rfl,rfl,rfl,fun i _=>?_,Mine.of hsp⟩
   ·refine h.next _ hsp hvp (fun i hi=>?_) hm.blk hm.dis (fun i hi r hr=>?_) (h.ap.settled h.so _)
    ·have:=hm.st i hi
     rw [if_pos hi] at this
     exact this
    ·exact RecGood.settled (h.so i hi) (fun q hq=>h.stays hsp s.X (fun _ _=>rfl) i hi q hq) _ r hr
   ·rw [h0]
    show settled c' ⟨f.toArray⟩ (s.rss i)=if c'=5 then s.rss i else settled c' ⟨f.toArray⟩ (s.rss i)
    rw [if_neg (by omega)]
  ·rw [Pen.free s.p hp t] at hh
   cases hh
theorem Bank.penNew (h:Bank w L s):Bank (penNew w L.V s.p.done) L ⟨s.dn,s.vs,s.rss,⟨s.p.done,false,0,false⟩,s.X⟩:=by
 have hsp:Spared (fun b=>b=L.V∨moveOwn L.n L.sp s.vs b) w (Go.Proofs.YtcegdgmbponapabGreatDoor.penNew w L.V s.p.done):=(penNew_spared w L.V s.p.done).mono fun _ h=>.inl h
 have hV:∀i,i<L.n→L.sp i≠L.V:=fun i hi e=>by have:=(h.st i hi).hp;rw [e,h.vp.hp] at this;cases this
 refine h.next ⟨s.dn,s.vs,s.rss,⟨s.p.done,false,0,false⟩,s.X⟩ hsp (penNew_vp h.vp h.BV) (fun i hi=>(h.st i hi).keeps (penNew_spared w L.V s.p.done) (hV i hi) (fun b hb e=>?_)) (fun _ _=>.inl rfl) h.vi (fun i hi r hr=>h.stays hsp s.X (fun _ _=>rfl) i hi r hr) h.ap
 subst e
 exact row_ne (h.st i hi).row h.vp.hp (by decide) hb
theorem Bank.cell5 (h:Bank w L s):w.cell? ⟨L.V,5,none⟩=some (.bool s.p.crashed):=by rw [cells_at h.vp.hp];rfl
theorem Bank.allUp_yes (h:Bank w L s) (hup:∀i,i<L.n→s.dn i=false):Calls Tryz.prog 63 #[.pointer (some ⟨L.V,0,none⟩)] w fun e w'=>e=.returned .nilIface∧w'=w :=
 Go.Proofs.YtcegdgmbponapabGreatDoor.allUp_yes L.V L.key L.n L.B 0 L.bc L.sp w (Vt.va h.vp) h.n8 (fun i hi=>by rw [cells_at (h.st i hi).hp,hup i hi];rfl)
theorem Bank.recover_go (h:Bank w L s) (ht:Torn L s) (hup:∀i,i<L.n→s.dn i=false) :
  Calls Tryz.prog 22 #[.pointer (some ⟨L.C,0,none⟩)] w fun e w'=>e=.returned (.int .i64 0)∧∃s',Bank w' L s'∧Calm L s'∧s'.dn=s.dn∧s'.X=s.X∧(∀i,i<L.n→s'.rss i=settleL (cutOf L.n s.rss) (s.rss i))∧s'.p.crashes=false∧Spared (Mine L s) w w':=by
 obtain ⟨hcr,hcut⟩:=ht
 refine crecover_nil L.C L.V () w _ h.cf (vrecover_go L.V L.key L.n L.B L.bc L.sp s.p w _ h.vp hcr (h.allUp_yes hup) ((h.penNew.settle_go rfl rfl hcut).mono ?_))
 rintro e w' ⟨v,rfl,rfl,s',k,h1,h2,h3,h4,h5,h6,h7⟩
 exact ⟨_,rfl,rfl,s',h1,h2,h3,h4,h6,by rw [h5];exact (Pen.ticks_crashes _ k).1,((penNew_spared w L.V s.p.done).mono fun _ h=>.inl h).trans h7⟩
end
end Go.Proofs.YtcegdgmbponapabGreatDoor
namespace Go.Proofs.YtcegdgmbponapabGreatDoor
open Go.RowKit
attribute [local go_sem ↓] Go.wp_at_zero Go.wp_at_succ
set_option maxRecDepth 100000 in
theorem store_va (V key n B bc:Nat) (sp:Nat→Nat) (i:Nat) (w:World) (h:Va w V key n B 0 bc sp) (hi:i<n) :
  Calls Tryz.prog 65 #[.pointer (some ⟨V,0,none⟩),.int .i64 i] w fun e w'=>e=.returned (.tuple #[.pointer (some ⟨sp i,0,none⟩),.nilIface])∧w'=w:=by
 have c1:=h.c1
 have k:=h.st i hi
 rw [Nat.zero_add] at k
 have hi':(i:Int)<(n:Int):=by omega
 have hi0:¬(i:Int)<0:=by omega
 clear h
 go_enter Tryz.func65,Tryz.ntmps65
 go_wp2
 go_ret2
 exact ⟨rfl,rfl⟩
set_option maxRecDepth 100000 in
theorem vup_va (V key n B bc:Nat) (sp:Nat→Nat) (i:Nat) (up old:Bool) (w:World) (h:Va w V key n B 0 bc sp) (hi:i<n) (hc:w.cell? ⟨sp i,0,none⟩=some (.bool old)) (hf:w.frozen? ⟨sp i,0,none⟩=false) :
  Calls Tryz.prog 41 #[.pointer (some ⟨V,0,none⟩),.int .i64 i,.bool up] w fun e w'=>e=.returned .nilIface∧w'=w.setCell ⟨sp i,0,none⟩ (.bool (!up)):=by
 have HO:=hid (store_va V key n B bc sp i w h hi)
 have HS:=hid (setUp_any (sp i) up old w hc hf)
 clear h hc hf
 go_enter Tryz.func41,Tryz.ntmps41
 go_wp2_with (go_at_call 65;refine HO.out.mono ?_;rintro e w0 ⟨rfl,rfl⟩)
 refine HS.out.mono ?_
 rintro e w1 ⟨rfl,rfl⟩
 go_wp2
 go_ret
 exact ⟨rfl,rfl⟩
theorem join_len {mode t l n:Nat} (hp:IsPlan mode t l n) (size:Nat) (ss:List Nat) (rows:List (List UInt8)):(Cof.join mode t l size ss rows).length=size:=by
 unfold Cof.join
 rw [List.length_take,Cof.gather_length]
 have h1:(Cof.carry (ss.map fun s=>UInt8.ofNat (1+s)) rows (Cof.groupAt mode t l)).length=Cof.gsize mode t l:=by rw [←Cof.groupAt_length];simp [Cof.carry]
 rw [h1]
 have h2:=(gsize_le hp).1
 have h3:size≤Cof.ngroups mode t l size*Cof.gsize mode t l:=by
  unfold Cof.ngroups
  have h4:=Nat.div_add_mod (size+Cof.gsize mode t l-1) (Cof.gsize mode t l)
  have h5:=Nat.mod_lt (size+Cof.gsize mode t l-1) h2
  rw [Nat.mul_comm] at h4
  omega
 omega
section
variable {w:World} {L:Seat} {s:Sta}
theorem Bank.up_go (h:Bank w L s) (i:Nat) (hi:i<L.n) (up:Bool) :
  Calls Tryz.prog 19 #[.pointer (some ⟨L.C,0,none⟩),.int .i64 i,.bool up] w fun e w'=>e=.returned (.int .i64 0)∧Bank w' L ⟨fun j=>if j=i then !up else s.dn j,s.vs,s.rss,s.p,s.X⟩∧Spared (Mine L s) w w':=by
 have hs:=h.st i hi
 refine (cup_nil L.C L.V i up w _ h.cf (vup_va L.V L.key L.n L.B L.bc L.sp i up (s.dn i) w (Vt.va h.vp) hi (by rw [cells_at hs.hp];rfl) (cells_fz hs.hp))).mono ?_
 rintro e w' ⟨rfl,rfl⟩
 have hsp1:Spared (fun b=>b=L.sp i) w (w.setCell ⟨L.sp i,0,none⟩ (.bool (!up))):=(Spared.refl (fun b=>b=L.sp i) w).setCell (p:=⟨L.sp i,0,none⟩) rfl _
 have hsp:Spared (fun b=>b=L.V∨moveOwn L.n L.sp s.vs b) w (w.setCell ⟨L.sp i,0,none⟩ (.bool (!up))):=hsp1.mono fun b hb=>.inr ⟨i,hi,.inl hb⟩
 obtain ⟨Lb,hL,_⟩:=h.vp.hb
 refine ⟨rfl,h.next _ hsp (h.vp.keeps hsp1 (fun e=>?_) (fun e=>?_)) (fun j hj=>?_) (fun _ _=>.inl rfl) h.vi (fun j hj r hr=>h.stays hsp s.X (fun _ _=>rfl) j hj r hr) h.ap,Mine.of hsp⟩
 ·have:=h.vp.hp;rw [e,hs.hp] at this;cases this
 ·rw [e,hs.hp] at hL;cases hL
 ·have hj':=h.st j hj
  by_cases hji:j=i
  ·subst hji
   simp only [if_true]
   refine ⟨?_,owns_spared hj'.row hsp1 (fun b hb e=>hj'.ne b hb e),hj'.so,hj'.le⟩
   rw [cells_set _ hj'.hp]
   rfl
  ·simp only [hji,if_false]
   exact hj'.keeps hsp1 (h.si j i hj hi hji) (fun b hb e=>by subst e;exact row_ne hj'.row hs.hp (by decide) hb)
theorem Bank.crashAt_go (h:Bank w L s) (z:Int) :
  Calls Tryz.prog 31 #[.pointer (some ⟨L.C,0,none⟩),.int .i64 z] w fun e w'=>e=.returned (.tuple #[])∧Bank w' L ⟨s.dn,s.vs,s.rss,⟨s.p.done,decide (0≤z),z,s.p.crashed⟩,s.X⟩∧Spared (Mine L s) w w':=by
 refine (ccrashAt_of L.C L.V z w _ h.cf (vcrashAt_any L.V L.key L.n L.B L.bc L.sp s.p z w h.vp h.BV)).mono ?_
 rintro e w' ⟨rfl,hvp,hsp1⟩
 have hsp:Spared (fun b=>b=L.V∨moveOwn L.n L.sp s.vs b) w w':=hsp1.mono fun b hb=>.inl hb
 refine ⟨rfl,h.next _ hsp hvp (fun j hj=>(h.st j hj).keeps hsp1 (fun e=>?_) (fun b hb e=>?_)) (fun _ _=>.inl rfl) h.vi (fun j hj r hr=>h.stays hsp s.X (fun _ _=>rfl) j hj r hr) h.ap,Mine.of hsp⟩
 ·have:=(h.st j hj).hp;rw [e,h.vp.hp] at this;cases this
 ·subst e;exact row_ne (h.st j hj).row h.vp.hp (by decide) hb
def spoilX (X:Nat→List UInt8) (g p:Nat) (d:UInt8) (b:Nat):List UInt8:=if b=g then Cof.spoil (X g) p d else X b
theorem Bank.spoil_go (h:Bank w L s) (hcr:s.p.crashed=false) (i:Nat) (hi:i<L.n) (nm:ByteArray) (hyes:hasName (s.rss i) nm=true) (p:Nat) (hp:p<(recOf (s.rss i) nm).sn) (d:UInt8) :
  Calls Tryz.prog 20 #[.pointer (some ⟨L.C,0,none⟩),.int .i64 i,.string nm,.int .i64 p,.int .u8 d.toNat] w fun e w'=>e=.returned (.int .i64 0)∧Bank w' L ⟨s.dn,s.vs,s.rss,s.p,spoilX s.X (blkNo (recOf (s.rss i) nm).sa) p d⟩∧Spared (Mine L s) w w':=by
 obtain ⟨a,c,_,hst⟩:=(h.st i hi).st
 have hm:=recOf_mem hyes
 have hg:=h.ok i hi _ hm.1
 obtain ⟨g,hsa,hgm,_⟩:=hg.sa
 have hat:=hg.own.at hsa p hp
 have hngz:(recOf (s.rss i) nm).sn≤1000:=by
  have h1:=hg.sn
  have h2:=ngroups_le hg.plan _ hg.z
  have h3:=hg.n12
  omega
 have hrd:=(h.ask hcr).rd
 refine cspoil_nil L.C L.V i p d nm w _ h.cf (vspoil_yes L.V L.key L.n L.B L.bc L.sp i p d nm w _ hrd hi ((sspoil_yes (L.sp i) (s.dn i) a c (s.rss i) (recOf (s.rss i) nm) nm g p (((recOf (s.rss i) nm).x s.X).getD p 0) d w hst hyes rfl hsa hngz hp hat.1 hat.2.1 hat.2.2).mono ?_))
 rintro e w' ⟨rfl,w1,hb1,hb2⟩
 have hs1:Spared (fun b=>b=g) w w1:=Spared.ofBelow hb1 (Nat.le_refl _)
 have hsp:Spared (fun b=>b=g) w w':=(hs1.setCell (own:=fun b=>b=g) (p:=⟨g,p,none⟩) rfl _).trans (Spared.ofBelow hb2 (by simp))
 obtain ⟨_,cs,fz,hgh⟩:=hg.at hgm
 obtain ⟨n1,n2,n3,n4⟩:=h.not_own hgh
 have hgb:=hg.own
 have hblk:blkNo (recOf (s.rss i) nm).sa=g:=by rw [hsa];rfl
 obtain ⟨Lb,hL,_⟩:=h.vp.hb
 have keepB:∀(r:RecV) (b:Nat),b∈r.blks→b≠g→spoilX s.X g p d b=s.X b:=fun r b _ hb=>by unfold spoilX;rw [if_neg hb]
 rw [hblk]
 refine ⟨rfl,?_,hsp.mono fun b e=>.inr (.inr ⟨i,hi,_,hm.1,by rw [e];exact hgm⟩)⟩
 refine ⟨h.cf.keeps hsp (fun e=>n1 e.symm),h.vp.keeps hsp (fun e=>n2 e.symm) (fun e=>n3 e.symm),h.n1,h.n8,h.hk,fun j hj=>(h.st j hj).keeps hsp (fun e=>n4 ⟨j,hj,.inl e.symm⟩) (fun b hb e=>n4 ⟨j,hj,.inr (by rw [←e];exact hb)⟩),h.si,h.vi,h.G.spared hsp (fun b e=>by rw [e];exact (hg.at hgm).1),h.bC,h.bV,h.bB,h.bsp,h.bv,fun j hj r hr=>?_,h.ap⟩
 have hr':=h.ok j hj r hr
 by_cases hin:g∈r.blks
 ·obtain ⟨rfl,e⟩:=h.ap j i hj hi r hr _ hm.1 g hin hgm
  rw [e]
  have hb:Bytes w' L.base (recOf (s.rss j) nm).sa (recOf (s.rss j) nm).sn (recOf (s.rss j) nm).sc ((recOf (s.rss j) nm).x (spoilX s.X g p d)):=by
   have h1:=(hgb.keeps (Spared.ofBelow (own:=fun _=>False) hb1 (Nat.le_refl _)) (fun _ _ h=>h)).set hsa p (((recOf (s.rss j) nm).x s.X).getD p 0^^^d)
   have h2:=h1.keeps (Spared.ofBelow (own:=fun _=>False) hb2 (by simp)) (fun _ _ h=>h)
   have e2:(recOf (s.rss j) nm).x (spoilX s.X g p d)=((recOf (s.rss j) nm).x s.X).set p (((recOf (s.rss j) nm).x s.X).getD p 0^^^d):=by
    unfold RecV.x spoilX
    rw [hblk,if_pos rfl]
    rfl
   rw [e2]
   exact h2
  refine ⟨hg.plan,hg.z,hg.e,hg.m1,hg.n1,hg.n12,hg.sn,hb,?_⟩
  rcases hg.nx with hn | ⟨k1,k2,k3,k4,k5,k6⟩
  ·exact .inl hn
  ·have k6':blkNo (recOf (s.rss j) nm).na≠g:=by rw [←hblk];exact k6
   refine .inr ⟨k1,k2,k3,k4,?_,k6⟩
   have e2:(recOf (s.rss j) nm).y (spoilX s.X g p d)=(recOf (s.rss j) nm).y s.X:=by
    unfold RecV.y spoilX
    rw [if_neg k6']
   rw [e2]
   refine k5.keeps hsp (fun b hb e=>k6' ?_)
   rw [hb,←e]
   rfl
 ·exact hr'.keeps hsp (fun b hb e=>hin (by rw [←e];exact hb)) (fun b hb=>keepB r b hb (fun e=>hin (by rw [←e];exact hb)))
end
theorem objs_at (rs:List RecV) (k j:Nat) (hk:k<rs.length) (hj:j<6):(objs rs)[k*6+j]?=(rs[k]!).obj[j]?:=by
 rw [getElem!_pos rs k hk]
 induction rs generalizing k with
 | nil=>simp at hk
 | cons r rs ih =>
  cases k with
  | zero =>
   simp only [objs,List.flatMap_cons,List.getElem_cons_zero,Nat.zero_mul,Nat.zero_add]
   rw [List.getElem?_append_left (by simp [RecV.obj];exact hj)]
  | succ k =>
   have:=ih k (by simpa using hk)
   simp only [objs,List.flatMap_cons,List.getElem_cons_succ] at this ⊢
   rw [←this,List.getElem?_append_right (by simp [RecV.obj];omega),show (k+1)*6+j-r.obj.length=k*6+j by simp [RecV.obj];omega]
set_option maxRecDepth 100000 in
set_option maxHeartbeats 1000000 in
theorem cobjects_any (C V key n B bc:Nat) (sp:Nat→Nat) (down:Bool) (v:Value) (rs:List RecV) (w:World) (hc:Cf w C V) (h:Rdy w V key n B bc sp) (hs:Sto w (sp 0) down v rs) (hnm:∀k,k<rs.length→(rs[k]!).name.size≤1000) :
  Calls Tryz.prog 37 #[.pointer (some ⟨C,0,none⟩)] w fun e w'=>∃ov,e=.returned ov∧w'.ownsRow w.heap.size 65 6 ov rs.length (objs rs)∧Below w.heap.size w w':=by
 have c0:w.cell? ⟨C,0,none⟩=some (.pointer (some ⟨V,0,none⟩)):=by rw [cells_at hc];rfl
 have HV:=hid (vobjects_any V key n B bc sp down v rs w h hs)
 have hle:=hs.le
 have HNM:=hid hnm
 obtain ⟨m,hm⟩:∃m,m=rs.length:=⟨_,rfl⟩
 rw [←hm] at HV hle ⊢
 have HM:=hid hm
 clear hc h hs hnm hm
 go_enter Tryz.func37,Tryz.ntmps37
 go_wp2_with fail
 refine HV.out.mono ?_
 rintro e w1 ⟨ov,rfl,hown,hb1⟩
 have HO:=hid hown
 obtain ⟨oa,oc,rfl,_⟩:=owns_rd_size hown
 clear hown
 go_wp2_with fail
 go_loopw [12] (fun u wr=>∃(k:Nat),k≤m∧u=.int .i64 k∧Below w1.heap.size w1 wr) (fun u _=>m-(intOf u).toNat)
 case atStart=>exact ⟨0,Nat.zero_le _,rfl,Below.refl _ _⟩
 case round =>
  obtain ⟨k,hk,rfl,hbr⟩:=hrel
  have hor:=owns_below_size HO.out hbr (Nat.le_refl _)
  by_cases hkm:k<m
  ·have hkm':(k:Int)<(m:Int):=by omega
   obtain ⟨g,cap,hv,hg1,hg2⟩:=row_some hor (by omega)
   cases hv
   have hcell:∀w':World,w'.ownsRow w.heap.size 65 6 (.slice (some ⟨g,0,none⟩) m oc) m (objs rs)→w'.cell? ⟨g,k*6,none⟩=some (.string (rs[k]!).name):=fun w' ho=>by
    have e:=objs_at rs k 0 (by rw [←HM.out];exact hkm) (by decide)
    rw [ho.cellAt (k*6) (by omega)]
    exact e
   have hnk:=HNM.out k (by rw [←HM.out];exact hkm)
   obtain ⟨nk,en⟩:∃nk,nk=(rs[k]!).name:=⟨_,rfl⟩
   rw [←en] at hnk hcell
   have q0:=hcell wr hor
   have HCE:=hid hcell
   clear hor hcell en
   go_wp2_with fail
   refine (sclone_any nk wr (by omega)).mono ?_
   rintro e w4 ⟨rfl,hb4⟩
   have hbr4:=hbr.trans (hb4.mono hbr.size)
   have hor4:=owns_below_size HO.out hbr4 (Nat.le_refl _)
   have q4:=HCE.out w4 hor4
   have f4:w4.frozen? ⟨g,k*6,none⟩=false:=hor4.frozenAt (k*6)
   have HSS:=hid (setCell_self q4)
   clear hor4
   go_wp2_with fail
   go_roundw
   case rel=>exact ⟨k+1,by omega,by go_num,by rw [HSS.out];exact hbr4⟩
   case measure=>simp [intOf];omega
  ·have hk1:k=m:=by omega
   subst hk1
   have HOR:=hid hor
   clear hor
   go_wp2_with fail
   go_ret
   exact ⟨_,rfl,HOR.out,hb1.trans (hbr.mono hb1.size)⟩
section
variable {w:World} {L:Seat} {s:Sta}
theorem Bank.objects_go (h:Bank w L s) (hcr:s.p.crashed=false) :
  Calls Tryz.prog 37 #[.pointer (some ⟨L.C,0,none⟩)] w fun e w'=>∃ov,e=.returned ov∧w'.ownsRow w.heap.size 65 6 ov (s.rss 0).length (objs (s.rss 0))∧Below w.heap.size w w':=by
 have h0:0<L.n:=h.n1
 refine cobjects_any L.C L.V L.key L.n L.B L.bc L.sp (s.dn 0) (s.vs 0) (s.rss 0) w h.cf (h.ask hcr).rd (h.st 0 h0) (fun k hk=>?_)
 rw [getElem!_pos _ k hk]
 have:=(h.ok 0 h0 _ (List.getElem_mem hk)).n12
 omega
open Classical in
theorem judged_any (key mode t l n epoch size:Nat) (nm:ByteArray) (len:Nat) (down:Nat→Bool) (X:Nat→List UInt8):∃bad P,Judged key mode t l n epoch size nm len down bad X P:=by
 refine ⟨fun i=>decide (¬∃Q,Cof.Good key (Cof.head mode t l n i epoch size nm.data.toList) len (X i) Q),fun i=>if hq:∃Q,Cof.Good key (Cof.head mode t l n i epoch size nm.data.toList) len (X i) Q then Classical.choose hq else [],fun i _ _=>⟨fun hb=>?_,fun hb=>of_decide_eq_true hb⟩⟩
 have hq:∃Q,Cof.Good key (Cof.head mode t l n i epoch size nm.data.toList) len (X i) Q:=Classical.byContradiction fun h=>by
  have:=of_decide_eq_false hb
  exact this h
 simp only [dif_pos hq]
 exact Classical.choose_spec hq
theorem Bank.get_go (h:Bank w L s) (hc:Calm L s) (nm:ByteArray) (hyes:hasName (s.rss 0) nm=true) (o:Ob) (ho:o=(recOf (s.rss 0) nm).ob) (bad:Nat→Bool) (P:Nat→List UInt8)
  (hJ:Judged L.key o.mode o.t o.l L.n o.epoch o.size nm (Cof.ngroups o.mode o.t o.l o.size) s.dn bad (fun i=>(recOf (s.rss i) nm).x s.X) P) :
  Calls Tryz.prog 23 #[.pointer (some ⟨L.C,0,none⟩),.string nm] w fun e w' =>
   (if Cof.gsize o.mode o.t o.l+Cof.tsize o.mode o.t≤(upTo (fun i=>s.dn i || bad i) L.n).length then
    e=.returned (.tuple #[.string ⟨(Cof.join o.mode o.t o.l o.size ((upTo (fun i=>s.dn i || bad i) L.n).take (Cof.gsize o.mode o.t o.l+Cof.tsize o.mode o.t)) (((upTo (fun i=>s.dn i || bad i) L.n).take (Cof.gsize o.mode o.t o.l+Cof.tsize o.mode o.t)).map P)).toArray⟩,.int .i64 0])
   else e=.returned (.tuple #[.string ByteArray.empty,.int .i64 10]))∧Below w.heap.size w w':=by
 obtain ⟨hH,hall,hon⟩:=h.held hc nm hyes o ho
 have hg:=(hall 0 h.n1).2.2.1
 have hob:=(hall 0 h.n1).2.1
 obtain ⟨onm,om,ot,ol,oz,oe⟩:=o
 simp only at hH hon hJ ⊢
 subst hon
 simp only [RecV.ob,Ob.mk.injEq] at hob
 obtain ⟨e1,e2,e3,e4,e5,e6⟩:=hob
 have hp:IsPlan om ot ol L.n:=by have:=hg.plan;rw [e2,e3,e4] at this;exact this
 have hz:oz≤60:=by have:=hg.z;omega
 have he:oe≤100:=by have:=hg.e;omega
 have hn1:1≤onm.size:=by have:=hg.n1;rw [e1] at this;exact this
 have hn12:onm.size≤12:=by have:=hg.n12;rw [e1] at this;exact this
 have hng:=ngroups_le hp oz hz
 by_cases hen:Cof.gsize om ot ol+Cof.tsize om ot≤(upTo (fun i=>s.dn i || bad i) L.n).length
 ·simp only [if_pos hen]
  exact cget_of L.C L.V oz onm _ w h.cf (join_len hp oz _ _).symm (vget_list L.base L.V L.key L.n L.B L.bc L.sp s.dn bad om ot ol oz oe onm _ P s.vs s.rss w hH hp he hz hn1 hn12 h.hk hng hJ h.G.tb _ rfl hen _ rfl)
 ·simp only [if_neg hen]
  exact cget_no L.C L.V 3 10 onm w h.cf (by omega) h.G.et (vget_listFew L.base L.V L.key L.n L.B L.bc L.sp s.dn bad om ot ol oz oe onm _ P s.vs s.rss w hH hp he hz hn1 hn12 h.hk hng hJ h.G.tb (by omega))
theorem Bank.get_any (h:Bank w L s) (hc:Calm L s∨Torn L s) (nm:ByteArray) :
  Calls Tryz.prog 23 #[.pointer (some ⟨L.C,0,none⟩),.string nm] w fun e w'=>(∃v k,e=.returned (.tuple #[.string v,.int .i64 k]))∧Below w.heap.size w w':=by
 rcases hc with hc | hc
 ·cases hy:hasName (s.rss 0) nm with
  | true =>
   obtain ⟨bad,P,hJ⟩:=judged_any L.key (recOf (s.rss 0) nm).ob.mode (recOf (s.rss 0) nm).ob.t (recOf (s.rss 0) nm).ob.l L.n (recOf (s.rss 0) nm).ob.epoch (recOf (s.rss 0) nm).ob.size nm (Cof.ngroups (recOf (s.rss 0) nm).ob.mode (recOf (s.rss 0) nm).ob.t (recOf (s.rss 0) nm).ob.l (recOf (s.rss 0) nm).ob.size) s.dn (fun i=>(recOf (s.rss i) nm).x s.X)
   refine (h.get_go hc nm hy _ rfl bad P hJ).mono ?_
   rintro e w' ⟨he,hb⟩
   refine ⟨?_,hb⟩
   split at he
   ·exact ⟨_,_,he⟩
   ·exact ⟨_,_,he⟩
  | false =>
   refine ((h.ask hc.1).get_none nm hy).mono ?_
   rintro e w' ⟨rfl,hb⟩
   exact ⟨⟨_,_,rfl⟩,hb⟩
 ·refine (crash_get h.cf (cells_lt h.vp.hp) (by rw [h.cell5,hc.1]) h.G.et nm).mono ?_
  rintro e w' ⟨rfl,hb⟩
  exact ⟨⟨_,_,rfl⟩,hb⟩
end
end Go.Proofs.YtcegdgmbponapabGreatDoor