/-
  What must be done to an object so that all stores have the same of it.
  Names put in order, each once.
  The names of all objects of which a store has something.
  The object that a call was cut off in.
-/
import Derived.Test.YtcegdgmbponapabGreatDoorPart14
import Derived.Test.YtcegdgmbponapabGreatDoorSort
import Derived.Test.YtcegdgmbponapabGreatDoorCompact
import Derived.Shelf.Slices.In.SortNone
namespace Go.Proofs.YtcegdgmbponapabGreatDoor
open Go.RowKit
attribute [local go_sem ↓] Go.wp_at_zero Go.wp_at_succ
def RecV.late (r:RecV):Ob:=if r.na.isSome then ⟨r.name,r.mode,r.t,r.l,r.size,r.epoch+1⟩ else r.ob
set_option maxRecDepth 100000 in
set_option maxHeartbeats 1000000 in
theorem latest_any (r:RecV) (w:World) (he:r.epoch≤1000) :
  Calls Tryz.prog 152 #[.agg #[.string r.name,.int .i64 r.mode,.int .i64 r.t,.int .i64 r.l,.int .i64 r.size,.int .i64 r.epoch,.slice r.sa r.sn r.sc,.slice r.na r.nn r.nc]] w fun e w' =>
   e=.returned (.agg #[.string r.late.name,.int .i64 r.late.mode,.int .i64 r.late.t,.int .i64 r.late.l,.int .i64 r.late.size,.int .i64 r.late.epoch])∧Below w.heap.size w w':=by
 cases hna:r.na with
 | some ad =>
  have h:=latest_next r ad w hna he
  rw [hna] at h
  refine h.mono ?_
  rintro e w' ⟨rfl,hb⟩
  refine ⟨?_,hb⟩
  have:r.late=⟨r.name,r.mode,r.t,r.l,r.size,r.epoch+1⟩:=by unfold RecV.late;rw [hna];rfl
  rw [this]
  rfl
 | none =>
  have hl:r.late=r.ob:=by unfold RecV.late;rw [hna];rfl
  rw [hl]
  obtain ⟨name,mode,t,l,size,epoch,sa,sn,sc,na,nn,nc⟩:=r
  simp only [RecV.ob] at hna he ⊢
  subst hna
  go_enter Tryz.func152,Tryz.ntmps152
  go_wp2
  refine bodyPost_ret (v:=.agg #[.string name,.int .i64 mode,.int .i64 t,.int .i64 l,.int .i64 size,.int .i64 epoch]) ?_ rfl ⟨rfl,?_⟩
  ·simp [results,Tryz.results152,go_sem]
  ·exact ((Below.refl _ _).alloc (Nat.le_refl _) _).alloc (by simp) _
def oneOb (W:Nat) (x:Ob) (v:Value) (w:World):Prop:=∃b,v=.slice (some ⟨b,0,none⟩) 1 1∧W≤b∧b<w.heap.size∧∀j u,x.cells[j]?=some u→w.cell? ⟨b,j,none⟩=some u
def moreOb (W base k:Nat) (L:List Ob) (u:Value) (v:Value) (w:World):Prop:=w.ownsRow base 65 6 v k (obs L)∧(v.ownBlock=u.ownBlock∨∃b,v.ownBlock=some b∧W≤b)
def stlR (W base k b:Nat) (u6 u7:Value) (q:RecV) (A Z:List Ob):Nat→Value→World→Prop
 | 0,v,_=>v=u6
 | 1,v,_=>v=.pointer (some ⟨b,0,none⟩)
 | 2,v,_=>v=.agg #[.string q.name,.int .i64 q.mode,.int .i64 q.t,.int .i64 q.l,.int .i64 q.size,.int .i64 q.epoch]
 | 3,v,w=>oneOb W q.ob v w
 | 4,v,w=>moreOb W base (k+1) (A++[q.ob]) u6 v w
 | 5,v,_=>v=u7
 | 6,v,_=>v=.agg #[.string q.name,.int .i64 q.mode,.int .i64 q.t,.int .i64 q.l,.int .i64 q.size,.int .i64 q.epoch,.slice q.sa q.sn q.sc,.slice q.na q.nn q.nc]
 | 7,v,_=>v=.agg #[.string q.late.name,.int .i64 q.late.mode,.int .i64 q.late.t,.int .i64 q.late.l,.int .i64 q.late.size,.int .i64 q.late.epoch]
 | 8,v,w=>oneOb W q.late v w
 | 9,v,w=>moreOb W base (k+1) (Z++[q.late]) u7 v w
 | 10,v,w=>moreOb W base (k+1) (A++[q.ob]) u6 v w
 | 11,v,w=>moreOb W base (k+1) (Z++[q.late]) u7 v w
 | _,_,_=>True
def stlU (base k:Nat) (u6 u7:Value) (A Z:List Ob):Nat→World→Prop
 | 4,w=>w.ownsRow base 65 6 u6 k (obs A)
 | 9,w=>w.ownsRow base 65 6 u7 k (obs Z)
 | _,_=>True
def stlO (u6 u7:Value):Nat→Nat→Prop
 | 4,b=>u6.ownBlock=some b
 | 9,b=>u7.ownBlock=some b
 | _,_=>False
def stlSlot (i:Nat):Nat:=if i=10 then 6 else if i=11 then 7 else i+30
def stlA (W base k b:Nat) (u6 u7:Value) (q:RecV) (A Z:List Ob) (j:Nat) (a:Act) (w:World):Prop :=
 stlR W base k b u6 u7 q A Z j (a.tmps.getD (stlSlot j) undef) w∧(j=9→∀b,(a.tmps.getD 34 undef).ownBlock=some b→(a.tmps.getD 39 undef).ownBlock≠some b)∧(j=10→a.tmps.getD 6 undef=a.tmps.getD 34 undef)∧(j=11→a.tmps.getD 7 undef=a.tmps.getD 39 undef)
theorem put_ne (a:Act) (s r:Nat) (v:Value) (h:s≠r):(a.put (some s) v).tmps.getD r undef=a.tmps.getD r undef:=by
 simp [Act.put,Array.getElem?_setIfInBounds_ne h]
theorem put_eq (a:Act) (s:Nat) (v:Value) (h:s<a.tmps.size):(a.put (some s) v).tmps.getD s undef=v:=by
 simp [Act.put,h]
theorem oneOb.keeps {W:Nat} {x:Ob} {v:Value} {w w':World} {own:Nat→Prop} (h:oneOb W x v w) (hs:Spared own w w') (ho:∀b,own b→b<W):oneOb W x v w':=by
 obtain ⟨b,h1,h2,h3,h4⟩:=h
 refine ⟨b,h1,h2,Nat.lt_of_lt_of_le h3 hs.size,fun j u hj=>?_⟩
 rw [World.cell?_of_block (hs.block b h3 (fun h=>by have:=ho b h;omega))]
 exact h4 j u hj
theorem moreOb.keeps {W base k:Nat} {L:List Ob} {u v:Value} {w w':World} {own:Nat→Prop} (h:moreOb W base k L u v w) (hs:Spared own w w') (ho:∀b,own b→b<W∧u.ownBlock≠some b):moreOb W base k L u v w':=by
 obtain ⟨h1,h2⟩:=h
 refine ⟨owns_spared h1 hs (fun b hb hob=>?_),h2⟩
 rcases h2 with h2 | ⟨b',h2,h3⟩
 ·rw [h2] at hb;exact (ho b hob).2 hb
 ·rw [h2] at hb;cases hb;have:=(ho b hob).1;omega
theorem stlR_keeps (W base k b:Nat) (u6 u7:Value) (q:RecV) (A Z:List Ob) (h6:∀b,u6.ownBlock=some b→b<W) (h7:∀b,u7.ownBlock=some b→b<W) (h67:∀b,u6.ownBlock=some b→u7.ownBlock≠some b) (i j:Nat) (v:Value) (w w':World) (hij:i≠j) (hd:¬(i=4∧j=10)) (hd2:¬(i=9∧j=11)) (h:stlR W base k b u6 u7 q A Z j v w) (hs:Spared (stlO u6 u7 i) w w'):stlR W base k b u6 u7 q A Z j v w':=by
 have ho:∀b,stlO u6 u7 i b→b<W:=by
  intro b hb
  unfold stlO at hb
  split at hb
  ·exact h6 b hb
  ·exact h7 b hb
  ·exact hb.elim
 have hA:j=4∨j=10→∀b,stlO u6 u7 i b→b<W∧u6.ownBlock≠some b:=by
  intro hj b hb
  refine ⟨ho b hb,?_⟩
  unfold stlO at hb
  split at hb
  ·omega
  ·intro e;exact h67 b e hb
  ·exact hb.elim
 have hZ:j=9∨j=11→∀b,stlO u6 u7 i b→b<W∧u7.ownBlock≠some b:=by
  intro hj b hb
  refine ⟨ho b hb,?_⟩
  unfold stlO at hb
  split at hb
  ·intro e;exact h67 b hb e
  ·omega
  ·exact hb.elim
 unfold stlR at h ⊢
 split at h
 ·exact h
 ·exact h
 ·exact h
 ·exact h.keeps hs ho
 ·exact h.keeps hs (hA (.inl rfl))
 ·exact h
 ·exact h
 ·exact h
 ·exact h.keeps hs ho
 ·exact h.keeps hs (hZ (.inl rfl))
 ·exact h.keeps hs (hA (.inr rfl))
 ·exact h.keeps hs (hZ (.inr rfl))
 ·trivial
theorem stlU_keeps (base k:Nat) (u6 u7:Value) (A Z:List Ob) (h67:∀b,u6.ownBlock=some b→u7.ownBlock≠some b) (i j:Nat) (w w':World) (hij:i≠j) (h:stlU base k u6 u7 A Z j w) (hs:Spared (stlO u6 u7 i) w w'):stlU base k u6 u7 A Z j w':=by
 unfold stlU at h ⊢
 split at h
 ·refine owns_spared h hs (fun b hb ho=>?_)
  unfold stlO at ho
  split at ho
  ·omega
  ·exact h67 b hb ho
  ·exact ho
 ·refine owns_spared h hs (fun b hb ho=>?_)
  unfold stlO at ho
  split at ho
  ·exact h67 b ho hb
  ·omega
  ·exact ho
 ·trivial
def recOf (rs:List RecV) (nm:ByteArray):RecV:=rs[posOf rs nm]!
structure Stl (w:World) (base:Nat) (rss:Nat→List RecV) (nm:ByteArray) (k:Nat) (v6 v7:Value):Prop where
 a:w.ownsRow base 65 6 v6 k (obs ((List.range k).map fun i=>(recOf (rss i) nm).ob))
 z:w.ownsRow base 65 6 v7 k (obs ((List.range k).map fun i=>(recOf (rss i) nm).late))
 ne:∀b,v6.ownBlock=some b→v7.ownBlock≠some b
def settleOf (A Z:List Ob):Option Nat:=if allSame Z then (if A=Z then some 5 else some 3) else if allSame A then some 4 else none
def settleV (A Z:List Ob):Value:=match settleOf A Z with
 | some c=>.tuple #[.int .i64 c,.nilIface]
 | none=>.tuple #[.int .i64 5,.iface 109 (.int .i64 12)]
def settleR (m n:Nat) (A Z:List Ob):Value:=if m<n then .tuple #[.int .i64 1,.nilIface] else settleV A Z
set_option maxRecDepth 100000 in
set_option maxHeartbeats 2000000 in
theorem settling_any (V key n B bc:Nat) (sp:Nat→Nat) (down:Nat→Bool) (vs:Nat→Value) (rss:Nat→List RecV) (nm:ByteArray) (m:Nat) (hmn:m≤n) (w:World) (h:Va w V key n B 0 bc sp) (hn1:1≤n) (hn8:n≤8) (hst:∀i,i<n→Sto w (sp i) (down i) (vs i) (rss i))
  (hyes:∀i,i<m→hasName (rss i) nm=true) (hno:m<n→hasName (rss m) nm=false) (hep:∀i,i<m→(recOf (rss i) nm).epoch≤1000) :
  Calls Tryz.prog 110 #[.pointer (some ⟨V,0,none⟩),.string nm] w fun e w' =>
   e=.returned (settleR m n ((List.range n).map fun i=>(recOf (rss i) nm).ob) ((List.range n).map fun i=>(recOf (rss i) nm).late))∧Below w.heap.size w w':=by
 obtain ⟨i0,hi,hz0,hz1,hz2⟩:=info_parts Tryz.infoO
 have c1:=h.c1
 have HVA:=hid h
 have HST:=hid hst
 have HY:=hid hyes
 have HNO:=hid hno
 have HEP:=hid hep
 clear h hst hyes hno hep
 go_enter Tryz.func110,Tryz.ntmps110
 go_wp2_with fail
 go_loopw [6,7,17] (fun v6 v7 u wr=>∃(k:Nat),k≤m∧u=.int .i64 k∧Stl wr w.heap.size rss nm k v6 v7∧Below w.heap.size w wr) (fun _ _ u _=>n-(intOf u).toNat)
 case atStart=>exact ⟨0,Nat.zero_le _,rfl,⟨⟨rfl,.inl ⟨rfl,rfl⟩⟩,⟨rfl,.inl ⟨rfl,rfl⟩⟩,fun b hb=>by cases hb⟩,Below.refl _ _⟩
 case round =>
  obtain ⟨k,hk,rfl,hstl,hbr⟩:=hrel
  by_cases hkn:k<n
  ·have k1:wr.cell? ⟨B,k,none⟩=some (.pointer (some ⟨sp k,0,none⟩)):=by
    have:=(HVA.out.keeps hbr (Nat.le_refl _)).st k hkn
    rwa [Nat.zero_add] at this
   have hlt':(k:Int)<(n:Int):=by omega
   have hsto:=(HST.out k hkn).keeps (Spared.ofBelow (own:=fun _=>False) hbr (Nat.le_refl _)) (fun h=>h) (fun _ _ h=>h)
   obtain ⟨a,c,_,hst⟩:=hsto.st
   by_cases hkm:k<m
   ·have HREC:=hid (record_yes (sp k) (down k) a c (rss k) (recOf (rss k) nm) nm wr hst (HY.out k hkm) rfl)
    have HQE:=hid (HEP.out k hkm)
    have HX:=hid (show ((List.range (k+1)).map fun i=>(recOf (rss i) nm).ob)=((List.range k).map fun i=>(recOf (rss i) nm).ob)++[(recOf (rss k) nm).ob]∧((List.range (k+1)).map fun i=>(recOf (rss i) nm).late)=((List.range k).map fun i=>(recOf (rss i) nm).late)++[(recOf (rss k) nm).late] from ⟨by simp [List.range_succ],by simp [List.range_succ]⟩)
    generalize recOf (rss k) nm=q at *
    have HSTL:=hid hstl
    clear hstl hsto hst
    go_wp2_with fail
    refine HREC.out.mono ?_
    rintro e w1 ⟨rfl,hb1⟩
    have HIS:=hid (fun w'=>Is_nil 9 w')
    go_wp2_with (go_at_call 115;refine (HIS.out _).mono ?_;rintro e w3 ⟨rfl,rfl⟩)
    have hb01:=hbr.trans (hb1.mono hbr.size)
    obtain ⟨w2,hw2⟩:∃w2,w2=w1.alloc (.cells #[.string q.name,.int .i64 q.mode,.int .i64 q.t,.int .i64 q.l,.int .i64 q.size,.int .i64 q.epoch,.slice q.sa q.sn q.sc,.slice q.na q.nn q.nc] 127):=⟨_,rfl⟩
    have HRB:=hid (show w2.heap[w1.heap.size]?=some (.cells #[.string q.name,.int .i64 q.mode,.int .i64 q.t,.int .i64 q.l,.int .i64 q.size,.int .i64 q.epoch,.slice q.sa q.sn q.sc,.slice q.na q.nn q.nc] 127) by rw [hw2];exact alloc_at _ _)
    have hb02:Below w.heap.size w w2:=by rw [hw2];exact hb01.alloc hb01.size _
    have hbr2:Below wr.heap.size wr w2:=by rw [hw2];exact hb1.alloc hb1.size _
    rw [←hw2]
    clear hw2
    obtain ⟨v6,hv6⟩:∃v6,v6=u6:=⟨_,rfl⟩
    obtain ⟨v7,hv7⟩:∃v7,v7=u7:=⟨_,rfl⟩
    subst hv6 hv7
    have hA2:=owns_below_size HSTL.out.a hbr2 (Nat.le_refl _)
    have hZ2:=owns_below_size HSTL.out.z hbr2 (Nat.le_refl _)
    have h67:=HSTL.out.ne
    generalize hA:((List.range k).map fun i=>(recOf (rss i) nm).ob)=A at *
    generalize hZ:((List.range k).map fun i=>(recOf (rss i) nm).late)=Z at *
    have h6W:∀b,v6.ownBlock=some b→b<w2.heap.size:=fun b hb=>(hA2.lt b hb).2
    have h7W:∀b,v7.ownBlock=some b→b<w2.heap.size:=fun b hb=>(hZ2.lt b hb).2
    have hO:∀b,(∃i,stlO v6 v7 i b)→v6.ownBlock=some b∨v7.ownBlock=some b:=by
     rintro b ⟨i,hb⟩
     unfold stlO at hb
     split at hb
     ·exact .inl hb
     ·exact .inr hb
     ·exact hb.elim
    have hrb6:¬(∃i,stlO v6 v7 i w1.heap.size):=fun h=>by
     rcases hO _ h with h | h
     ·exact row_ne hA2 HRB.out (by decide) h
     ·exact row_ne hZ2 HRB.out (by decide) h
    have HCELL:∀w':World,Spared (fun b=>∃i,stlO v6 v7 i b) { w2 with drawn:=w2.drawn+1 } w'→w'.cell? ⟨w1.heap.size,0,none⟩=some (.string q.name)∧w'.cell? ⟨w1.heap.size,1,none⟩=some (.int .i64 q.mode)∧w'.cell? ⟨w1.heap.size,2,none⟩=some (.int .i64 q.t)∧w'.cell? ⟨w1.heap.size,3,none⟩=some (.int .i64 q.l)∧w'.cell? ⟨w1.heap.size,4,none⟩=some (.int .i64 q.size)∧w'.cell? ⟨w1.heap.size,5,none⟩=some (.int .i64 q.epoch)∧w'.cell? ⟨w1.heap.size,6,none⟩=some (.slice q.sa q.sn q.sc)∧w'.cell? ⟨w1.heap.size,7,none⟩=some (.slice q.na q.nn q.nc):=by
     intro w' hs
     have hh:w'.heap[w1.heap.size]?=_:=hs.heap HRB.out hrb6
     exact ⟨by rw [cells_at hh];rfl,by rw [cells_at hh];rfl,by rw [cells_at hh];rfl,by rw [cells_at hh];rfl,by rw [cells_at hh];rfl,by rw [cells_at hh];rfl,by rw [cells_at hh];rfl,by rw [cells_at hh];rfl⟩
    have hk8:k≤8:=by omega
    have MK:∀(i:Nat) (a:Act) (w':World) (o:Oper),a.tmps.size=56→i<9→StepOk Tryz.prog o a w' (fun v w''=>Spared (stlO v6 v7 i) w' w''∧stlR w2.heap.size w.heap.size k w1.heap.size v6 v7 q A Z i v w'')→StepOk Tryz.prog o a w' (fun v w''=>Spared (stlO v6 v7 i) w' w''∧stlA w2.heap.size w.heap.size k w1.heap.size v6 v7 q A Z i (a.put (some (stlSlot i)) v) w''):=by
     intro i a w' o hsz hi9 h
     refine h.weaken fun v w'' hp=>⟨hp.1,?_,fun h=>by omega,fun h=>by omega,fun h=>by omega⟩
     have hsl:stlSlot i<a.tmps.size:=by
      unfold stlSlot
      split
      ·omega
      ·split<;>omega
     rw [put_eq _ _ _ hsl]
     exact hp.2
    refine wp_region_own (by kernel_rfl) stlSlot (stlA w2.heap.size w.heap.size k w1.heap.size v6 v7 q A Z) (stlU w.heap.size k v6 v7 A Z) (stlO v6 v7) [(0,.pointer (some ⟨V,0,none⟩)),(1,.string nm),(6,v6),(7,v7),(10,.pointer (some ⟨w1.heap.size,0,none⟩)),(15,.slice (some ⟨B,0,none⟩) n bc),(16,.int .i64 n),(17,.int .i64 k),(2,undef),(3,undef),(8,undef),(12,.pointer (some ⟨V,0,none⟩)),(13,.pointer (some ⟨V,0,none⟩)),(14,.pointer (some ⟨V,1,none⟩)),(41,undef),(42,undef),(43,undef),(44,undef),(45,undef),(46,undef),(47,undef),(48,undef),(49,undef),(50,undef),(51,undef),(52,undef),(53,undef),(54,undef),(55,undef)] 56 (fun i=>if i=0 then [6] else if i=1 then [10] else if i=5 then [7] else if i=6 then [10] else []) (by kernel_rfl) rfl rfl (by simp) ?_ ?_ ?_ ?_ ?_
    ·intro j _
     unfold stlU
     split
     ·exact hA2
     ·exact hZ2
     ·trivial
    ·intro i j ac v w3 w4 _ hij hwt _ hr hs hsl
     have hx:∀p q,(p,q)∈[(10,4),(11,9),(9,4),(11,4),(10,9)]→¬(i=q∧j=p):=by
      rintro p q hm ⟨rfl,rfl⟩
      simp at hm
      rcases hm with ⟨rfl,rfl⟩|⟨rfl,rfl⟩|⟨rfl,rfl⟩|⟨rfl,rfl⟩|⟨rfl,rfl⟩<;>exact absurd (Eq.trans (show true=_ by kernel_rfl) hwt) (by decide)
     have hi34:j=9∨j=10→stlSlot i≠34:=by
      intro hj e
      have h4:i=4:=by
       unfold stlSlot at e
       split at e
       ·omega
       ·split at e<;>omega
      rcases hj with rfl | rfl
      ·exact hx 9 4 (by simp) ⟨h4,rfl⟩
      ·exact hx 10 4 (by simp) ⟨h4,rfl⟩
     have hi39:j=9∨j=11→stlSlot i≠39:=by
      intro hj e
      have h9:i=9:=by
       unfold stlSlot at e
       split at e
       ·omega
       ·split at e<;>omega
      rcases hj with rfl | rfl
      ·exact hij h9
      ·exact hx 11 9 (by simp) ⟨h9,rfl⟩
     obtain ⟨r1,r2,r3,r4⟩:=hr
     refine ⟨?_,fun hj=>?_,fun hj=>?_,fun hj=>?_⟩
     ·rw [put_ne _ _ _ _ hsl]
      exact stlR_keeps _ _ _ _ v6 v7 q A Z h6W h7W h67 i j _ w3 w4 hij (fun h=>hx 10 4 (by simp) h) (fun h=>hx 11 9 (by simp) h) r1 hs
     ·rw [put_ne _ _ _ _ (hi34 (.inl hj)),put_ne _ _ _ _ (hi39 (.inl hj))]
      exact r2 hj
     ·rw [put_ne _ _ _ _ (hi34 (.inr hj)),put_ne _ _ _ _ (by subst hj;exact hsl)]
      exact r3 hj
     ·rw [put_ne _ _ _ _ (hi39 (.inr hj)),put_ne _ _ _ _ (by subst hj;exact hsl)]
      exact r4 hj
    ·intro i j w3 w4 hij _ hr hs
     exact stlU_keeps _ _ v6 v7 A Z h67 i j w3 w4 hij hr hs
    ·refine ⟨?_,?_,?_,?_,?_,?_,?_,?_,?_,?_,?_,?_,trivial⟩
     ·intro a w' hsz hs hf hd2 hu
      have hd:=fun e he hb=>(hd2 e he hb).1.1
      refine MK 0 a w' _ hsz (by decide) ?_
      clear hsz
      obtain ⟨k0,k1,k2,k3,k4,k5,k6,k7⟩:=HCELL w' hs
      have f6:a.tmps[6]?.getD undef=v6:=by simpa using hf (6,v6) (by simp) rfl
      simp [stlR,stlSlot,Region.binds] at hd
      exact .inl ⟨v6,w',by go_simp,Spared.refl _ _,rfl⟩
     ·intro a w' hsz hs hf hd2 hu
      have hd:=fun e he hb=>(hd2 e he hb).1.1
      refine MK 1 a w' _ hsz (by decide) ?_
      clear hsz
      obtain ⟨k0,k1,k2,k3,k4,k5,k6,k7⟩:=HCELL w' hs
      have f10:a.tmps[10]?.getD undef=.pointer (some ⟨w1.heap.size,0,none⟩):=by simpa using hf (10,.pointer (some ⟨w1.heap.size,0,none⟩)) (by simp) rfl
      simp [stlR,stlSlot,Region.binds] at hd
      exact .inl ⟨.pointer (some ⟨w1.heap.size,0,none⟩),w',by go_simp,Spared.refl _ _,rfl⟩
     ·intro a w' hsz hs hf hd2 hu
      have hd:=fun e he hb=>(hd2 e he hb).1.1
      refine MK 2 a w' _ hsz (by decide) ?_
      clear hsz
      obtain ⟨k0,k1,k2,k3,k4,k5,k6,k7⟩:=HCELL w' hs
      simp [stlR,stlSlot,Region.binds] at hd
      exact .inl ⟨.agg #[.string q.name,.int .i64 q.mode,.int .i64 q.t,.int .i64 q.l,.int .i64 q.size,.int .i64 q.epoch],w',by go_simp,Spared.refl _ _,rfl⟩
     ·intro a w' hsz hs hf hd2 hu
      have hd:=fun e he hb=>(hd2 e he hb).1.1
      refine MK 3 a w' _ hsz (by decide) ?_
      clear hsz
      obtain ⟨k0,k1,k2,k3,k4,k5,k6,k7⟩:=HCELL w' hs
      simp [stlR,stlSlot,Region.binds] at hd
      refine .inl ⟨.slice (some ⟨w'.heap.size,0,none⟩) 1 1,w'.alloc (.cells #[.string q.name,.int .i64 q.mode,.int .i64 q.t,.int .i64 q.l,.int .i64 q.size,.int .i64 q.epoch] 65),by go_simp,Spared.ofBelow ((Below.refl _ _).alloc (Nat.le_refl _) _) (Nat.le_refl _),w'.heap.size,rfl,hs.size,by simp,fun j u hj=>?_⟩
      rw [World.cell?_alloc_at _ _ _ _ rfl]
      simpa [Ob.cells,RecV.ob] using hj
     ·intro a w' hsz hs hf hd2 hu
      have hd:=fun e he hb=>(hd2 e he hb).1.1
      refine MK 4 a w' _ hsz (by decide) ?_
      clear hsz
      obtain ⟨k0,k1,k2,k3,k4,k5,k6,k7⟩:=HCELL w' hs
      simp [stlR,stlSlot,Region.binds] at hd
      obtain ⟨h0,b3,h3,hb3,hb3',hc3⟩:=hd
      refine append_step (.tmp 30) (.tmp 33) 80 rfl w.heap.size 65 i0 _ 6 56 Tryz.underlying80 hi hz0 hz1 hz2 rfl (by decide) v6 k (obs A) (by simp [Act.eval];exact h0) hu ⟨b3,0,none⟩ 1 1 q.ob.cells (by simp [Act.eval];exact h3) rfl (fun j u hj=>by rw [add_at,Nat.zero_add];exact hc3 j u hj) (fun u hu=>by simp [Ob.cells] at hu;rcases hu with rfl | rfl | rfl | rfl | rfl | rfl<;>rfl) (by unfold maxLen;omega) (by omega) (by have h9:=hs.size;have h8:=hb02.size;simp at h9;omega) (by decide) ?_
      intro v' w'' h1 h2 h3'
      refine ⟨grown_spared h2,by rw [obs_append];simpa [obs] using h1,?_⟩
      rcases h3' with h | h
      ·exact .inl h
      ·exact .inr ⟨_,h,hs.size⟩
     ·intro a w' hsz hs hf hd2 hu
      have hd:=fun e he hb=>(hd2 e he hb).1.1
      refine MK 5 a w' _ hsz (by decide) ?_
      clear hsz
      obtain ⟨k0,k1,k2,k3,k4,k5,k6,k7⟩:=HCELL w' hs
      have f7:a.tmps[7]?.getD undef=v7:=by simpa using hf (7,v7) (by simp) rfl
      simp [stlR,stlSlot,Region.binds] at hd
      exact .inl ⟨v7,w',by go_simp,Spared.refl _ _,rfl⟩
     ·intro a w' hsz hs hf hd2 hu
      have hd:=fun e he hb=>(hd2 e he hb).1.1
      refine MK 6 a w' _ hsz (by decide) ?_
      clear hsz
      obtain ⟨k0,k1,k2,k3,k4,k5,k6,k7⟩:=HCELL w' hs
      have f10:a.tmps[10]?.getD undef=.pointer (some ⟨w1.heap.size,0,none⟩):=by simpa using hf (10,.pointer (some ⟨w1.heap.size,0,none⟩)) (by simp) rfl
      simp [stlR,stlSlot,Region.binds] at hd
      exact .inl ⟨.agg #[.string q.name,.int .i64 q.mode,.int .i64 q.t,.int .i64 q.l,.int .i64 q.size,.int .i64 q.epoch,.slice q.sa q.sn q.sc,.slice q.na q.nn q.nc],w',by go_simp,Spared.refl _ _,rfl⟩
     ·intro a w' hsz hs hf hd2 hu
      have hd:=fun e he hb=>(hd2 e he hb).1.1
      refine MK 7 a w' _ hsz (by decide) ?_
      clear hsz
      obtain ⟨k0,k1,k2,k3,k4,k5,k6,k7⟩:=HCELL w' hs
      simp [stlR,stlSlot,Region.binds] at hd
      refine .inr ⟨152,#[.agg #[.string q.name,.int .i64 q.mode,.int .i64 q.t,.int .i64 q.l,.int .i64 q.size,.int .i64 q.epoch,.slice q.sa q.sn q.sc,.slice q.na q.nn q.nc]],by go_simp,(latest_any q w' HQE.out).mono ?_⟩
      rintro e w'' ⟨rfl,hb⟩
      exact ⟨_,rfl,Spared.ofBelow hb (Nat.le_refl _),rfl⟩
     ·intro a w' hsz hs hf hd2 hu
      have hd:=fun e he hb=>(hd2 e he hb).1.1
      refine MK 8 a w' _ hsz (by decide) ?_
      clear hsz
      obtain ⟨k0,k1,k2,k3,k4,k5,k6,k7⟩:=HCELL w' hs
      simp [stlR,stlSlot,Region.binds] at hd
      refine .inl ⟨.slice (some ⟨w'.heap.size,0,none⟩) 1 1,w'.alloc (.cells #[.string q.late.name,.int .i64 q.late.mode,.int .i64 q.late.t,.int .i64 q.late.l,.int .i64 q.late.size,.int .i64 q.late.epoch] 65),by go_simp,Spared.ofBelow ((Below.refl _ _).alloc (Nat.le_refl _) _) (Nat.le_refl _),w'.heap.size,rfl,hs.size,by simp,fun j u hj=>?_⟩
      rw [World.cell?_alloc_at _ _ _ _ rfl]
      simpa [Ob.cells] using hj
     ·intro a w' hsz hs hf hd2 hu
      have hd:=fun e he hb=>(hd2 e he hb).1.1
      have HSZ:=hid hsz
      clear hsz
      show StepOk _ _ a w' (fun v w''=>Spared (stlO v6 v7 9) w' w''∧stlA w2.heap.size w.heap.size k w1.heap.size v6 v7 q A Z 9 (a.put (some 39) v) w'')
      obtain ⟨k0,k1,k2,k3,k4,k5,k6,k7⟩:=HCELL w' hs
      have h4:stlA w2.heap.size w.heap.size k w1.heap.size v6 v7 q A Z 4 a w':=(hd2 ⟨7,.chain⟩ (by simp) (by decide)).2 4 (by kernel_rfl)
      unfold stlA stlR at h4
      simp [stlR,stlSlot,Region.binds] at hd
      obtain ⟨h0,⟨b3,h3,hb3,hb3',hc3⟩,_⟩:=hd
      refine append_step (.tmp 35) (.tmp 38) 80 rfl w.heap.size 65 i0 _ 6 56 Tryz.underlying80 hi hz0 hz1 hz2 rfl (by decide) v7 k (obs Z) (by simp [Act.eval];exact h0) hu ⟨b3,0,none⟩ 1 1 q.late.cells (by simp [Act.eval];exact h3) rfl (fun j u hj=>by rw [add_at,Nat.zero_add];exact hc3 j u hj) (fun u hu=>by simp [Ob.cells] at hu;rcases hu with rfl | rfl | rfl | rfl | rfl | rfl<;>rfl) (by unfold maxLen;omega) (by omega) (by have h9:=hs.size;have h8:=hb02.size;simp at h9;omega) (by decide) ?_
      intro v' w'' h1 h2 h3'
      refine ⟨grown_spared h2,⟨?_,fun _ b hb34 hb39=>?_,fun h=>absurd h (by decide),fun h=>absurd h (by decide)⟩⟩
      ·rw [show stlSlot 9=39 from rfl,put_eq _ _ _ (by have:=HSZ.out;omega)]
       refine ⟨by rw [obs_append];simpa [obs] using h1,?_⟩
       rcases h3' with h | h
       ·exact .inl h
       ·exact .inr ⟨_,h,hs.size⟩
      ·rw [put_ne _ _ _ _ (by decide)] at hb34
       rw [put_eq _ _ _ (by have:=HSZ.out;omega)] at hb39
       have h4b:=h4.1.1.lt b hb34
       rcases h3' with h | h
       ·rw [h] at hb39
        rcases h4.1.2 with h5 | ⟨b',h5,h6⟩
        ·rw [show stlSlot 4=34 from rfl,hb34] at h5
         exact h67 b h5.symm hb39
        ·rw [show stlSlot 4=34 from rfl,hb34] at h5
         cases h5
         have:=h7W b hb39
         omega
       ·rw [h] at hb39
        cases hb39
        omega
     ·intro a w' hsz hs hf hd2 hu
      have hd:=fun e he hb=>(hd2 e he hb).1.1
      have HSZ:=hid hsz
      clear hsz
      show StepOk _ _ a w' (fun v w''=>Spared (stlO v6 v7 10) w' w''∧stlA w2.heap.size w.heap.size k w1.heap.size v6 v7 q A Z 10 (a.put (some 6) v) w'')
      obtain ⟨k0,k1,k2,k3,k4,k5,k6,k7⟩:=HCELL w' hs
      simp [stlR,stlSlot,Region.binds] at hd
      exact .inl ⟨a.tmps[34]?.getD undef,w',by go_simp,Spared.refl _ _,(by rw [show stlSlot 10=6 from rfl,put_eq _ _ _ (by have:=HSZ.out;omega)];exact hd.1),fun h=>absurd h (by decide),fun _=>(by rw [put_eq _ _ _ (by have:=HSZ.out;omega),put_ne _ _ _ _ (by decide)];simp),fun h=>absurd h (by decide)⟩
     ·intro a w' hsz hs hf hd2 hu
      have hd:=fun e he hb=>(hd2 e he hb).1.1
      have HSZ:=hid hsz
      clear hsz
      show StepOk _ _ a w' (fun v w''=>Spared (stlO v6 v7 11) w' w''∧stlA w2.heap.size w.heap.size k w1.heap.size v6 v7 q A Z 11 (a.put (some 7) v) w'')
      obtain ⟨k0,k1,k2,k3,k4,k5,k6,k7⟩:=HCELL w' hs
      simp [stlR,stlSlot,Region.binds] at hd
      exact .inl ⟨a.tmps[39]?.getD undef,w',by go_simp,Spared.refl _ _,(by rw [show stlSlot 11=7 from rfl,put_eq _ _ _ (by have:=HSZ.out;omega)];exact hd.1),fun h=>absurd h (by decide),fun h=>absurd h (by decide),fun _=>(by rw [put_eq _ _ _ (by have:=HSZ.out;omega),put_ne _ _ _ _ (by decide)];simp)⟩
    ·intro a2 w3 hdf hsz hs3 hf hr
     obtain ⟨tm2,df2⟩:=a2
     simp only at hdf hsz hf hr
     subst hdf
     obtain ⟨x0,x1,x2,x3,x4,x5,x6,x7,x8,x9,x10,x11,x12,x13,x14,x15,x16,x17,x18,x19,x20,x21,x22,x23,x24,x25,x26,x27,x28,x29,x30,x31,x32,x33,x34,x35,x36,x37,x38,x39,x40,x41,x42,x43,x44,x45,x46,x47,x48,x49,x50,x51,x52,x53,x54,x55,rfl⟩:=arr56 tm2 hsz
     have r10:=hr 10 (by decide)
     have r11:=hr 11 (by decide)
     have r9:=(hr 9 (by decide)).2.1 rfl
     have r34:=r10.2.2.1 rfl
     have r39:=r11.2.2.2 rfl
     replace r10:=r10.1
     replace r11:=r11.1
     simp [stlR,stlSlot] at r10 r11
     simp at r9 r34 r39
     have e0:=hf (0,.pointer (some ⟨V,0,none⟩)) (by simp) (show ∀k,k<12→stlSlot k≠0 by decide)
     have e1:=hf (1,.string nm) (by simp) (show ∀k,k<12→stlSlot k≠1 by decide)
     have e15:=hf (15,.slice (some ⟨B,0,none⟩) n bc) (by simp) (show ∀k,k<12→stlSlot k≠15 by decide)
     have e16:=hf (16,.int .i64 n) (by simp) (show ∀k,k<12→stlSlot k≠16 by decide)
     have e17:=hf (17,.int .i64 k) (by simp) (show ∀k,k<12→stlSlot k≠17 by decide)
     have e2:=hf (2,undef) (by simp) (show ∀k,k<12→stlSlot k≠2 by decide)
     have e3:=hf (3,undef) (by simp) (show ∀k,k<12→stlSlot k≠3 by decide)
     have e8:=hf (8,undef) (by simp) (show ∀k,k<12→stlSlot k≠8 by decide)
     have e12:=hf (12,.pointer (some ⟨V,0,none⟩)) (by simp) (show ∀k,k<12→stlSlot k≠12 by decide)
     have e13:=hf (13,.pointer (some ⟨V,0,none⟩)) (by simp) (show ∀k,k<12→stlSlot k≠13 by decide)
     have e14:=hf (14,.pointer (some ⟨V,1,none⟩)) (by simp) (show ∀k,k<12→stlSlot k≠14 by decide)
     have e41:=hf (41,undef) (by simp) (show ∀k,k<12→stlSlot k≠41 by decide)
     have e42:=hf (42,undef) (by simp) (show ∀k,k<12→stlSlot k≠42 by decide)
     have e43:=hf (43,undef) (by simp) (show ∀k,k<12→stlSlot k≠43 by decide)
     have e44:=hf (44,undef) (by simp) (show ∀k,k<12→stlSlot k≠44 by decide)
     have e45:=hf (45,undef) (by simp) (show ∀k,k<12→stlSlot k≠45 by decide)
     have e46:=hf (46,undef) (by simp) (show ∀k,k<12→stlSlot k≠46 by decide)
     have e47:=hf (47,undef) (by simp) (show ∀k,k<12→stlSlot k≠47 by decide)
     have e48:=hf (48,undef) (by simp) (show ∀k,k<12→stlSlot k≠48 by decide)
     have e49:=hf (49,undef) (by simp) (show ∀k,k<12→stlSlot k≠49 by decide)
     have e50:=hf (50,undef) (by simp) (show ∀k,k<12→stlSlot k≠50 by decide)
     have e51:=hf (51,undef) (by simp) (show ∀k,k<12→stlSlot k≠51 by decide)
     have e52:=hf (52,undef) (by simp) (show ∀k,k<12→stlSlot k≠52 by decide)
     have e53:=hf (53,undef) (by simp) (show ∀k,k<12→stlSlot k≠53 by decide)
     have e54:=hf (54,undef) (by simp) (show ∀k,k<12→stlSlot k≠54 by decide)
     have e55:=hf (55,undef) (by simp) (show ∀k,k<12→stlSlot k≠55 by decide)
     simp at e0 e1 e15 e16 e17 e2 e3 e8 e12 e13 e14 e41 e42 e43 e44 e45 e46 e47 e48 e49 e50 e51 e52 e53 e54 e55
     subst e0 e1 e15 e16 e17 e2 e3 e8 e12 e13 e14 e41 e42 e43 e44 e45 e46 e47 e48 e49 e50 e51 e52 e53 e54 e55
     have hb03:Below w.heap.size w w3:=hb02.drew.trans ((Spared.below (hs3:Spared (fun b=>∃i,stlO v6 v7 i b) w2.drew w3) w.heap.size hb02.size (fun b hb=>(hO b hb).elim (fun h=>(hA2.lt b h).1) (fun h=>(hZ2.lt b h).1))))
     have HSTL3:=hid (show Stl w3 w.heap.size rss nm (k+1) x6 x7 from ⟨by rw [HX.out.1];exact r10.1,by rw [HX.out.2];exact r11.1,fun b hb6 hb7=>r9 b (by rw [←r34];exact hb6) (by rw [←r39];exact hb7)⟩)
     clear hr hsz r9 r34 r39 r10 r11 HCELL hf hs3 MK
     go_wp2_with fail
     go_roundw
     case rel=>exact ⟨k+1,by omega,by go_num,HSTL3.out,hb03⟩
     case measure=>simp [intOf];omega
   ·have hkm':k=m:=by omega
    have hmn':m<n:=by omega
    have HREC:=hid (record_no (sp k) (down k) a c (rss k) nm wr hst (by rw [hkm'];exact HNO.out hmn'))
    have HMN:=hid hmn'
    clear hstl hsto hst hkm' hmn' hkm
    go_wp2_with fail
    refine HREC.out.mono ?_
    rintro e w1 ⟨ev,rfl,hch,hb1⟩
    have hba:=(Below.refl w1.heap.size w1).alloc (Nat.le_refl _) (.cells #[.string ByteArray.empty,.int .i64 0,.int .i64 0,.int .i64 0,.int .i64 0,.int .i64 0,.slice none 0 0,.slice none 0 0] 127)
    have HIS:=hid (Is_any 9 9 _ 1 _ (hch.keeps hba (Nat.le_refl _)) (by decide))
    have hb01:=hbr.trans (hb1.mono hbr.size)
    have hb02:=hb01.trans (hba.mono hb01.size)
    obtain ⟨te,ve,rfl⟩:=hch.shape
    clear hch
    go_wp2_with (go_at_call 115;refine HIS.out.mono ?_;rintro e w3 ⟨rfl,rfl⟩)
    go_ret2
    first
     | exact ⟨by unfold settleR;rw [if_pos HMN.out];rfl,hb02⟩
     | exact ⟨rfl,hb02⟩
  ·have hkn':k=n:=by omega
   have hmn':m=n:=by omega
   have hnm:¬m<n:=by omega
   subst hkn'
   obtain ⟨aa,ca,rfl,hrda⟩:=owns_rd_size hstl.a
   obtain ⟨az,cz,rfl,hrdz⟩:=owns_rd_size hstl.z
   obtain ⟨A,hA⟩:∃A,A=(List.range k).map fun i=>(recOf (rss i) nm).ob:=⟨_,rfl⟩
   obtain ⟨Z,hZ⟩:∃Z,Z=(List.range k).map fun i=>(recOf (rss i) nm).late:=⟨_,rfl⟩
   rw [←hA] at hrda
   rw [←hZ] at hrdz
   have hAl:A.length=k:=by rw [hA];simp
   have hZl:Z.length=k:=by rw [hZ];simp
   have HAZ:=hid (And.intro hA hZ)
   have HSZ:=hid (fun w' (hb:Below wr.heap.size wr w')=>same_any az k cz Z w' hZl (by omega) (by omega) (hrdz.below hb (Nat.le_refl _)))
   have HSA:=hid (fun w' (hb:Below wr.heap.size wr w')=>same_any aa k ca A w' hAl (by omega) (by omega) (hrda.below hb (Nat.le_refl _)))
   have HEQ:=hid (fun w' (hb:Below wr.heap.size wr w')=>equalO aa az k ca cz A Z w' hAl hZl (by omega) (hrda.below hb (Nat.le_refl _)) (hrdz.below hb (Nat.le_refl _)))
   clear hstl hrda hrdz hA hZ
   have HRES:=hid (show ∀v:Value,(settleV A Z=v)→settleR m k ((List.range k).map fun i=>(recOf (rss i) nm).ob) ((List.range k).map fun i=>(recOf (rss i) nm).late)=v from fun v h=>by unfold settleR;rw [if_neg hnm,←HAZ.out.1,←HAZ.out.2];exact h)
   clear hnm hmn' hk hmn
   cases hsz:allSame Z with
   | true =>
    rw [hsz] at HSZ
    by_cases hAZ:A=Z
    ·rw [decide_eq_true hAZ] at HEQ
     have HV:=hid (show settleV A Z=.tuple #[.int .i64 5,.nilIface] from by unfold settleV settleOf;rw [if_pos hsz,if_pos hAZ];rfl)
     clear hsz hAZ
     go_wp2_with fail
     refine (HSZ.out _ (Below.refl _ _)).mono ?_
     rintro e w1 ⟨rfl,hb1⟩
     go_wp2_with fail
     refine (HEQ.out _ hb1).mono ?_
     rintro e w2 ⟨rfl,hb2⟩
     have hb02:=hbr.trans ((hb1.trans (hb2.mono hb1.size)).mono hbr.size)
     go_wp2_with fail
     go_ret2
     first
      | (rw [HRES.out _ HV.out];exact ⟨rfl,hb02⟩)
      | (rw [←HAZ.out.1,←HAZ.out.2,HV.out];exact ⟨rfl,hb02⟩)
    ·rw [decide_eq_false hAZ] at HEQ
     have HV:=hid (show settleV A Z=.tuple #[.int .i64 3,.nilIface] from by unfold settleV settleOf;rw [if_pos hsz,if_neg hAZ];rfl)
     clear hsz hAZ
     go_wp2_with fail
     refine (HSZ.out _ (Below.refl _ _)).mono ?_
     rintro e w1 ⟨rfl,hb1⟩
     go_wp2_with fail
     refine (HEQ.out _ hb1).mono ?_
     rintro e w2 ⟨rfl,hb2⟩
     have hb12:=hb1.trans (hb2.mono hb1.size)
     go_wp2_with fail
     refine (HSZ.out _ hb12).mono ?_
     rintro e w3 ⟨rfl,hb3⟩
     have hb03:=hbr.trans ((hb12.trans (hb3.mono hb12.size)).mono hbr.size)
     go_wp2_with fail
     go_ret2
     first
      | (rw [HRES.out _ HV.out];exact ⟨rfl,hb03⟩)
      | (rw [←HAZ.out.1,←HAZ.out.2,HV.out];exact ⟨rfl,hb03⟩)
   | false =>
    rw [hsz] at HSZ
    cases hsa:allSame A with
    | true =>
     rw [hsa] at HSA
     have HV:=hid (show settleV A Z=.tuple #[.int .i64 4,.nilIface] from by unfold settleV settleOf;rw [hsz,hsa];rfl)
     clear hsz hsa
     go_wp2_with fail
     refine (HSZ.out _ (Below.refl _ _)).mono ?_
     rintro e w1 ⟨rfl,hb1⟩
     go_wp2_with fail
     refine (HSZ.out _ hb1).mono ?_
     rintro e w2 ⟨rfl,hb2⟩
     have hb12:=hb1.trans (hb2.mono hb1.size)
     go_wp2_with fail
     refine (HSA.out _ hb12).mono ?_
     rintro e w3 ⟨rfl,hb3⟩
     have hb03:=hbr.trans ((hb12.trans (hb3.mono hb12.size)).mono hbr.size)
     go_wp2_with fail
     go_ret2
     first
      | (rw [HRES.out _ HV.out];exact ⟨rfl,hb03⟩)
      | (rw [←HAZ.out.1,←HAZ.out.2,HV.out];exact ⟨rfl,hb03⟩)
    | false =>
     rw [hsa] at HSA
     have HV:=hid (show settleV A Z=.tuple #[.int .i64 5,.iface 109 (.int .i64 12)] from by unfold settleV settleOf;rw [hsz,hsa];rfl)
     clear hsz hsa
     go_wp2_with fail
     refine (HSZ.out _ (Below.refl _ _)).mono ?_
     rintro e w1 ⟨rfl,hb1⟩
     go_wp2_with fail
     refine (HSZ.out _ hb1).mono ?_
     rintro e w2 ⟨rfl,hb2⟩
     have hb12:=hb1.trans (hb2.mono hb1.size)
     go_wp2_with fail
     refine (HSA.out _ hb12).mono ?_
     rintro e w3 ⟨rfl,hb3⟩
     have hb03:=hbr.trans ((hb12.trans (hb3.mono hb12.size)).mono hbr.size)
     go_wp2_with fail
     go_ret2
     first
      | (rw [HRES.out _ HV.out];exact ⟨rfl,hb03⟩)
      | (rw [←HAZ.out.1,←HAZ.out.2,HV.out];exact ⟨rfl,hb03⟩)
end Go.Proofs.YtcegdgmbponapabGreatDoor
namespace Go.Proofs.YtcegdgmbponapabGreatDoor
open Go.Lib
def namesOf (zs:List (List UInt8)):List (List UInt8):=Lib.compact (zs.mergeSort fun x y=>decide (x≤y))
theorem compact_mem (zs:List (List UInt8)) (x:List UInt8):x∈Lib.compact zs↔x∈zs:=by
 unfold Lib.compact Lib.compactUpTo
 simp only [List.mem_map,List.mem_filter,List.mem_range]
 constructor
 ·rintro ⟨i,⟨hi,_⟩,rfl⟩
  rw [getElem!_pos zs.toArray i (by simpa using hi)]
  simp
 ·intro hx
  obtain ⟨i,hi,rfl⟩:=List.getElem_of_mem hx
  have key:∀i (hi:i<zs.length),∃j,(j<zs.length∧Lib.keeps zs.toArray j=true)∧zs.toArray[j]! = zs[i]:=by
   intro i
   induction i with
   | zero=>intro hi;exact ⟨0,⟨hi,by simp [Lib.keeps]⟩,by rw [getElem!_pos zs.toArray 0 (by simpa using hi)];simp⟩
   | succ i ih =>
    intro hi
    by_cases hk:Lib.keeps zs.toArray (i+1)=true
    ·exact ⟨i+1,⟨hi,hk⟩,by rw [getElem!_pos zs.toArray (i+1) (by simpa using hi)];simp⟩
    ·obtain ⟨j,hj,he⟩:=ih (by omega)
     refine ⟨j,hj,he.trans ?_⟩
     simp only [Lib.keeps,Bool.not_eq_true,decide_eq_false_iff_not] at hk
     have h2:zs.toArray[i+1]! = zs.toArray[i]! := Decidable.byContradiction fun h=>hk (.inr h)
     rw [getElem!_pos zs.toArray (i+1) (by simpa using hi),getElem!_pos zs.toArray i (by simp;omega)] at h2
     simpa using h2.symm
  exact key i hi
theorem compact_nodup (zs:List (List UInt8)) (h:zs.Pairwise fun a b=>a≤b):(Lib.compact zs).Nodup:=by
 unfold Lib.compact Lib.compactUpTo
 refine List.Pairwise.map _ (R:=fun i j=>i<j∧j<zs.length∧Lib.keeps zs.toArray j=true) (fun i j hij e=>?_) ?_
 ·obtain ⟨h1,h2,h3⟩:=hij
  rw [getElem!_pos zs.toArray i (by simp;omega),getElem!_pos zs.toArray j (by simpa using h2)] at e
  simp only [List.getElem_toArray] at e
  simp only [Lib.keeps,decide_eq_true_eq] at h3
  rcases h3 with h3 | h3
  ·omega
  ·apply h3
   rw [getElem!_pos zs.toArray j (by simpa using h2),getElem!_pos zs.toArray (j-1) (by simp;omega)]
   simp only [List.getElem_toArray]
   have hp:=List.pairwise_iff_getElem.1 h
   have a1:zs[j-1]≤zs[j]:=hp (j-1) j (by omega) h2 (by omega)
   have a2:zs[i]≤zs[j-1]:=by
    rcases Nat.lt_or_ge i (j-1) with hlt | hge
    ·exact hp i (j-1) (by omega) (by omega) hlt
    ·have:i=j-1:=by omega
     subst this
     exact List.le_refl _
   rw [e] at a2
   exact List.le_antisymm a2 a1
 ·have h1:((List.range zs.length).filter (Lib.keeps zs.toArray)).Pairwise (·<·):=List.Pairwise.filter _ List.pairwise_lt_range
  refine h1.imp_of_mem (fun {a b} ha hb hab=>?_)
  rw [List.mem_filter,List.mem_range] at hb
  exact ⟨hab,hb.1,hb.2⟩
theorem namesOf_mem (zs:List (List UInt8)) (x:List UInt8):x∈namesOf zs↔x∈zs:=by
 unfold namesOf
 rw [compact_mem,List.mem_mergeSort]
theorem namesOf_nodup (zs:List (List UInt8)):(namesOf zs).Nodup:=by
 unfold namesOf
 apply compact_nodup
 have:=List.pairwise_mergeSort (le:=fun x y:List UInt8=>decide (x≤y)) (fun a b c h1 h2=>by
  simp only [decide_eq_true_eq] at h1 h2 ⊢
  exact List.le_trans h1 h2) (fun a b=>by
  simp only [Bool.or_eq_true,decide_eq_true_eq]
  exact List.le_total a b) zs
 exact this.imp (fun h=>by simpa using h)
end Go.Proofs.YtcegdgmbponapabGreatDoor
namespace Go.Proofs.YtcegdgmbponapabGreatDoor
open Go.RowKit Go.Sort Go.Lib
attribute [local go_sem ↓] Go.wp_at_zero Go.wp_at_succ
theorem strs_snoc (l:List (List UInt8)) (x:List UInt8):strs (l++[x])=strs l++[.string ⟨x.toArray⟩]:=by simp [strs,str]
def namesUpTo (rss:Nat→List RecV) (k:Nat):List (List UInt8):=(List.range k).flatMap fun i=>(rss i).map fun r=>r.name.data.toList
theorem namesUpTo_succ (rss:Nat→List RecV) (k:Nat):namesUpTo rss (k+1)=namesUpTo rss k++(rss k).map fun r=>r.name.data.toList:=by
 simp [namesUpTo,List.range_succ]
theorem namesUpTo_length (rss:Nat→List RecV) (k:Nat) (h:∀i,i<k→(rss i).length≤10):(namesUpTo rss k).length≤k*10:=by
 induction k with
 | zero=>simp [namesUpTo]
 | succ k ih =>
  rw [namesUpTo_succ,List.length_append,List.length_map]
  have:=ih (fun i hi=>h i (by omega))
  have:=h k (by omega)
  omega
theorem namesUpTo_mem (rss:Nat→List RecV) (k:Nat) (x:List UInt8):x∈namesUpTo rss k↔∃i,i<k∧∃r∈rss i,r.name.data.toList=x:=by
 simp [namesUpTo,List.mem_flatMap]
theorem strs_holds (g c:Nat) (l:List (List UInt8)) (w:World) (base:Nat) (h:w.ownsRow base 9 1 (.slice (some ⟨g,0,none⟩) l.length c) l.length (strs l)) :
  Holds encStr w g 0 l.toArray:=by
 intro j hj
 have hj':j<l.length:=by simpa using hj
 refine ⟨?_,h.frozenAt _⟩
 rw [Nat.zero_add,h.cellAt j (by omega),getElem!_pos l.toArray j hj]
 simp [strs,hj',encStr,str]
theorem putRow_block (w:World) (g n:Nat) (d:Array (List UInt8)) (k:Nat) (h:k≠g):(putRow encStr (Sort.ahead w n) g 0 d).heap[k]?=w.heap[k]?:=by
 simp only [putRow,mapBlock,Sort.ahead]
 rw [Array.getElem?_modify,if_neg (Ne.symm h)]
theorem below_putRow {w:World} {g:Nat} (n:Nat) (d:Array (List UInt8)) (os:Array Obj) (B:Nat) (hB:B≤w.heap.size) (hg:B≤g):Below B w (grow (putRow encStr (Sort.ahead w n) g 0 d) os):=by
 refine ⟨rfl,rfl,rfl,by simp [Sort.ahead],fun k hk=>?_⟩
 rw [heap_grow_old _ _ (by simpa [Sort.ahead] using (show k<w.heap.size by omega)),putRow_block w g n d k (by omega)]
theorem holds_rd {w:World} {g:Nat} {l:List (List UInt8)} (h:Holds encStr w g 0 l.toArray) (hg:g<w.heap.size) (m:Nat) (hm:m≤l.length):Rd w (some ⟨g,0,none⟩) (strs (l.take m)):=by
 intro k v hk
 have hkm:k<m∧k<l.length:=by
  have:k<(strs (l.take m)).length:=by
   rcases Nat.lt_or_ge k (strs (l.take m)).length with h' | h'
   ·exact h'
   ·rw [List.getElem?_eq_none h'] at hk;cases hk
  simp [strs] at this
  omega
 refine ⟨g,0,rfl,hg,?_⟩
 have:=(h k (by simpa using hkm.2)).1
 rw [Nat.zero_add] at this
 rw [Nat.zero_add,this,getElem!_pos l.toArray k (by simpa using hkm.2),←hk]
 simp [strs,hkm.1,hkm.2,encStr,str]
set_option maxRecDepth 100000 in
set_option maxHeartbeats 2000000 in
theorem names_any (V key n B bc:Nat) (sp:Nat→Nat) (down:Nat→Bool) (vs:Nat→Value) (rss:Nat→List RecV) (w:World) (h:Va w V key n B 0 bc sp) (hn8:n≤8) (hst:∀i,i<n→Sto w (sp i) (down i) (vs i) (rss i)) :
  Calls Tryz.prog 109 #[.pointer (some ⟨V,0,none⟩)] w fun e w' =>
   ∃a c,e=.returned (.slice a (namesOf (namesUpTo rss n)).length c)∧Rd w' a (strs (namesOf (namesUpTo rss n)))∧Below w.heap.size w w':=by
 obtain ⟨i0,hi,hz0,hz1,hz2⟩:=info_parts Tryz.infoS
 have c1:=h.c1
 have HVA:=hid h
 have HST:=hid hst
 have HLE:=hid (show ∀i,i<n→(rss i).length≤10 from fun i hi=>(hst i hi).le)
 clear h hst
 go_enter Tryz.func109,Tryz.ntmps109
 go_wp2_with fail
 go_loopw [3,13] (fun v u wr=>∃(k:Nat),k≤n∧u=.int .i64 k∧wr.ownsRow w.heap.size 9 1 v (namesUpTo rss k).length (strs (namesUpTo rss k))∧Below w.heap.size w wr) (fun _ u _=>n-(intOf u).toNat)
 case atStart=>exact ⟨0,Nat.zero_le _,rfl,⟨rfl,.inl ⟨rfl,rfl⟩⟩,Below.refl _ _⟩
 case round =>
  obtain ⟨k,hk,rfl,hrow,hbr⟩:=hrel
  by_cases hlt:k<n
  ·have k1:wr.cell? ⟨B,k,none⟩=some (.pointer (some ⟨sp k,0,none⟩)):=by
    have:=(HVA.out.keeps hbr (Nat.le_refl _)).st k hlt
    rwa [Nat.zero_add] at this
   have hlt':(k:Int)<(n:Int):=by omega
   have HREC:=hid (srecords_any (sp k) (down k) (vs k) (rss k) wr ((HST.out k hlt).keeps (Spared.ofBelow (own:=fun _=>False) hbr (Nat.le_refl _)) (fun h=>h) (fun _ _ h=>h)))
   have HLK:=hid (HLE.out k hlt)
   have HNL:=hid (namesUpTo_length rss k (fun i hi=>HLE.out i (by omega)))
   obtain ⟨wo,rfl⟩:∃wo,wo=wr:=⟨_,rfl⟩
   have HROW:=hid hrow
   clear hrow
   go_wp2_with fail
   refine HREC.out.mono ?_
   rintro e w1 ⟨rv,rfl,hrr,hb1⟩
   obtain ⟨ra,rc,rfl,_⟩:=owns_rd_size hrr
   have HRR:=hid hrr
   have HROW1:=hid (owns_below_size HROW.out hb1 (Nat.le_refl _))
   have hb01:=hbr.trans (hb1.mono hbr.size)
   obtain ⟨m,hm⟩:∃m,m=(rss k).length:=⟨_,rfl⟩
   have HM:=hid hm
   rw [←hm] at HRR ⊢
   clear hrr
   clear hm
   go_wp2_with fail
   go_loopw [3,20] (fun v u wr=>∃(j:Nat),j≤m∧u=.int .i64 j∧wr.ownsRow w.heap.size 9 1 v ((namesUpTo rss k).length+j) (strs (namesUpTo rss k++((rss k).take j).map fun r=>r.name.data.toList))∧wr.ownsRow wo.heap.size 127 8 (.slice ra m rc) m (recs (rss k))∧Below w.heap.size w wr) (fun _ u _=>m-(intOf u).toNat)
   case atStart=>exact ⟨0,Nat.zero_le _,rfl,by simpa using HROW1.out,HRR.out,hb01⟩
   case round =>
    obtain ⟨j,hj,rfl,hrow,hrr,hbi⟩:=hrel
    by_cases hltj:j<m
    ·obtain ⟨_,_,hve,hrd⟩:=owns_rd_size hrr
     cases hve
     obtain ⟨b,o,rfl,hb,_⟩:=hrd.pos (by rw [recs_length,←HM.out];omega)
     obtain ⟨_,r0,r1,r2,r3,r4,r5,r6,r7⟩:=rec_at hrd j (by rw [←HM.out];exact hltj)
     have HRR1:=hid hrr
     have HX:=hid (show ((rss k).take (j+1)).map (fun r=>r.name.data.toList)=((rss k).take j).map (fun r=>r.name.data.toList)++[((rss k)[j]!).name.data.toList] by
      rw [List.take_add_one,getElem!_pos (rss k) j (by rw [←HM.out];exact hltj),List.getElem?_eq_getElem (by rw [←HM.out];exact hltj),List.map_append]
      rfl)
     generalize (rss k)[j]! = r at *
     have hltj':(j:Int)<(m:Int):=by omega
     obtain ⟨N,hN⟩:∃N,N=(namesUpTo rss k).length:=⟨_,rfl⟩
     have HNN:=hid hN
     rw [←hN] at hrow
     have hba1:=(Below.refl wr.heap.size wr).alloc (Nat.le_refl _) (.cells #[.string r.name,.int .i64 r.mode,.int .i64 r.t,.int .i64 r.l,.int .i64 r.size,.int .i64 r.epoch,.slice r.sa r.sn r.sc,.slice r.na r.nn r.nc] 127)
     have hba2:=hba1.alloc (by simp) (.cells #[.string r.name] 9)
     have HRW2:=hid (owns_below_size hrow hba2 (Nat.le_refl _))
     have HRR2:=hid (owns_below_size hrr hba2 (Nat.le_refl _))
     have hNle:N≤80:=by have h1:=HNL.out;rw [←hN] at h1;omega
     have hm10:m≤10:=by have h1:=HLK.out;rw [←HM.out] at h1;exact h1
     obtain ⟨pre,hpre⟩:∃pre,pre=strs (namesUpTo rss k++((rss k).take j).map fun r=>r.name.data.toList):=⟨_,rfl⟩
     rw [←hpre] at HRW2
     have HPRE:=hid hpre
     clear hrow hN hpre hrr hrd
     go_wp2_with (first | (at_builtin;refine wpList_append_own _ rfl (.tmp 24) (.tmp 28) 35 rfl w.heap.size 9 i0 _ 1 16 Tryz.underlying35 hi hz0 hz1 hz2 rfl (by decide) _ (N+j) pre rfl HRW2.out ⟨wr.heap.size+1,0,none⟩ 1 1 [.string r.name] rfl rfl (fun q u hq=>by rw [add_at,World.cell?_alloc_at _ _ _ _ (by simp),Nat.zero_add];simpa using hq) (fun u hu=>by simp at hu;subst hu;rfl) (by unfold maxLen;omega) (by omega) (by have:=hbi.size;simp;omega) ?_;intro v2 w2 hown2 hgrow2 _;(have HO2:=hid hown2);(have HB2:=hid ((hbi.trans (hba2.mono hbi.size)).grown hgrow2 (by have:=hbi.size;simp;omega) (fun q hq=>(HRW2.out.lt q hq).1)));(have HR2:=hid (HRR2.out.kept hgrow2 (.inr (Ne.symm (rows_ne HRR2.out HRW2.out (by decide) rfl)))));clear hown2 hgrow2)|fail)
     go_roundw
     case rel =>
      refine ⟨j+1,by omega,by go_num,?_,HR2.out,HB2.out⟩
      have h2:=HO2.out
      rw [HPRE.out,HNN.out] at h2
      rw [HX.out,←List.append_assoc,strs_snoc]
      exact h2
     case measure=>simp [intOf];omega
    ·have hjm:j=m:=by omega
     subst hjm
     have HRW:=hid hrow
     clear hrow hrr
     go_wp2_with fail
     go_roundw
     case rel =>
      refine ⟨k+1,by omega,by go_num,?_,hbi⟩
      have h2:=HRW.out
      rw [List.take_of_length_le (Nat.le_of_eq HM.out.symm)] at h2
      rw [namesUpTo_succ,List.length_append,List.length_map,←HM.out]
      exact h2
     case measure=>simp [intOf];omega
  ·have hkn:k=n:=by omega
   subst hkn
   have HNL:=hid (namesUpTo_length rss k HLE.out)
   obtain ⟨zs,hzs⟩:∃zs,zs=namesUpTo rss k:=⟨_,rfl⟩
   rw [←hzs] at hrow HNL
   have HZS:=hid hzs
   clear hzs
   by_cases hz:zs.length=0
   ·have hz':zs=[]:=List.length_eq_zero_iff.1 hz
    have HE:=hid (show namesOf zs=[] by rw [hz'];simp [namesOf,Lib.compact,Lib.compactUpTo])
    have HNS:=hid (fun w' p cap=>Any.slices_Sort_string_none Tryz.lays190 p cap w')
    have HNC:=hid (fun w' p cap=>Tryz.slices_Compact_string_empty p cap w')
    obtain ⟨a,c,rfl,_⟩:=owns_rd_size hrow
    rw [hz]
    clear hrow hz hz'
    go_wp2_with fail
    refine (HNS.out _ a c).mono ?_
    rintro e w1 ⟨rfl,rfl⟩
    go_wp2_with fail
    refine (HNC.out _ a c).mono ?_
    rintro e w2 ⟨rfl,rfl⟩
    go_wp2_with fail
    go_ret
    rw [←HZS.out,HE.out]
    exact ⟨a,c,rfl,Rd.nil _ _,hbr⟩
   ·obtain ⟨g,c,rfl,hg1,hg2⟩:=row_some hrow (by omega)
    have hH:=strs_holds g c zs wr w.heap.size hrow
    have HS:=hid (Tryz.slices_Sort_string g 0 c zs wr hH hg2 (by have:=HNL.out;omega))
    have hcap:zs.length≤c:=by obtain ⟨_,_,_,_,h5,_⟩:=owns_split hrow;exact h5
    obtain ⟨ss,hss⟩:∃ss,ss=zs.mergeSort (fun x y=>decide (x≤y)):=⟨_,rfl⟩
    have hsl:ss.length=zs.length:=by rw [hss,List.length_mergeSort]
    rw [←hss] at HS
    have HSS:=hid (show namesOf zs=Lib.compact ss by rw [hss];rfl)
    have HHH:=hid hH
    have hwz:=hbr.size
    clear hrow hss hH
    go_wp2_with fail
    refine HS.out.mono ?_
    rintro e w1 ⟨rfl,q,os,hw1⟩
    have hH1:Holds encStr w1 g 0 ss.toArray:=by
     rw [hw1]
     exact holds_grow _ _ _ _ _ _ (by simpa [Sort.ahead] using hg2) (holds_putRow encStr (Sort.ahead wr q) g 0 zs.toArray ss.toArray HHH.out (by simp [hsl]))
    have hb1:Below w.heap.size w w1:=by
     rw [hw1]
     exact hbr.trans (below_putRow q _ os w.heap.size hwz hg1)
    have hg1':g<w1.heap.size:=by rw [hw1];simp [Sort.ahead];omega
    have HC:=hid (Tryz.slices_Compact_string g 0 c ss w1 hH1 (by have:=HNL.out;omega) (by omega))
    rw [hsl] at HC
    have HH1:=hid hH1
    have HB1:=hid hb1
    clear hw1 hH1 hb1
    go_wp2_with fail
    refine HC.out.mono ?_
    rintro e w2 ⟨rfl,q2,hw2⟩
    have HR2:=hid (show Rd w2 (some ⟨g,0,none⟩) (strs (Lib.compact ss)) from by
     have hll:(Lib.compact ss).length≤ss.length:=by
      unfold Lib.compact Lib.compactUpTo
      rw [List.length_map]
      exact Nat.le_trans (List.length_filter_le _ _) (by simp)
     have h2:=holds_putRow encStr (Sort.ahead w1 q2) g 0 ss.toArray (Lib.compact ss++List.replicate (zs.length-(Lib.compact ss).length) []).toArray HH1.out (by simp;omega)
     have h3:=holds_rd (l:=Lib.compact ss++List.replicate (zs.length-(Lib.compact ss).length) []) h2 (by simpa [Sort.ahead] using hg1') (Lib.compact ss).length (by simp)
     rw [List.take_left] at h3
     rw [hw2]
     exact h3)
    have HB2:=hid (show Below w.heap.size w w2 from by
     rw [hw2]
     have h4:=below_putRow (w:=w1) (g:=g) q2 (Lib.compact ss++List.replicate (zs.length-(Lib.compact ss).length) []).toArray #[] w.heap.size (by have:=HB1.out.size;omega) hg1
     rw [grow_empty] at h4
     exact HB1.out.trans h4)
    clear hw2
    go_wp2_with fail
    go_ret
    rw [←HZS.out,HSS.out]
    exact ⟨_,c,rfl,HR2.out,HB2.out⟩
end Go.Proofs.YtcegdgmbponapabGreatDoor
namespace Go.Proofs.YtcegdgmbponapabGreatDoor
open Go.RowKit
attribute [local go_sem ↓] Go.wp_at_zero Go.wp_at_succ
def cutRun (code:List UInt8→Option Nat):List (List UInt8)→List UInt8→Nat→Option (List UInt8 × Nat)
 | [],f,s=>some (f,s)
 | x :: xs,f,s=>match code x with
  | none=>none
  | some c=>if c=5 then cutRun code xs f s else if s=5 then cutRun code xs x c else none
def codeV:Option Nat→Value
 | some c=>.tuple #[.int .i64 c,.nilIface]
 | none=>.tuple #[.int .i64 5,.iface 109 (.int .i64 12)]
set_option maxRecDepth 100000 in
set_option maxHeartbeats 2000000 in
theorem cutOff_any (V:Nat) (N:List (List UInt8)) (code:List UInt8→Option Nat) (w:World) (hN:N.length≤80) (hcs:∀x c,code x=some c→c≤5) (hlen:∀x∈N,x.length≤1000)
  (hnames:Calls Tryz.prog 109 #[.pointer (some ⟨V,0,none⟩)] w fun e w'=>∃a c,e=.returned (.slice a N.length c)∧Rd w' a (strs N)∧Below w.heap.size w w')
  (hset:∀x∈N,∀w',Below w.heap.size w w'→Calls Tryz.prog 110 #[.pointer (some ⟨V,0,none⟩),.string ⟨x.toArray⟩] w' fun e w''=>e=.returned (codeV (code x))∧Below w'.heap.size w' w'') :
  Calls Tryz.prog 81 #[.pointer (some ⟨V,0,none⟩)] w fun e w' =>
   (∃f s,cutRun code N [] 5=some (f,s)∧e=.returned (.tuple #[.string ⟨f.toArray⟩,.int .i64 s,.nilIface])∧Below w.heap.size w w') ∨
   (cutRun code N [] 5=none∧∃ev,e=.returned (.tuple #[.string ⟨#[]⟩,.int .i64 5,ev])∧Chain w' 12 1 ev∧Below w.heap.size w w'):=by
 have HNM:=hid hnames
 have HSET:=hid hset
 have HCS:=hid hcs
 have HLEN:=hid hlen
 clear hnames hset hcs hlen
 obtain ⟨R,hR⟩:∃R,R=cutRun code N [] 5:=⟨_,rfl⟩
 have HR:=hid hR
 rw [←hR]
 clear hR
 obtain ⟨L,hL⟩:∃L,L=N.length:=⟨_,rfl⟩
 rw [←hL] at HNM hN
 have HL:=hid hL
 clear hL
 go_enter Tryz.func81,Tryz.ntmps81
 go_wp2_with fail
 refine HNM.out.mono ?_
 rintro e w1 ⟨an,cn,rfl,hrd,hb1⟩
 have HRD:=hid hrd
 clear hrd
 go_wp2_with fail
 go_loopw [5,6,14] (fun uf us u wr=>∃(k s:Nat) (f:List UInt8),k≤L∧s≤5∧f.length≤1000∧u=.int .i64 k∧uf=.string ⟨f.toArray⟩∧us=.int .i64 s∧R=cutRun code (N.drop k) f s∧Below w1.heap.size w1 wr) (fun _ _ u _=>L-(intOf u).toNat)
 case atStart=>exact ⟨0,5,[],Nat.zero_le _,Nat.le_refl _,by simp,rfl,rfl,rfl,HR.out,Below.refl _ _⟩
 case round =>
  obtain ⟨k,s,f,hk,hs5,hf,rfl,rfl,rfl,hR,hbr⟩:=hrel
  have hb0r:=hb1.trans (hbr.mono hb1.size)
  by_cases hlt:k<L
  ·obtain ⟨bn,on,rfl,_,hcn⟩:=HRD.out.pos (by rw [show (strs N).length=N.length by simp [strs],←HL.out];omega)
   have hkN:k<N.length:=by rw [←HL.out];exact hlt
   obtain ⟨x,hx⟩:∃x,x=N[k]:=⟨_,rfl⟩
   have cx:wr.cell? ⟨bn,on+k,none⟩=some (.string ⟨x.toArray⟩):=by
    obtain ⟨b',o',e1,e2,e3⟩:=(HRD.out.below hbr (Nat.le_refl _)) k (.string ⟨x.toArray⟩) (by simp [strs,str,hkN,hx])
    cases e1
    exact e3
   have hxm:x∈N:=by rw [hx];exact List.getElem_mem hkN
   have hd:N.drop k=x :: N.drop (k+1):=by rw [List.drop_eq_getElem_cons hkN,hx]
   have HST:=hid (HSET.out x hxm wr hb0r)
   have HXL:=hid (HLEN.out x hxm)
   have hlt':(k:Int)<(L:Int):=by omega
   rw [hd] at hR
   unfold cutRun at hR
   cases hc:code x with
   | none =>
    rw [hc] at hR HST
    have HRR:=hid hR
    clear hR hc hd hcn hx
    unfold codeV at HST
    go_wp2_with fail
    refine HST.out.mono ?_
    rintro e w2 ⟨rfl,hb2⟩
    go_wp2_with (go_at_call 53;refine (at_chain _ _ 12 0 _ .hit).mono ?_;rintro e w3 ⟨e3,rfl,hch3,hb3⟩)
    have hb03:=(hb0r.trans (hb2.mono hb0r.size)).trans (hb3.mono (by have:=hb0r.size;have:=hb2.size;omega))
    go_ret3
    exact .inr ⟨HRR.out,_,rfl,hch3,hb03⟩
   | some c =>
    have hc5:=HCS.out x c hc
    rw [hc] at hR HST
    unfold codeV at HST
    clear hc hd hcn hx
    by_cases h5:c=5
    ·subst h5
     simp only [if_true] at hR
     have HRR:=hid hR
     clear hR
     go_wp2_with fail
     refine HST.out.mono ?_
     rintro e w2 ⟨rfl,hb2⟩
     have hb02:=hbr.trans (hb2.mono hbr.size)
     go_wp2_with fail
     go_roundw
     case rel=>exact ⟨k+1,s,f,by omega,hs5,hf,by go_num,rfl,rfl,HRR.out,hb02⟩
     case measure=>simp [intOf];omega
    ·simp only [if_neg h5] at hR
     have hc5n:((c:Int) != 5)=true:=by simp;omega
     have hc5n':¬(c:Int)=5:=by omega
     by_cases hs:s=5
     ·subst hs
      simp only [if_true] at hR
      have HRR:=hid hR
      clear hR h5
      go_wp2_with fail
      refine HST.out.mono ?_
      rintro e w2 ⟨rfl,hb2⟩
      have hb02:=hbr.trans (hb2.mono hbr.size)
      go_wp2_with fail
      go_roundw
      case rel=>exact ⟨k+1,c,x,by omega,hc5,HXL.out,by go_num,rfl,rfl,HRR.out,hb02⟩
      case measure=>simp [intOf];omega
     ·simp only [if_neg hs] at hR
      have hs5n:((s:Int) != 5)=true:=by simp;omega
      have hs5n':¬(s:Int)=5:=by omega
      have HRR:=hid hR
      have hsz1:¬9223372036854775807<(⟨f.toArray⟩:ByteArray).size+(⟨#[32,97,110,100,32]⟩:ByteArray).size:=by
       show ¬9223372036854775807<f.toArray.size+5
       simp;omega
      have hsz2:¬9223372036854775807<((⟨f.toArray⟩:ByteArray)++(⟨#[32,97,110,100,32]⟩:ByteArray)).size+(⟨x.toArray⟩:ByteArray).size:=by
       have h1:=HXL.out
       rw [ByteArray.size_append]
       show ¬9223372036854775807<f.toArray.size+5+x.toArray.size
       simp;omega
      clear hR h5 hs
      go_wp2_with fail
      refine HST.out.mono ?_
      rintro e w2 ⟨rfl,hb2⟩
      have hb02:=hb0r.trans (hb2.mono hb0r.size)
      go_wp2_with (go_at_call 53;refine (at_chain _ _ 12 0 _ .hit).mono ?_;rintro e w3 ⟨e3,rfl,hch3,hb3⟩)
      go_ret3
      exact .inr ⟨HRR.out,_,rfl,hch3,hb02.trans (hb3.mono hb02.size)⟩
  ·have hkL:k=L:=by omega
   have HRR:=hid (show R=some (f,s) from by
    rw [hR,List.drop_of_length_le (by rw [←HL.out];omega)]
    rfl)
   clear hR
   subst hkL
   go_wp2_with fail
   go_ret3
   exact .inl ⟨f,s,HRR.out,rfl,hb0r⟩
end Go.Proofs.YtcegdgmbponapabGreatDoor