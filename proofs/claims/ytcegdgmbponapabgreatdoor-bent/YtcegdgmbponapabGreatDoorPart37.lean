/-
  vault.Images and the coffer's: what lies at the stores, as texts.
  The coffer's Images.
  A store's image, read: it gives back what lies there.
  Lists of records with the same contents: the same is cut off, the same settles them.
-/
import Derived.Test.YtcegdgmbponapabGreatDoorPart36
import Derived.Test.YtcegdgmbponapabGreatDoorPart35
namespace Go.Proofs.YtcegdgmbponapabGreatDoor
open Go.RowKit
attribute [local go_sem ↓] Go.wp_at_zero Go.wp_at_succ
theorem Tryz.infoBs:(Tryz.prog.info? 44).map (fun i=>(i.zero,i.size,i.bytes))=some (some (.slice none 0 0),1,24):=by kernel_rfl
def RecV.z (X:Nat→List UInt8) (r:RecV):List UInt8:=if r.na=none then [] else r.y X
def imageOf (n i:Nat) (rs:List RecV) (X:Nat→List UInt8):List UInt8:=imgOf n i rs (fun k=>(rs[k]!).x X) (fun k=>(rs[k]!).z X) rs.length
theorem RecGood.tell {w:World} {base n:Nat} {X:Nat→List UInt8} {r:RecV} (h:RecGood w base n X r) (i:Nat):Tell w n i r (r.x X) (r.z X):=by
 have hng:=ngroups_le h.plan r.size h.z
 have hsn:=h.sn
 have hnm:=h.n12
 obtain ⟨g,hsa,_⟩:=h.sa
 refine ⟨h.plan,h.e,h.z,h.n12,⟨h.own.rd,h.own.len,by omega,fun e=>by rw [hsa] at e;cases e⟩,?_⟩
 unfold RecV.z
 rcases h.nx with ⟨h1,h2,h3⟩|⟨h1,_,_,h4,h5,_⟩
 ·rw [if_pos h1,h1,h2,h3]
  exact ⟨Rd.nil _ _,rfl,by omega,fun _=>rfl⟩
 ·rw [if_neg h1]
  exact ⟨h5.rd,h5.len,by omega,fun e=>absurd e h1⟩
theorem imgOf_len {w:World} {base n:Nat} {X:Nat→List UInt8} {rs:List RecV} (h:∀r∈rs,RecGood w base n X r) (i k:Nat) (hk:k≤rs.length):(imgOf n i rs (fun k=>(rs[k]!).x X) (fun k=>(rs[k]!).z X) k).length≤k*300:=by
 induction k with
 | zero=>simp [imgOf]
 | succ k ih =>
  have:=ih (by omega)
  have hr:rs[k]! ∈ rs:=by rw [getElem!_pos rs k (by omega)];exact List.getElem_mem _
  have ht:=(h _ hr).tell i
  have hg:=h _ hr
  have hng:=ngroups_le hg.plan _ hg.z
  have hsn:=hg.sn
  have hnm:=hg.n12
  have h1:=ht.sh.2.1
  have h2:=ht.nx.2.1
  have h3:(rs[k]!).nn≤(rs[k]!).sn:=by
   rcases hg.nx with ⟨_,h2,_⟩|⟨_,_,_,h4,_⟩<;>omega
  unfold imgOf imgRec
  simp only [List.length_append,List.length_cons,Cof.length_head]
  have h4:(rs[k]!).name.data.toList.length=(rs[k]!).name.size:=by simp
  omega
structure Imgs (w:World) (W G n i:Nat) (Z:Nat→List UInt8) (vs:Nat→Value):Prop where
 row:∃P:Array Value,w.heap[G]?=some (.cells P 44)∧P.size=n∧∀j,j<i→P[j]?=some (vs j)
 own:∀j,j<i→w.ownsRow W 5 1 (vs j) (Z j).length (bs (Z j))
theorem Imgs.rows {w:World} {W G n:Nat} {Z:Nat→List UInt8} {vs:Nat→Value} (h:Imgs w W G n n Z vs):RdRows w (some ⟨G,0,none⟩) ((List.range n).map Z):=by
 obtain ⟨P,h1,h2,h3⟩:=h.row
 refine ⟨(List.range n).map vs,by simp,fun k v hk=>?_,fun k v hk=>?_⟩
 ·have hkn:k<n:=by
   rcases Nat.lt_or_ge k n with h | h
   ·exact h
   ·rw [List.getElem?_eq_none (by simpa using h)] at hk;cases hk
  refine ⟨G,0,rfl,cells_lt h1,?_⟩
  rw [Nat.zero_add,cells_at h1,h3 k hkn,←hk]
  simp [hkn]
 ·have hkn:k<n:=by
   rcases Nat.lt_or_ge k n with h | h
   ·exact h
   ·rw [List.getElem?_eq_none (by simpa using h)] at hk;cases hk
  have hv:v=vs k:=by simpa [hkn] using hk.symm
  subst hv
  obtain ⟨a,c,e,hr⟩:=owns_rd_size (h.own k hkn)
  have eZ:((List.range n).map Z).getD k []=Z k:=by simp [hkn]
  rw [eZ]
  exact ⟨a,c,e,hr⟩
def viSlot (i:Nat):Option Nat:=if i=12 then none else some (i+22)
def viV (W0 G V n B bc S i:Nat) (rs:List RecV) (Z:List UInt8):Nat→Value→World→Prop
 | 0,v,_=>v=.slice (some ⟨G,0,none⟩) n n
 | 1,v,_=>v=.int .i64 i
 | 2,v,_=>v=.pointer (some ⟨S,0,none⟩)
 | 3,v,w=>w.ownsRow W0 127 8 v rs.length (recs rs)
 | 4,v,_=>v=.pointer (some ⟨V,0,none⟩)
 | 5,v,_=>v=.pointer (some ⟨V,0,none⟩)
 | 6,v,_=>v=.pointer (some ⟨V,1,none⟩)
 | 7,v,_=>v=.slice (some ⟨B,0,none⟩) n bc
 | 8,v,_=>v=.int .i64 n
 | 9,v,_=>v=.int .i64 i
 | 10,v,w=>w.ownsRow W0 5 1 v Z.length (bs Z)
 | 11,v,_=>v=.pointer (some ⟨G,i,none⟩)
 | _,_,_=>True
def viA (W0 G V n B bc S i:Nat) (rs:List RecV) (Z:List UInt8) (P:Array Value) (j:Nat) (a:Act) (w:World):Prop :=
 viV W0 G V n B bc S i rs Z j (a.tmps.getD (j+22) undef) w∧(j=12→w.heap[G]?=some (.cells (P.setIfInBounds i (a.tmps.getD 32 undef)) 44))
theorem viV_keeps (W0 G V n B bc S i:Nat) (rs:List RecV) (Z:List UInt8) (hG:G<W0) (q j:Nat) (v:Value) (w w':World) (h:viV W0 G V n B bc S i rs Z j v w) (hs:Spared (fun b=>q=12∧b=G) w w'):viV W0 G V n B bc S i rs Z j v w':=by
 unfold viV at h ⊢
 split at h
 ·exact h
 ·exact h
 ·exact h
 ·exact owns_spared h hs (fun b hb ⟨_,e⟩=>by have:=(h.lt b hb).1;omega)
 ·exact h
 ·exact h
 ·exact h
 ·exact h
 ·exact h
 ·exact h
 ·exact owns_spared h hs (fun b hb ⟨_,e⟩=>by have:=(h.lt b hb).1;omega)
 ·exact h
 ·trivial
theorem arrF36 (t:Array Value) (h:t.size=36):∃f:Nat→Value,(∀k,t.getD k undef=f k)∧t=#[f 0,f 1,f 2,f 3,f 4,f 5,f 6,f 7,f 8,f 9,f 10,f 11,f 12,f 13,f 14,f 15,f 16,f 17,f 18,f 19,f 20,f 21,f 22,f 23,f 24,f 25,f 26,f 27,f 28,f 29,f 30,f 31,f 32,f 33,f 34,f 35]:=⟨fun k=>t.getD k undef,fun _=>rfl,arr_of t 36 h⟩
set_option maxRecDepth 100000 in
set_option maxHeartbeats 4000000 in
theorem vimages_any (V key n B bc:Nat) (sp:Nat→Nat) (dn:Nat→Bool) (vs:Nat→Value) (rss:Nat→List RecV) (X:Nat→List UInt8) (base:Nat) (w:World) (h:Va w V key n B 0 bc sp) (hn1:1≤n) (hn8:n≤8) (hst:∀i,i<n→Sto w (sp i) (dn i) (vs i) (rss i)) (hok:∀i,i<n→∀r∈rss i,RecGood w base n X r) :
  Calls Tryz.prog 34 #[.pointer (some ⟨V,0,none⟩)] w fun e w'=>∃g,e=.returned (.slice (some ⟨g,0,none⟩) n n)∧RdRows w' (some ⟨g,0,none⟩) ((List.range n).map fun i=>imageOf n i (rss i) X)∧Below w.heap.size w w':=by
 obtain ⟨i0,hi,hz0,hz1,hz2⟩:=info_parts Tryz.infoBs
 have c1:=h.c1
 have hVl:=h.lt
 have HVA:=hid h
 have HST:=hid hst
 have HOK:=hid hok
 clear h hst hok
 go_enter Tryz.func34,Tryz.ntmps34
 go_wp2_with (first | (at_make;refine wpList_make_full _ rfl (.tmp 10) (.tmp 10) 73 rfl w.heap.size 44 i0 (.slice none 0 0) 1 Tryz.underlying73 hi hz0 hz1 .i64 .i64 _ _ n rfl rfl rfl rfl (by rw [hz2];omega) (by unfold maxLen;omega) (Nat.le_refl _) ?_;intro w1 hown1 hgrow1;(have hb1:=grown_below hgrow1);(have HO1:=hid hown1);(have c11:w1.cell? ⟨V,1,none⟩=some (.slice (some ⟨B,0,none⟩) n bc):=(hb1.cell hVl).trans c1);clear hown1 hgrow1)|fail)
 have HM0:=hid (show Imgs w1 w.heap.size w.heap.size n 0 (fun i=>imageOf n i (rss i) X) (fun _=>undef) from by
  obtain ⟨tl,h1,h2,h3,_⟩:=owns_split HO1.out
  exact ⟨⟨_,h1,by rw [Nat.mul_one] at h3;simpa using h3,fun j hj=>by omega⟩,fun j hj=>by omega⟩)
 clear HO1
 go_loopw [17] (fun u wr=>∃(i:Nat) (us:Nat→Value),u=.int .i64 i∧i≤n∧Imgs wr w.heap.size w.heap.size n i (fun i=>imageOf n i (rss i) X) us∧Below w.heap.size w wr) (fun u _=>n-(intOf u).toNat)
 case atStart=>exact ⟨0,_,rfl,Nat.zero_le _,HM0.out,hb1⟩
 case round =>
  obtain ⟨i,us,rfl,hin,him,hbr⟩:=hrel
  have HIM:=hid him
  clear him
  by_cases hlt:i<n
  ·have hlt':(i:Int)<(n:Int):=by omega
   have k1:wr.cell? ⟨B,i,none⟩=some (.pointer (some ⟨sp i,0,none⟩)):=by
    have:=(HVA.out.keeps hbr (Nat.le_refl _)).st i hlt
    rwa [Nat.zero_add] at this
   obtain ⟨Z,hZ⟩:∃Z,Z=imageOf n i (rss i) X:=⟨_,rfl⟩
   obtain ⟨P,hP,hPs,hPj⟩:=HIM.out.row
   have hPi:i<P.size:=by omega
   have hGlt:w.heap.size<wr.heap.size:=cells_lt hP
   have HP:=hid hP
   have HPJ:=hid hPj
   have HZ:=hid hZ
   have hsp0:∀w',Spared (fun b=>∃q,q=12∧b=w.heap.size) { wr with drawn:=wr.drawn+1 } w'→Below w.heap.size w w':=fun w' hs=>hbr.drew.trans (hs.below w.heap.size (by show w.heap.size≤wr.heap.size;omega) (fun b ⟨_,_,e⟩=>Nat.le_of_eq e.symm))
   have HREC:=hid (show ∀w',Spared (fun b=>∃q,q=12∧b=w.heap.size) { wr with drawn:=wr.drawn+1 } w'→Calls Tryz.prog 50 #[.pointer (some ⟨sp i,0,none⟩)] w' fun e w''=>∃v,e=.returned v∧w''.ownsRow w'.heap.size 127 8 v (rss i).length (recs (rss i))∧Below w'.heap.size w' w'' from fun w' hs=>srecords_any (sp i) (dn i) (vs i) (rss i) w' ((HST.out i hlt).keeps (Spared.ofBelow (own:=fun _=>False) (hsp0 w' hs) (Nat.le_refl _)) (fun h=>h) (fun _ _ h=>h)))
   have HMADE:=hid (show ∀w' ra rc,Spared (fun b=>∃q,q=12∧b=w.heap.size) { wr with drawn:=wr.drawn+1 } w'→Rd w' ra (recs (rss i))→Calls Tryz.prog 49 #[.slice ra (rss i).length rc,.int .i64 n,.int .i64 i] w' fun e w''=>∃v,e=.returned v∧w''.ownsRow w'.heap.size 5 1 v Z.length (bs Z)∧Below w'.heap.size w' w'' from fun w' ra rc hs hr=>by
    rw [hZ]
    have hgood:∀r∈rss i,RecGood w' base n X r:=fun r hr=>(HOK.out i hlt r hr).keeps (Spared.ofBelow (own:=fun _=>False) (hsp0 w' hs) (Nat.le_refl _)) (fun _ _ h=>h) (fun _ _=>rfl)
    exact imade_any ra (rss i).length rc n i (rss i) _ _ w' rfl (HST.out i hlt).le hlt hr (fun k hk=>(hgood _ (by rw [getElem!_pos (rss i) k hk];exact List.getElem_mem _)).tell i) (fun k hk=>by have h1:=imgOf_len hgood i k hk;have h2:=(HST.out i hlt).le;omega))
   have HV1:∀w',Spared (fun b=>∃q,q=12∧b=w.heap.size) { wr with drawn:=wr.drawn+1 } w'→w'.cell? ⟨V,1,none⟩=some (.slice (some ⟨B,0,none⟩) n bc):=fun w' hs=>((hsp0 w' hs).cell hVl).trans c1
   clear hZ hP hPj
   go_wp2_with fail
   have MK:∀(j:Nat) (a:Act) (w':World) (o:Oper),a.tmps.size=36→j<13→j≠12→StepOk Tryz.prog o a w' (fun u w''=>Spared (fun b=>j=12∧b=w.heap.size) w' w''∧viV wr.heap.size w.heap.size V n B bc (sp i) i (rss i) Z j u w'')→StepOk2 Tryz.prog o a w' (fun u w''=>Spared (fun b=>j=12∧b=w.heap.size) w' w''∧viA wr.heap.size w.heap.size V n B bc (sp i) i (rss i) Z P j (a.put (viSlot j) u) w''):=by
    intro j a w' o hsz hj h12 hh
    refine .inl <| hh.weaken fun u w'' hp=>⟨hp.1,?_,fun e=>absurd e h12⟩
    have e:viSlot j=some (j+22):=by unfold viSlot;rw [if_neg h12]
    rw [e,put_eq _ _ _ (by omega)]
    exact hp.2
   refine wp_region_own2 (by kernel_rfl) viSlot (viA wr.heap.size w.heap.size V n B bc (sp i) i (rss i) Z P) (fun j w'=>j=12→w'.heap[w.heap.size]?=some (.cells P 44)) (fun j b=>j=12∧b=w.heap.size) [(0,.pointer (some ⟨V,0,none⟩)),(1,undef),(2,.slice none 0 0),(3,.slice (some ⟨w.heap.size,0,none⟩) n n),(4,.int .i64 i),(5,.pointer (some ⟨sp i,0,none⟩)),(6,.pointer (some ⟨V,0,none⟩)),(7,.pointer (some ⟨V,0,none⟩)),(8,.pointer (some ⟨V,1,none⟩)),(9,.slice (some ⟨B,0,none⟩) n bc),(10,.int .i64 n),(11,.slice (some ⟨w.heap.size,0,none⟩) n n),(12,.pointer (some ⟨V,0,none⟩)),(13,.pointer (some ⟨V,0,none⟩)),(14,.pointer (some ⟨V,1,none⟩)),(15,.slice (some ⟨B,0,none⟩) n bc),(16,.int .i64 n),(17,.int .i64 i),(35,undef)] 36 (fun j=>if j=0 then [3] else if j=1∨j=9 then [4] else if j=2 then [5] else if j=4 then [0] else []) (by kernel_rfl) rfl rfl ?_ ?_ ?_ ?_ ?_ ?_
   ·simp
   ·exact fun _ _ _=>HP.out
   ·intro q j ac u w3 w4 hj hij hwt _ hr hs hsl
    have e:∀k,k≠q∨q=12→((ac.put (viSlot q) u).tmps.getD (k+22) undef)=ac.tmps.getD (k+22) undef:=fun k hk=>by
     unfold viSlot
     split
     ·rfl
     ·rename_i h12
      exact put_ne _ _ _ _ (by rcases hk with h | h<;>omega)
    refine ⟨?_,fun h12=>?_⟩
    ·rw [e j (.inl (Ne.symm hij))]
     exact viV_keeps _ _ _ _ _ _ _ _ _ _ hGlt q j _ w3 w4 hr.1 hs
    ·subst h12
     have hq10:q≠10:=by
      rintro rfl
      exact absurd (Eq.trans (show true=_ by kernel_rfl) hwt) (by decide)
     rw [show (32:Nat)=10+22 from rfl,e 10 (.inl (Ne.symm hq10))]
     exact hs.heap (hr.2 rfl) (fun ⟨h,_⟩=>hij h)
   ·intro q j w3 w4 hij _ _ hu hs hj12
    exact hs.heap (hu hj12) (fun ⟨h,_⟩=>hij (h.trans hj12.symm))
   ·refine ⟨?_,?_,?_,?_,?_,?_,?_,?_,?_,?_,?_,?_,?_,trivial⟩
    ·intro ac w' hsz hs hf hd2 hu
     have hd:=fun e he hb=>(hd2 e he hb).1.1
     refine MK 0 ac w' _ hsz (by decide) (by decide) ?_
     clear hsz
     have f3:ac.tmps[3]?.getD undef=.slice (some ⟨w.heap.size,0,none⟩) n n:=by simpa using hf (3,.slice (some ⟨w.heap.size,0,none⟩) n n) (by simp) rfl
     simp [viV,Region.binds] at hd
     exact .inl ⟨.slice (some ⟨w.heap.size,0,none⟩) n n,w',by go_simp,Spared.refl _ _,rfl⟩
    ·intro ac w' hsz hs hf hd2 hu
     have hd:=fun e he hb=>(hd2 e he hb).1.1
     refine MK 1 ac w' _ hsz (by decide) (by decide) ?_
     clear hsz
     have f4:ac.tmps[4]?.getD undef=.int .i64 i:=by simpa using hf (4,.int .i64 i) (by simp) rfl
     simp [viV,Region.binds] at hd
     exact .inl ⟨.int .i64 i,w',by go_simp,Spared.refl _ _,rfl⟩
    ·intro ac w' hsz hs hf hd2 hu
     have hd:=fun e he hb=>(hd2 e he hb).1.1
     refine MK 2 ac w' _ hsz (by decide) (by decide) ?_
     clear hsz
     have f5:ac.tmps[5]?.getD undef=.pointer (some ⟨sp i,0,none⟩):=by simpa using hf (5,.pointer (some ⟨sp i,0,none⟩)) (by simp) rfl
     simp [viV,Region.binds] at hd
     exact .inl ⟨.pointer (some ⟨sp i,0,none⟩),w',by go_simp,Spared.refl _ _,rfl⟩
    ·intro ac w' hsz hs hf hd2 hu
     have hd:=fun e he hb=>(hd2 e he hb).1.1
     refine MK 3 ac w' _ hsz (by decide) (by decide) ?_
     clear hsz
     simp [viV,Region.binds] at hd
     refine .inr ⟨50,#[.pointer (some ⟨sp i,0,none⟩)],by go_simp,(HREC.out w' hs).mono ?_⟩
     rintro e w'' ⟨v,rfl,hown,hb⟩
     exact ⟨_,rfl,Spared.ofBelow hb (Nat.le_refl _),World.ownsRow.mono hown (by have:=hs.size;simpa using this)⟩
    ·intro ac w' hsz hs hf hd2 hu
     have hd:=fun e he hb=>(hd2 e he hb).1.1
     refine MK 4 ac w' _ hsz (by decide) (by decide) ?_
     clear hsz
     have f0:ac.tmps[0]?.getD undef=.pointer (some ⟨V,0,none⟩):=by simpa using hf (0,.pointer (some ⟨V,0,none⟩)) (by simp) rfl
     simp [viV,Region.binds] at hd
     exact .inl ⟨.pointer (some ⟨V,0,none⟩),w',by go_simp,Spared.refl _ _,rfl⟩
    ·intro ac w' hsz hs hf hd2 hu
     have hd:=fun e he hb=>(hd2 e he hb).1.1
     refine MK 5 ac w' _ hsz (by decide) (by decide) ?_
     clear hsz
     simp [viV,Region.binds] at hd
     exact .inl ⟨.pointer (some ⟨V,0,none⟩),w',by go_simp,Spared.refl _ _,rfl⟩
    ·intro ac w' hsz hs hf hd2 hu
     have hd:=fun e he hb=>(hd2 e he hb).1.1
     refine MK 6 ac w' _ hsz (by decide) (by decide) ?_
     clear hsz
     simp [viV,Region.binds] at hd
     exact .inl ⟨.pointer (some ⟨V,1,none⟩),w',by go_simp,Spared.refl _ _,rfl⟩
    ·intro ac w' hsz hs hf hd2 hu
     have hd:=fun e he hb=>(hd2 e he hb).1.1
     refine MK 7 ac w' _ hsz (by decide) (by decide) ?_
     clear hsz
     have q1:=HV1 w' hs
     simp [viV,Region.binds] at hd
     exact .inl ⟨.slice (some ⟨B,0,none⟩) n bc,w',by go_simp,Spared.refl _ _,rfl⟩
    ·intro ac w' hsz hs hf hd2 hu
     have hd:=fun e he hb=>(hd2 e he hb).1.1
     refine MK 8 ac w' _ hsz (by decide) (by decide) ?_
     clear hsz
     simp [viV,Region.binds] at hd
     exact .inl ⟨.int .i64 n,w',by go_simp,Spared.refl _ _,rfl⟩
    ·intro ac w' hsz hs hf hd2 hu
     have hd:=fun e he hb=>(hd2 e he hb).1.1
     refine MK 9 ac w' _ hsz (by decide) (by decide) ?_
     clear hsz
     have f4:ac.tmps[4]?.getD undef=.int .i64 i:=by simpa using hf (4,.int .i64 i) (by simp) rfl
     simp [viV,Region.binds] at hd
     exact .inl ⟨.int .i64 i,w',by go_simp,Spared.refl _ _,rfl⟩
    ·intro ac w' hsz hs hf hd2 hu
     refine MK 10 ac w' _ hsz (by decide) (by decide) ?_
     clear hsz
     have h3:=(hd2 ⟨3,.data⟩ (by simp) rfl).1.1
     have h8:=(hd2 ⟨8,.data⟩ (by simp) rfl).1.1
     have h9:=(hd2 ⟨9,.data⟩ (by simp) rfl).1.1
     obtain ⟨ra,rc,hrv,hrr⟩:=owns_rd_size h3
     have hrv':ac.tmps.getD 25 undef=.slice ra (rss i).length rc:=hrv
     have h8':ac.tmps.getD 30 undef=.int .i64 n:=h8
     have h9':ac.tmps.getD 31 undef=.int .i64 i:=h9
     simp at hrv' h8' h9'
     refine .inr ⟨49,#[.slice ra (rss i).length rc,.int .i64 n,.int .i64 i],by go_simp,(HMADE.out w' ra rc hs hrr).mono ?_⟩
     rintro e w'' ⟨v,rfl,hown,hb⟩
     exact ⟨_,rfl,Spared.ofBelow hb (Nat.le_refl _),World.ownsRow.mono hown (by have:=hs.size;simpa using this)⟩
    ·intro ac w' hsz hs hf hd2 hu
     have hd:=fun e he hb=>(hd2 e he hb).1.1
     refine MK 11 ac w' _ hsz (by decide) (by decide) ?_
     clear hsz
     simp [viV,Region.binds] at hd
     exact .inl ⟨.pointer (some ⟨w.heap.size,i,none⟩),w',by go_simp,Spared.refl _ _,rfl⟩
    ·intro ac w' hsz hs hf hd2 hu
     have h10:=(hd2 ⟨10,.data⟩ (by simp) rfl).1.1
     have h11:=(hd2 ⟨11,.data⟩ (by simp) rfl).1.1
     obtain ⟨va,vc,hvv,_⟩:=owns_rd_size h10
     have hvv':ac.tmps.getD 32 undef=.slice va Z.length vc:=hvv
     have h11':ac.tmps.getD 33 undef=.pointer (some ⟨w.heap.size,i,none⟩):=h11
     have hG:=hu rfl
     have cG:w'.cell? ⟨w.heap.size,i,none⟩=some P[i]:=by rw [cells_at hG];simp [hPi]
     have fG:w'.frozen? ⟨w.heap.size,i,none⟩=false:=cells_fz hG
     have hset:=cells_set (k:=i) (.slice va Z.length vc) hG
     have hsp':Spared (fun b=>(12:Nat)=12∧b=w.heap.size) w' (w'.setCell ⟨w.heap.size,i,none⟩ (.slice va Z.length vc)):=(Spared.refl (fun b=>(12:Nat)=12∧b=w.heap.size) w').setCell (p:=⟨w.heap.size,i,none⟩) ⟨rfl,rfl⟩ _
     clear hsz hG
     simp at hvv' h11'
     refine .inr ⟨w'.setCell ⟨w.heap.size,i,none⟩ (.slice va Z.length vc),by go_simp,hsp',trivial,fun _=>?_⟩
     have e:(ac.put none undef).tmps.getD 32 undef=.slice va Z.length vc:=by simpa [Act.put] using hvv'
     rw [show viSlot 12=none from rfl,e]
     exact hset
   ·intro a2 w5 hdf hsz hs5 hf hr
    obtain ⟨tm2,df2⟩:=a2
    simp only at hdf hsz hf hr
    subst hdf
    have h10:=(hr 10 (by decide)).1
    have h12:=(hr 12 (by decide)).2 rfl
    obtain ⟨f,hfk,rfl⟩:=arrF36 tm2 hsz
    have e0:f 0=.pointer (some ⟨V,0,none⟩):=(hfk 0).symm.trans (hf (0,.pointer (some ⟨V,0,none⟩)) (by simp) (show ∀k,k<13→viSlot k≠some 0 by decide))
    have e1:f 1=undef:=(hfk 1).symm.trans (hf (1,undef) (by simp) (show ∀k,k<13→viSlot k≠some 1 by decide))
    have e2:f 2=.slice none 0 0:=(hfk 2).symm.trans (hf (2,.slice none 0 0) (by simp) (show ∀k,k<13→viSlot k≠some 2 by decide))
    have e3:f 3=.slice (some ⟨w.heap.size,0,none⟩) n n:=(hfk 3).symm.trans (hf (3,.slice (some ⟨w.heap.size,0,none⟩) n n) (by simp) (show ∀k,k<13→viSlot k≠some 3 by decide))
    have e4:f 4=.int .i64 i:=(hfk 4).symm.trans (hf (4,.int .i64 i) (by simp) (show ∀k,k<13→viSlot k≠some 4 by decide))
    have e5:f 5=.pointer (some ⟨sp i,0,none⟩):=(hfk 5).symm.trans (hf (5,.pointer (some ⟨sp i,0,none⟩)) (by simp) (show ∀k,k<13→viSlot k≠some 5 by decide))
    have e6:f 6=.pointer (some ⟨V,0,none⟩):=(hfk 6).symm.trans (hf (6,.pointer (some ⟨V,0,none⟩)) (by simp) (show ∀k,k<13→viSlot k≠some 6 by decide))
    have e7:f 7=.pointer (some ⟨V,0,none⟩):=(hfk 7).symm.trans (hf (7,.pointer (some ⟨V,0,none⟩)) (by simp) (show ∀k,k<13→viSlot k≠some 7 by decide))
    have e8:f 8=.pointer (some ⟨V,1,none⟩):=(hfk 8).symm.trans (hf (8,.pointer (some ⟨V,1,none⟩)) (by simp) (show ∀k,k<13→viSlot k≠some 8 by decide))
    have e9:f 9=.slice (some ⟨B,0,none⟩) n bc:=(hfk 9).symm.trans (hf (9,.slice (some ⟨B,0,none⟩) n bc) (by simp) (show ∀k,k<13→viSlot k≠some 9 by decide))
    have e10:f 10=.int .i64 n:=(hfk 10).symm.trans (hf (10,.int .i64 n) (by simp) (show ∀k,k<13→viSlot k≠some 10 by decide))
    have e11:f 11=.slice (some ⟨w.heap.size,0,none⟩) n n:=(hfk 11).symm.trans (hf (11,.slice (some ⟨w.heap.size,0,none⟩) n n) (by simp) (show ∀k,k<13→viSlot k≠some 11 by decide))
    have e12:f 12=.pointer (some ⟨V,0,none⟩):=(hfk 12).symm.trans (hf (12,.pointer (some ⟨V,0,none⟩)) (by simp) (show ∀k,k<13→viSlot k≠some 12 by decide))
    have e13:f 13=.pointer (some ⟨V,0,none⟩):=(hfk 13).symm.trans (hf (13,.pointer (some ⟨V,0,none⟩)) (by simp) (show ∀k,k<13→viSlot k≠some 13 by decide))
    have e14:f 14=.pointer (some ⟨V,1,none⟩):=(hfk 14).symm.trans (hf (14,.pointer (some ⟨V,1,none⟩)) (by simp) (show ∀k,k<13→viSlot k≠some 14 by decide))
    have e15:f 15=.slice (some ⟨B,0,none⟩) n bc:=(hfk 15).symm.trans (hf (15,.slice (some ⟨B,0,none⟩) n bc) (by simp) (show ∀k,k<13→viSlot k≠some 15 by decide))
    have e16:f 16=.int .i64 n:=(hfk 16).symm.trans (hf (16,.int .i64 n) (by simp) (show ∀k,k<13→viSlot k≠some 16 by decide))
    have e17:f 17=.int .i64 i:=(hfk 17).symm.trans (hf (17,.int .i64 i) (by simp) (show ∀k,k<13→viSlot k≠some 17 by decide))
    have e35:f 35=undef:=(hfk 35).symm.trans (hf (35,undef) (by simp) (show ∀k,k<13→viSlot k≠some 35 by decide))
    rw [show (10:Nat)+22=32 from rfl,hfk 32] at h10
    rw [hfk 32] at h12
    have h10':w5.ownsRow wr.heap.size 5 1 (f 32) Z.length (bs Z):=h10
    simp only [e0,e1,e2,e3,e4,e5,e6,e7,e8,e9,e10,e11,e12,e13,e14,e15,e16,e17,e35]
    have hspG:Spared (fun b=>b=w.heap.size) wr w5:=((Spared.refl (fun b=>b=w.heap.size) wr).drew).trans (hs5.mono fun b ⟨_,_,e⟩=>e)
    have HB5:=hid (hbr.trans (hspG.below w.heap.size hbr.size (fun b e=>Nat.le_of_eq e.symm)))
    have HI5:=hid (show Imgs w5 w.heap.size w.heap.size n (i+1) (fun i=>imageOf n i (rss i) X) (fun j=>if j=i then f 32 else us j) from by
     refine ⟨⟨_,h12,by simpa using hPs,fun j hj=>?_⟩,fun j hj=>?_⟩
     ·by_cases e:j=i
      ·subst e
       simp only [if_true]
       rw [Array.getElem?_setIfInBounds_self_of_lt hPi]
      ·simp only [e,if_false]
       rw [Array.getElem?_setIfInBounds_ne (Ne.symm e)]
       exact HPJ.out j (by omega)
     ·by_cases e:j=i
      ·subst e
       simp only [if_true]
       rw [←HZ.out]
       exact World.ownsRow.mono h10' (by omega)
      ·simp only [e,if_false]
       refine owns_spared (HIM.out.own j (by omega)) hspG (fun b hb e2=>?_)
       subst e2
       exact row_ne (HIM.out.own j (by omega)) HP.out (by decide) hb)
    clear hr hsz hf hfk h10 h10' h12 hspG hs5 MK HV1 hsp0 e0 e1 e2 e3 e4 e5 e6 e7 e8 e9 e10 e11 e12 e13 e14 e15 e16 e17 e35
    go_wp2_with fail
    go_roundw
    case rel=>exact ⟨i+1,_,by go_num,hlt,HI5.out,HB5.out⟩
    case measure=>simp [intOf];omega
  ·have hii:i=n:=by omega
   subst hii
   go_wp2_with fail
   go_ret
   exact ⟨_,rfl,HIM.out.rows,hbr⟩
def imagesOf (L:Seat) (s:Sta):List (List UInt8):=(List.range L.n).map fun i=>imageOf L.n i (s.rss i) s.X
set_option maxRecDepth 100000 in
set_option maxHeartbeats 1000000 in
theorem Bank.images_go {w:World} {L:Seat} {s:Sta} (h:Bank w L s) :
  Calls Tryz.prog 9 #[.pointer (some ⟨L.C,0,none⟩)] w fun e w'=>∃g,e=.returned (.slice (some ⟨g,0,none⟩) L.n L.n)∧w'.ownsRow w.heap.size 9 1 (.slice (some ⟨g,0,none⟩) L.n L.n) L.n (strs (imagesOf L s))∧Below w.heap.size w w':=by
 have hn8:=h.n8
 have HV:=hid (vimages_any L.V L.key L.n L.B L.bc L.sp s.dn s.vs s.rss s.X L.base w (Vt.va h.vp) h.n1 h.n8 h.st h.ok)
 have c0:w.cell? ⟨L.C,0,none⟩=some (.pointer (some ⟨L.V,0,none⟩)):=by rw [cells_at h.cf];rfl
 have hil:(imagesOf L s).length=L.n:=by simp [imagesOf]
 obtain ⟨n,hn⟩:∃n,n=L.n:=⟨_,rfl⟩
 obtain ⟨C,hC⟩:∃C,C=L.C:=⟨_,rfl⟩
 obtain ⟨V,hV⟩:∃V,V=L.V:=⟨_,rfl⟩
 have HX:=hid (fun g w' (hr:RdRows w' (some ⟨g,0,none⟩) (imagesOf L s))=>texts_any (some ⟨g,0,none⟩) L.n L.n (imagesOf L s) w' hr hil hn8)
 unfold imagesOf at HX ⊢
 rw [←hn] at HV HX ⊢
 rw [←hC] at c0 ⊢
 rw [←hV] at HV c0
 generalize ((List.range n).map fun i=>imageOf n i (s.rss i) s.X)=rows at *
 clear h hn hC hV hil hn8
 go_enter Tryz.func9,Tryz.ntmps9
 go_wp2_with fail
 refine HV.out.mono ?_
 rintro e w1 ⟨g,rfl,hrows,hb1⟩
 have HR:=hid hrows
 clear hrows
 go_wp2_with (go_at_call 33;refine (HX.out g _ HR.out).mono ?_;rintro e w2 ⟨g2,rfl,hown,hb2⟩;(have HO:=hid hown);clear hown)
 go_ret
 exact ⟨g2,rfl,World.ownsRow.mono HO.out hb1.size,hb1.trans (hb2.mono hb1.size)⟩
end Go.Proofs.YtcegdgmbponapabGreatDoor
namespace Go.Proofs.YtcegdgmbponapabGreatDoor
open Go.RowKit
theorem ext_list (s:ByteArray) (a b:Nat):(s.extract a b).data.toList=(s.data.toList.drop a).take (b-a):=by
 rw [ByteArray.data_extract,Array.toList_extract,List.extract_eq_take_drop]
theorem ba_len (s:ByteArray):s.data.toList.length=s.size:=by simp
structure Tells (n:Nat) (r:RecV) (x y:List UInt8):Prop where
 plan:IsPlan r.mode r.t r.l n
 z:r.size≤60
 e:r.epoch≤100
 m1:r.mode=1→r.epoch=0∧r.na=none
 e1:r.na≠none→r.epoch<100
 n1:1≤r.name.size
 n12:r.name.size≤12
 x1:x.length=10+r.name.size+Cof.ngroups r.mode r.t r.l r.size+8
 y0:r.na=none→y=[]
 y1:r.na≠none→y.length=x.length
theorem RecGood.tells {w:World} {base n:Nat} {X:Nat→List UInt8} {r:RecV} (h:RecGood w base n X r):Tells n r (r.x X) (r.z X):=by
 refine ⟨h.plan,h.z,h.e,fun hm=>⟨h.m1 hm,?_⟩,fun hna=>?_,h.n1,h.n12,by rw [h.own.len];exact h.sn,fun hna=>?_,fun hna=>?_⟩
 ·rcases h.nx with ⟨h1,_⟩|⟨_,h2,_⟩
  ·exact h1
  ·omega
 ·rcases h.nx with ⟨h1,_⟩|⟨_,_,h3,_⟩
  ·exact absurd h1 hna
  ·exact h3
 ·unfold RecV.z;rw [if_pos hna]
 ·unfold RecV.z
  rw [if_neg hna]
  rcases h.nx with ⟨h1,_⟩|⟨_,_,_,h4,h5,_⟩
  ·exact absurd h1 hna
  ·rw [h5.len,h4,h.own.len]
theorem head_list (mode t l n s epoch size:Nat) (name:List UInt8):Cof.head mode t l n s epoch size name=UInt8.ofNat mode :: UInt8.ofNat t :: UInt8.ofNat l :: UInt8.ofNat n :: UInt8.ofNat s :: UInt8.ofNat (epoch / 256) :: UInt8.ofNat epoch :: UInt8.ofNat (size / 256) :: UInt8.ofNat size :: UInt8.ofNat name.length :: name:=by
 simp [Cof.head,Cof.high,List.range_succ]
theorem b8 {k:Nat} (h:k<256):(UInt8.ofNat k).toNat=k:=by rw [UInt8.toNat_ofNat'];omega
theorem b16 {k:Nat} (h:k<65536):(UInt8.ofNat (k / 256)).toNat*256+(UInt8.ofNat k).toNat=k:=by rw [UInt8.toNat_ofNat',UInt8.toNat_ofNat'];omega
set_option maxHeartbeats 1000000 in
theorem img_read {n i:Nat} {r:RecV} {x y rest:List UInt8} {T:ByteArray} (h:Tells n r x y) (hi:i<n) (hn8:n≤8) (hT:T.data.toList=imgRec n i r x y++rest) :
  ReadOk n i T∧ctOf T=⟨r.ob,x,if r.na=none then none else some y⟩∧(restOf T).data.toList=rest∧obOf T=r.ob:=by
 have hng:=ngroups_le h.plan r.size h.z
 have hm:r.mode<2∧r.t≤8∧r.l≤8:=by
  obtain ⟨_,_,_,_,_,h6⟩:=h.plan
  omega
 have hn12:=h.n12
 have hz:=h.z
 have he:=h.e
 have hL:T.data.toList=UInt8.ofNat r.count :: UInt8.ofNat r.mode :: UInt8.ofNat r.t :: UInt8.ofNat r.l :: UInt8.ofNat n :: UInt8.ofNat i :: UInt8.ofNat (r.epoch / 256) :: UInt8.ofNat r.epoch :: UInt8.ofNat (r.size / 256) :: UInt8.ofNat r.size :: UInt8.ofNat r.name.size :: (r.name.data.toList++(x++(y++rest))):=by
  rw [hT,imgRec,head_list]
  simp
 have hcnt:r.count<256:=by unfold RecV.count;split<;>omega
 have hTs:T.size=11+r.name.size+x.length+y.length+rest.length:=by
  have:=congrArg List.length hL
  rw [ba_len] at this
  rw [this]
  simp
  omega
 have hS:(hdOf T).s.data.toList=UInt8.ofNat r.mode :: UInt8.ofNat r.t :: UInt8.ofNat r.l :: UInt8.ofNat n :: UInt8.ofNat i :: UInt8.ofNat (r.epoch / 256) :: UInt8.ofNat r.epoch :: UInt8.ofNat (r.size / 256) :: UInt8.ofNat r.size :: UInt8.ofNat r.name.size :: (r.name.data.toList++(x++(y++rest))):=by
  show (T.extract 1 T.size).data.toList=_
  rw [ext_list,hL,List.drop_one,List.tail_cons,List.take_of_length_le]
  simp
  omega
 have hSs:(hdOf T).s.size=10+r.name.size+x.length+y.length+rest.length:=by
  have:=congrArg List.length hS
  rw [ba_len] at this
  rw [this]
  simp
  omega
 have hS':(T.extract 1 T.size).data.toList=_:=hS
 have eq:(hdOf T).q=r.name.size:=by
  show ((T.extract 1 T.size).data.toList.getD 9 0).toNat=_
  rw [hS']
  exact b8 (by omega)
 have em:(hdOf T).m=r.mode:=by
  show ((T.extract 1 T.size).data.toList.getD 0 0).toNat=_
  rw [hS']
  exact b8 (by omega)
 have et:(hdOf T).t=r.t:=by
  show ((T.extract 1 T.size).data.toList.getD 1 0).toNat=_
  rw [hS']
  exact b8 (by omega)
 have el:(hdOf T).l=r.l:=by
  show ((T.extract 1 T.size).data.toList.getD 2 0).toNat=_
  rw [hS']
  exact b8 (by omega)
 have ez:(hdOf T).sz=r.size:=by
  show ((T.extract 1 T.size).data.toList.getD 7 0).toNat*256+((T.extract 1 T.size).data.toList.getD 8 0).toNat=_
  rw [hS']
  exact b16 (by omega)
 have ee:(hdOf T).ep=r.epoch:=by
  show ((T.extract 1 T.size).data.toList.getD 5 0).toNat*256+((T.extract 1 T.size).data.toList.getD 6 0).toNat=_
  rw [hS']
  exact b16 (by omega)
 have es:(hdOf T).st=n:=by
  show ((T.extract 1 T.size).data.toList.getD 3 0).toNat=_
  rw [hS']
  exact b8 (by omega)
 have eo:(hdOf T).no=i:=by
  show ((T.extract 1 T.size).data.toList.getD 4 0).toNat=_
  rw [hS']
  exact b8 (by omega)
 have ec:ctN T=r.count:=by
  unfold ctN
  rw [hL]
  exact b8 hcnt
 have hB:(behindOf T).data.toList=x++(y++rest):=by
  unfold behindOf
  rw [ext_list,hS,eq,hSs,List.take_of_length_le (by simp;omega),show 10+r.name.size=r.name.size+10 by omega]
  simp only [List.drop_succ_cons]
  rw [List.drop_append,List.drop_of_length_le (by simp)]
  simp
 have hBs:(behindOf T).size=x.length+y.length+rest.length:=by
  have:=congrArg List.length hB
  rw [ba_len] at this
  rw [this]
  simp
  omega
 have hln:lenOf T=x.length:=by
  unfold lenOf
  rw [eq,em,et,el,ez,h.x1]
 have hob:obOf T=r.ob:=by
  have e:(hdOf T).s.extract 10 (10+(hdOf T).q)=r.name:=by
   apply ba_ext
   rw [ext_list,hS,eq]
   simp
  unfold obOf RecV.ob
  rw [e,em,et,el,ez,ee]
 have hcy:r.count*x.length=x.length+y.length:=by
  unfold RecV.count
  by_cases hna:r.na=none
  ·rw [if_pos hna,h.y0 hna];simp
  ·rw [if_neg hna,h.y1 hna];omega
 refine ⟨⟨by omega,by omega,es,eo,?_,by rw [eq];exact h.n1,by omega,by rw [em,et,el];exact h.plan,by omega,by rw [ec,hln,hcy];omega⟩,?_,?_,hob⟩
 ·rw [em,ee,ec]
  unfold EpochsOk RecV.count
  by_cases hna:r.na=none
  ·rw [if_pos hna]
   refine ⟨.inl rfl,by omega,fun h0 hm1=>?_⟩
   have:=(h.m1 hm1).1
   omega
  ·rw [if_neg hna]
   have:=h.e1 hna
   exact ⟨.inr rfl,by omega,fun h0 hm1=>absurd (h.m1 hm1).2 hna⟩
 ·unfold ctOf
  rw [hob,hln,ec]
  have e1:((behindOf T).extract 0 x.length).data.toList=x:=by
   rw [ext_list,hB];simp
  rw [e1]
  unfold RecV.count
  by_cases hna:r.na=none
  ·rw [if_pos hna,if_neg (by decide),if_pos hna]
  ·have e2:((behindOf T).extract x.length (2*x.length)).data.toList=y:=by
    rw [ext_list,hB,List.drop_left,show 2*x.length-x.length=y.length by rw [h.y1 hna];omega,List.take_left]
   rw [if_neg hna,if_pos rfl,if_neg hna,e2]
 ·unfold restOf
  rw [ec,hln,hcy,ext_list,hB,hBs,←List.append_assoc,←List.length_append,List.drop_left,List.take_of_length_le]
  simp
def imgFrom (n i:Nat) (X:Nat→List UInt8):List RecV→List UInt8
 | []=>[]
 | r :: rs=>imgRec n i r (r.x X) (r.z X)++imgFrom n i X rs
theorem imgFrom_append (n i:Nat) (X:Nat→List UInt8) (a b:List RecV):imgFrom n i X (a++b)=imgFrom n i X a++imgFrom n i X b:=by
 induction a with
 | nil=>rfl
 | cons r a ih=>simp [imgFrom,ih]
theorem imageOf_from (n i:Nat) (X:Nat→List UInt8) (rs:List RecV):imageOf n i rs X=imgFrom n i X rs:=by
 have key:∀k,k≤rs.length→imgOf n i rs (fun k=>(rs[k]!).x X) (fun k=>(rs[k]!).z X) k=imgFrom n i X (rs.take k):=by
  intro k
  induction k with
  | zero=>intro _;rfl
  | succ k ih =>
   intro hk
   have hk':k<rs.length:=by omega
   rw [imgOf,ih (by omega),List.take_succ_eq_append_getElem hk',imgFrom_append]
   simp [imgFrom,hk']
 unfold imageOf
 rw [key _ (Nat.le_refl _),List.take_length]
theorem parses_from {n i:Nat} (hi:i<n) (hn8:n≤8) (X:Nat→List UInt8):∀(rs:List RecV) (k:Nat) (last:ByteArray) (T:ByteArray),(∀r∈rs,Tells n r (r.x X) (r.z X))→rs.Pairwise (fun a b=>cmpB a.name b.name<0)→(∀r∈rs,cmpB last r.name<0)→rs.length≤k→T.data.toList=imgFrom n i X rs→Parses n i k T last (rs.map (RecV.ct X))
 | [],k,last,T,_,_,_,_,hT=>parses_end (by rw [←ba_len,hT];rfl)
 | r :: rs,0,last,T,_,_,_,hk,_=>by simp at hk
 | r :: rs,k+1,last,T,ht,hp,hl,hk,hT=>by
  have htr:=ht r (List.mem_cons_self ..)
  obtain ⟨h1,h2,h3,h4⟩:=img_read htr hi hn8 hT
  have hp':=List.pairwise_cons.1 hp
  have hsz:1≤T.size:=by
   rw [←ba_len,hT]
   simp [imgFrom,imgRec]
  refine .inr ⟨hsz,h1,by rw [h4];exact hl r (List.mem_cons_self ..),rs.map (RecV.ct X),?_,?_⟩
  ·rw [List.map_cons,h2]
   unfold RecV.ct RecV.z
   by_cases hna:r.na=none
   ·rw [if_pos hna,if_pos hna]
   ·rw [if_neg hna,if_neg hna,if_neg hna]
  ·rw [h4]
   exact parses_from hi hn8 X rs k r.name (restOf T) (fun q hq=>ht q (List.mem_cons_of_mem _ hq)) hp'.2 (fun q hq=>hp'.1 q hq) (by simpa using hk) h3
theorem parses_unique {n i:Nat}:∀(k:Nat) (T last:ByteArray) (L M:List Ct),Parses n i k T last L→Parses n i k T last M→L=M
 | 0,T,last,L,M,h,g=>by rw [h.2,g.2]
 | k+1,T,last,L,M,h,g=>by
  rcases h with ⟨a,b⟩|⟨a,_,_,L',b,c⟩
  ·rcases g with ⟨_,d⟩|⟨d,_⟩
   ·rw [b,d]
   ·omega
  ·rcases g with ⟨d,_⟩|⟨_,_,_,M',d,e⟩
   ·omega
   ·rw [b,d,parses_unique k _ _ _ _ c e]
theorem empty_behind {nm:ByteArray} (h:1≤nm.size):cmpB ⟨#[]⟩ nm<0:=by
 unfold cmpB
 cases hn:nm.data.toList with
 | nil=>have:=ba_len nm;rw [hn] at this;simp at this;omega
 | cons a b=>simp [Lib.compareBytes]
theorem Sorted.pairwise {rs:List RecV} (h:Sorted rs):rs.Pairwise (fun a b=>cmpB a.name b.name<0):=by
 rw [List.pairwise_iff_getElem]
 intro i j hi hj hij
 have:=h i j hij hj
 rwa [getElem!_pos rs i hi,getElem!_pos rs j hj] at this
theorem image_parses {w:World} {base n i:Nat} {X:Nat→List UInt8} {rs:List RecV} {T:ByteArray} (hi:i<n) (hn8:n≤8) (hg:∀r∈rs,RecGood w base n X r) (hs:Sorted rs) (hl:rs.length≤10) (hT:T.data.toList=imageOf n i rs X):Parses n i 10 T ⟨#[]⟩ (rs.map (RecV.ct X)) :=
 parses_from hi hn8 X rs 10 ⟨#[]⟩ T (fun r hr=>(hg r hr).tells) hs.pairwise (fun r hr=>empty_behind (hg r hr).n1) hl (by rw [hT,imageOf_from])
def Alike (X X':Nat→List UInt8) (rs rs':List RecV):Prop:=rs.map (RecV.ct X)=rs'.map (RecV.ct X')
section
variable {X X':Nat→List UInt8} {rs rs':List RecV} {r r':RecV}
theorem ct_parts (h:r.ct X=r'.ct X'):r.ob=r'.ob∧r.x X=r'.x X'∧(r.na=none↔r'.na=none)∧(r.na≠none→r.y X=r'.y X')∧r.late=r'.late∧r.name=r'.name:=by
 unfold RecV.ct at h
 injection h with h1 h2 h3
 have h4:r.na=none↔r'.na=none:=by
  by_cases e:r.na=none
  ·rw [if_pos e] at h3
   refine ⟨fun _=>?_,fun _=>e⟩
   by_cases e':r'.na=none
   ·exact e'
   ·rw [if_neg e'] at h3;cases h3
  ·rw [if_neg e] at h3
   refine ⟨fun h=>absurd h e,fun e'=>?_⟩
   rw [if_pos e'] at h3;cases h3
 refine ⟨h1,h2,h4,fun e=>?_,?_,congrArg Ob.name h1⟩
 ·rw [if_neg e,if_neg (fun e'=>e (h4.2 e'))] at h3
  exact Option.some.inj h3
 ·unfold RecV.late
  have e1:=congrArg Ob.name h1
  have e2:=congrArg Ob.mode h1
  have e3:=congrArg Ob.t h1
  have e4:=congrArg Ob.l h1
  have e5:=congrArg Ob.size h1
  have e6:=congrArg Ob.epoch h1
  simp only [RecV.ob] at e1 e2 e3 e4 e5 e6
  cases ha:r.na with
  | none =>
   rw [h4.1 ha]
   exact h1
  | some a =>
   have:r'.na≠none:=fun e=>by rw [h4.2 e] at ha;cases ha
   obtain ⟨a',ha'⟩:=Option.ne_none_iff_exists'.1 this
   rw [ha']
   simp only [Option.isSome_some,if_true]
   rw [e1,e2,e3,e4,e5,e6]
theorem Alike.len (h:Alike X X' rs rs'):rs.length=rs'.length:=by
 have:=congrArg List.length h
 simpa using this
theorem Alike.at (h:Alike X X' rs rs') (k:Nat) (hk:k<rs.length):(rs[k]!).ct X=(rs'[k]!).ct X':=by
 have hk':k<rs'.length:=by rw [←h.len];exact hk
 have:=congrArg (fun l=>l[k]?) h
 simpa [hk,hk',getElem!_pos rs k hk,getElem!_pos rs' k hk'] using this
theorem Alike.pos (h:Alike X X' rs rs') (nm:ByteArray):posOf rs nm=posOf rs' nm:=by
 have key:∀(Y:Nat→List UInt8) (l:List RecV),posOf l nm=(l.map (RecV.ct Y)).countP fun c=>decide (cmpB c.ob.name nm<0):=fun Y l=>by
  rw [List.countP_map]
  rfl
 rw [key X rs,key X' rs',h]
theorem Alike.has (h:Alike X X' rs rs') (nm:ByteArray):hasName rs nm=hasName rs' nm:=by
 unfold hasName
 rw [h.pos nm,h.len]
 by_cases hk:posOf rs' nm<rs'.length
 ·have:=(ct_parts (h.at (posOf rs' nm) (by rw [h.len];exact hk))).2.2.2.2.2
  rw [this]
 ·simp [hk]
theorem Alike.rec (h:Alike X X' rs rs') {nm:ByteArray} (hy:hasName rs nm=true):(recOf rs nm).ct X=(recOf rs' nm).ct X':=by
 unfold recOf
 rw [←h.pos nm]
 refine h.at _ ?_
 unfold hasName at hy
 simp only [Bool.and_eq_true,decide_eq_true_eq] at hy
 exact hy.1
theorem Alike.names (h:Alike X X' rs rs'):(rs.map fun r=>r.name.data.toList)=rs'.map fun r=>r.name.data.toList:=by
 have key:∀(Y:Nat→List UInt8) (l:List RecV),(l.map fun r=>r.name.data.toList)=(l.map (RecV.ct Y)).map fun c=>c.ob.name.data.toList:=fun Y l=>by
  rw [List.map_map]
  rfl
 rw [key X rs,key X' rs',h]
theorem Alike.set (h:Alike X X' rs rs') (k:Nat) {q q':RecV} (hq:q.ct X=q'.ct X'):Alike X X' (rs.set k q) (rs'.set k q'):=by
 unfold Alike
 rw [List.map_set,List.map_set,h,hq]
theorem Alike.rem (h:Alike X X' rs rs') (nm:ByteArray):Alike X X' (remR rs nm) (remR rs' nm):=by
 have key:∀(Y:Nat→List UInt8) (l:List RecV),(remR l nm).map (RecV.ct Y)=(l.map (RecV.ct Y)).filter fun c=>!decide (c.ob.name=nm):=fun Y l=>by
  rw [List.filter_map]
  rfl
 unfold Alike
 rw [key X rs,key X' rs',h]
theorem ct_turned (h:r.ct X=r'.ct X') (hna:r.na≠none):r.turned.ct X=r'.turned.ct X':=by
 obtain ⟨h1,h2,h3,h4,_⟩:=ct_parts h
 have e1:=congrArg Ob.name h1
 have e2:=congrArg Ob.mode h1
 have e3:=congrArg Ob.t h1
 have e4:=congrArg Ob.l h1
 have e5:=congrArg Ob.size h1
 have e6:=congrArg Ob.epoch h1
 simp only [RecV.ob] at e1 e2 e3 e4 e5 e6
 have e7:=h4 hna
 show (⟨⟨r.name,r.mode,r.t,r.l,r.size,r.epoch+1⟩,X (blkNo r.na),none⟩:Ct)=⟨⟨r'.name,r'.mode,r'.t,r'.l,r'.size,r'.epoch+1⟩,X' (blkNo r'.na),none⟩
 rw [e1,e2,e3,e4,e5,e6,show X (blkNo r.na)=X' (blkNo r'.na) from e7]
theorem ct_dropped (h:r.ct X=r'.ct X') (nm:ByteArray):(r.laid (RecV.bare nm 0 0 0 0 0)).ct X=(r'.laid (RecV.bare nm 0 0 0 0 0)).ct X':=by
 obtain ⟨h1,h2,_⟩:=ct_parts h
 show (⟨r.ob,r.x X,none⟩:Ct)=⟨r'.ob,r'.x X',none⟩
 rw [h1,h2]
theorem Alike.settled (h:Alike X X' rs rs') (c:Nat) (nm:ByteArray):Alike X X' (settled c nm rs) (settled c nm rs'):=by
 unfold Go.Proofs.YtcegdgmbponapabGreatDoor.settled
 rw [←h.has nm,←h.pos nm]
 by_cases hc:c=1
 ·rw [if_pos hc,if_pos hc]
  exact h.rem nm
 ·rw [if_neg hc,if_neg hc]
  by_cases hy:hasName rs nm=true
  ·rw [if_pos hy,if_pos hy]
   have hr:=h.rec hy
   have hna:=(ct_parts hr).2.2.1
   by_cases h3:c=3
   ·rw [if_pos h3,if_pos h3]
    by_cases e:(recOf rs nm).na=none
    ·rw [if_pos e,if_pos (hna.1 e)]
     exact h
    ·rw [if_neg e,if_neg (fun e'=>e (hna.2 e'))]
     exact h.set _ (ct_turned hr e)
   ·rw [if_neg h3,if_neg h3]
    exact h.set _ (ct_dropped hr nm)
  ·rw [if_neg hy,if_neg hy]
   exact h
theorem Alike.settleL (h:Alike X X' rs rs') (o:Option (List UInt8 × Nat)):Alike X X' (settleL o rs) (settleL o rs'):=by
 unfold Go.Proofs.YtcegdgmbponapabGreatDoor.settleL
 split
 ·split
  ·exact h
  ·exact h.settled _ _
 ·exact h
theorem Alike.cut {n:Nat} {rss rss':Nat→List RecV} (h:∀i,i<n→Alike X X' (rss i) (rss' i)):cutOf n rss=cutOf n rss':=by
 have hc:∀nm,codeOf n rss nm=codeOf n rss' nm:=fun nm=>by
  unfold codeOf
  have e1:(List.range n).all (fun i=>hasName (rss i) nm)=(List.range n).all (fun i=>hasName (rss' i) nm):=by
   rw [Bool.eq_iff_iff,List.all_eq_true,List.all_eq_true]
   exact ⟨fun H i hi=>by rw [←(h i (List.mem_range.1 hi)).has nm];exact H i hi,fun H i hi=>by rw [(h i (List.mem_range.1 hi)).has nm];exact H i hi⟩
  rw [←e1]
  by_cases ha:(List.range n).all (fun i=>hasName (rss i) nm)=true
  ·rw [if_pos ha,if_pos ha]
   rw [List.all_eq_true] at ha
   have e2:∀i∈List.range n,(recOf (rss i) nm).ct X=(recOf (rss' i) nm).ct X':=fun i hi=>(h i (List.mem_range.1 hi)).rec (ha i hi)
   rw [List.map_congr_left (fun i hi=>(ct_parts (e2 i hi)).1),List.map_congr_left (g:=fun i=>(recOf (rss' i) nm).late) (fun i hi=>(ct_parts (e2 i hi)).2.2.2.2.1)]
  ·rw [if_neg ha,if_neg ha]
 have hn:namesUpTo rss n=namesUpTo rss' n:=by
  unfold namesUpTo
  rw [List.flatMap_def,List.flatMap_def,List.map_congr_left (fun i hi=>(h i (List.mem_range.1 hi)).names)]
 unfold cutOf
 rw [hn,show (fun x:List UInt8=>codeOf n rss ⟨x.toArray⟩)=fun x=>codeOf n rss' ⟨x.toArray⟩ from funext fun x=>hc _]
end
theorem Imaged.back {w:World} {L:Seat} {s:Sta} (h:Bank w L s) {imgs:List ByteArray} (hl:imgs.length=L.n) (hi:∀i,i<L.n→(imgs[i]!).data.toList=imageOf L.n i (s.rss i) s.X) {rss:Nat→List RecV} {X:Nat→List UInt8} (hm:Imaged imgs rss X) (i:Nat) (hin:i<L.n):Alike X s.X (rss i) (settleL (cutOf L.n s.rss) (s.rss i)):=by
 obtain ⟨rss0,h1,h2,h3⟩:=hm
 rw [hl] at h1 h2 h3
 have ha:∀i,i<L.n→Alike X s.X (rss0 i) (s.rss i):=fun i hin=>parses_unique _ _ _ _ _ (h1 i hin) (image_parses hin h.n8 (h.ok i hin) (h.so i hin) (h.st i hin).le (hi i hin))
 rw [h3 i hin,Alike.cut ha]
 exact (ha i hin).settleL _
theorem Bank.readable {w:World} {L:Seat} {s:Sta} (h:Bank w L s) {imgs:List ByteArray} (hl:imgs.length=L.n) (hi:∀i,i<L.n→(imgs[i]!).data.toList=imageOf L.n i (s.rss i) s.X) (hcut:∃o,cutOf L.n s.rss=some o):¬Unread imgs:=by
 have hp:∀i,i<L.n→Parses L.n i 10 (imgs[i]!) ⟨#[]⟩ ((s.rss i).map (RecV.ct s.X)):=fun i hin=>image_parses hin h.n8 (h.ok i hin) (h.so i hin) (h.st i hin).le (hi i hin)
 unfold Unread
 rw [hl]
 have hn1:=h.n1
 have hn8:=h.n8
 rintro (h1 | h1 | ⟨i,hin,h1⟩|⟨rss0,X,h1,h2⟩)
 ·omega
 ·omega
 ·exact h1 _ (hp i hin)
 ·obtain ⟨o,ho⟩:=hcut
  have ha:∀i,i<L.n→Alike X s.X (rss0 i) (s.rss i):=fun i hin=>parses_unique _ _ _ _ _ (h1 i hin) (hp i hin)
  rw [Alike.cut ha,ho] at h2
  cases h2
end Go.Proofs.YtcegdgmbponapabGreatDoor