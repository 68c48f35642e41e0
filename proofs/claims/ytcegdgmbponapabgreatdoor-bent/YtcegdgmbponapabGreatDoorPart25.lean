/-
  The shares of an object made new, among others, with a pen that may crash.
  A vault where nothing was cut off: settle leaves all as it is.
  A record goes into a list of records, or out of it.
  The same, where an operation may have no slot: a store.
-/
import Derived.Test.YtcegdgmbponapabGreatDoorPart24
namespace Go.Proofs.YtcegdgmbponapabGreatDoor
open Go.RowKit
attribute [local go_sem ↓] Go.wp_at_zero Go.wp_at_succ
structure Glob (w:World) (base:Nat):Prop where
 tb:Tab w
 et:ErrType w
 t1:2<base
 e1:0<base
 bs:base≤w.heap.size
theorem Tab.block {w w':World} (h:Tab w) (hb:w'.heap[2]?=w.heap[2]?) (hs:w.heap.size≤w'.heap.size):Tab w':=by
 refine ⟨?_,Nat.lt_of_lt_of_le h.2 hs⟩
 have h1:=h.1
 have hg:Tryz.prog.globalNamed "internal/strconv.uint64pow10" = some 2:=by kernel_rfl
 unfold Lib.TabIs World.var? at h1 ⊢
 rw [hg] at h1 ⊢
 simp only [Option.bind_some] at h1 ⊢
 rw [hb]
 exact h1
theorem Glob.spared {own:Nat→Prop} {w w':World} {base:Nat} (h:Glob w base) (hs:Spared own w w') (ho:∀b,own b→base≤b):Glob w' base:=by
 have hb:∀k,k<base→w'.heap[k]?=w.heap[k]?:=fun k hk=>hs.block k (Nat.lt_of_lt_of_le hk h.bs) fun e=>by have:=ho k e;omega
 exact ⟨h.tb.block (hb _ h.t1) hs.size,⟨(World.cell?_of_block (hb _ h.e1)).trans h.et.1,Nat.lt_of_lt_of_le h.et.2 hs.size⟩,h.t1,h.e1,Nat.le_trans h.bs hs.size⟩
theorem Glob.below {w w':World} {base:Nat} (h:Glob w base) (hb:Below w.heap.size w w'):Glob w' base:=h.spared (Spared.ofBelow (own:=fun _=>False) hb (Nat.le_refl _)) (fun _ h=>h.elim)
def refL (n:Nat) (rss:Nat→List RecV) (nm:ByteArray) (ys:List RecV) (t q:Nat):List RecV:=(rss q).set (posOf (rss q) nm) (refState n (fun q=>recOf (rss q) nm) ys t q)
def RefK (n:Nat) (sp:Nat→Nat) (rss:Nat→List RecV) (nm:ByteArray) (ys:List RecV) (vs:Nat→Value) (t:Nat) (w:World):Prop :=
 ∀q,q<n→Sto w (sp q) false (vs q) (refL n rss nm ys t q)
theorem refL_start {n:Nat} {rss:Nat→List RecV} {nm:ByteArray} {ys:List RecV} {t q:Nat} (h:refState n (fun q=>recOf (rss q) nm) ys t q=recOf (rss q) nm) (hlt:posOf (rss q) nm<(rss q).length):refL n rss nm ys t q=rss q:=by
 unfold refL
 rw [h]
 unfold recOf
 rw [getElem!_pos (rss q) (posOf (rss q) nm) hlt]
 exact List.set_getElem_self _
theorem RefK.step {n:Nat} {sp:Nat→Nat} {rss:Nat→List RecV} {nm:ByteArray} {ys:List RecV} {vs:Nat→Value} {i j:Nat} {w w':World} (h:RefK n sp rss nm ys vs (j*n+i) w) (hi:i<n) (hj:j=0∨j=1) (hvi:∀i j,i<j→j<n→∀b,(vs i).ownBlock=some b→(vs j).ownBlock≠some b)
  (hs:Sto w' (sp i) false (vs i) (refL n rss nm ys (j*n+i+1) i)) (hsp:Spared (fun b=>(vs i).ownBlock=some b) w w'):RefK n sp rss nm ys vs (j*n+i+1) w':=by
 intro q hq
 by_cases hqi:q=i
 ·subst hqi;exact hs
 ·have e:refL n rss nm ys (j*n+i+1) q=refL n rss nm ys (j*n+i) q:=by unfold refL;rw [refState_other hi hq hqi hj]
  rw [e]
  refine (h q hq).keeps hsp (fun e=>row_ne (h i hi).row (h q hq).hp (by decide) e) (fun b hb e=>?_)
  rcases Nat.lt_or_gt_of_ne hqi with hlt | hlt
  ·exact hvi q i hlt hi b hb e
  ·exact hvi i q hlt hq b e hb
theorem refK_lay (n:Nat) (sp:Nat→Nat) (rss:Nat→List RecV) (nm:ByteArray) (ys:List RecV) (vs:Nat→Value) (i:Nat) (w:World) (h:RefK n sp rss nm ys vs (0*n+i) w) (hi:i<n) (hvi:∀i j,i<j→j<n→∀b,(vs i).ownBlock=some b→(vs j).ownBlock≠some b) (hnm:(ys[i]!).name=nm) (hyes:hasName (rss i) nm=true) :
  Calls Tryz.prog 123 #[.pointer (some ⟨sp i,0,none⟩),(ys[i]!).val] w fun e w'=>e=.returned (.tuple #[])∧RefK n sp rss nm ys vs (0*n+i+1) w'∧Spared (fun b=>∃q,q<n∧(vs q).ownBlock=some b) w w':=by
 have h0:refState n (fun q=>recOf (rss q) nm) ys (0*n+i) i=recOf (rss i) nm:=by unfold refState;rw [if_neg (by omega),if_neg (by omega)]
 have h1:refState n (fun q=>recOf (rss q) nm) ys (0*n+i+1) i=(recOf (rss i) nm).laid (ys[i]!):=by unfold refState;rw [if_neg (by omega),if_pos (by omega)]
 have hst:=h i hi
 rw [refL_start h0 (has_lt hyes)] at hst
 refine (lay_yes (sp i) false (vs i) (rss i) (ys[i]!) w hst (by rw [hnm];exact hyes)).mono ?_
 rintro e w' ⟨rfl,hs,hsp⟩
 rw [hnm] at hs
 refine ⟨rfl,h.step hi (.inl rfl) hvi ?_ hsp,hsp.mono fun b hb=>⟨i,hi,hb⟩⟩
 unfold refL
 rw [h1]
 exact hs
theorem refK_turn (n:Nat) (sp:Nat→Nat) (rss:Nat→List RecV) (nm:ByteArray) (ys:List RecV) (vs:Nat→Value) (i:Nat) (ad:Addr) (w:World) (h:RefK n sp rss nm ys vs (1*n+i) w) (hi:i<n) (hvi:∀i j,i<j→j<n→∀b,(vs i).ownBlock=some b→(vs j).ownBlock≠some b) (hnm:(ys[i]!).name=nm) (hyes:hasName (rss i) nm=true) (had:(ys[i]!).sa=some ad) (he:(recOf (rss i) nm).epoch≤1000) :
  Calls Tryz.prog 124 #[.pointer (some ⟨sp i,0,none⟩),(ys[i]!).val] w fun e w'=>e=.returned (.tuple #[])∧RefK n sp rss nm ys vs (1*n+i+1) w'∧Spared (fun b=>∃q,q<n∧(vs q).ownBlock=some b) w w':=by
 have hlt:=has_lt hyes
 have hrn:(recOf (rss i) nm).name=nm:=has_name hyes
 have h0:refState n (fun q=>recOf (rss q) nm) ys (1*n+i) i=(recOf (rss i) nm).laid (ys[i]!):=by unfold refState;rw [if_neg (by omega),if_pos (by omega)]
 have h1:refState n (fun q=>recOf (rss q) nm) ys (1*n+i+1) i=((recOf (rss i) nm).laid (ys[i]!)).turned:=by unfold refState;rw [if_pos (by omega)]
 obtain ⟨rs,hrs⟩:∃rs,rs=refL n rss nm ys (1*n+i) i:=⟨_,rfl⟩
 have hst:=h i hi
 rw [←hrs] at hst
 have hrs':rs=(rss i).set (posOf (rss i) nm) ((recOf (rss i) nm).laid (ys[i]!)):=by rw [hrs];unfold refL;rw [h0]
 have hq0:((recOf (rss i) nm).laid (ys[i]!)).name=((rss i)[posOf (rss i) nm]!).name:=rfl
 have hpos:posOf rs nm=posOf (rss i) nm:=by rw [hrs'];exact posOf_set _ _ _ _ hlt hq0
 have hhas:hasName rs nm=true:=by rw [hrs',hasName_set _ _ _ _ hlt hq0];exact hyes
 have hget:(recOf (rss i) nm).laid (ys[i]!)=rs[posOf rs nm]! := by
  rw [hpos,hrs',getElem!_pos ((rss i).set (posOf (rss i) nm) _) (posOf (rss i) nm) (by simpa using hlt),List.getElem_set_self]
 refine (turn_yes (sp i) false (vs i) rs (ys[i]!) ((recOf (rss i) nm).laid (ys[i]!)) ad w hst (by rw [hnm];exact hhas) (by rw [hnm];exact hget) had he).mono ?_
 rintro e w' ⟨rfl,hs,hsp⟩
 rw [hnm,hpos,hrs',List.set_set] at hs
 refine ⟨rfl,h.step hi (.inr rfl) hvi ?_ hsp,hsp.mono fun b hb=>⟨i,hi,hb⟩⟩
 unfold refL
 rw [h1]
 exact hs
theorem RefK.keeps {n:Nat} {sp:Nat→Nat} {rss:Nat→List RecV} {nm:ByteArray} {ys:List RecV} {vs:Nat→Value} {t V:Nat} {w w':World} (h:RefK n sp rss nm ys vs t w) (hs:Spared (fun b=>b=V) w w') (hsV:∀i,i<n→sp i≠V) (hvV:∀i,i<n→(vs i).ownBlock≠some V):RefK n sp rss nm ys vs t w' :=
 fun q hq=>(h q hq).keeps hs (hsV q hq) (fun b hb e=>hvV q hq (by rw [hb,e]))
def Ended (w:World) (V key n B bc:Nat) (sp:Nat→Nat) (p:Pen) (m d t:Nat) (e:Ending):Prop :=
 t≤m∧(∀s,s<t→(p.ticks s).halts=false)∧((t=m∧e=.returned .nilIface∧Vp w V key n B bc sp (p.ticks t))∨(t<m∧(p.ticks t).halts=true∧(∃ev,e=.returned ev∧Chain w 1 d ev)∧Vp w V key n B bc sp (p.ticks t).fall))
set_option maxRecDepth 100000 in
set_option maxHeartbeats 2000000 in
theorem vrefresh_gen (base V key n B bc:Nat) (sp:Nat→Nat) (p:Pen) (t l size epoch:Nat) (nm tape:ByteArray) (P:Nat→List UInt8) (vs:Nat→Value) (rss:Nat→List RecV) (w:World) (hV:Vp w V key n B bc sp p) (hcr:p.crashed=false) (hst:∀i,i<n→Sto w (sp i) false (vs i) (rss i)) (hyes:∀i,i<n→hasName (rss i) nm=true) (hob:∀i,i<n→(recOf (rss i) nm).ob=⟨nm,0,t,l,size,epoch⟩)
  (hp:IsPlan 0 t l n) (he:epoch<100) (hz:size≤60) (hnm:nm.size≤12) (hk:key<18446744073709551616) (htp:Cof.tsize 0 t*Cof.ngroups 0 t l size≤tape.size) (hG:Glob w base) (hbV:base≤V) (hbv:∀i,i<n→∀b,(vs i).ownBlock=some b→base≤b)
  (hP:∀i,i<n→(P i).length=Cof.ngroups 0 t l size) (hvi:∀i j,i<j→j<n→∀b,(vs i).ownBlock=some b→(vs j).ownBlock≠some b)
  (hpc:∀i,i<n→∀w',Below w.heap.size w w'→Tab w'→Calls Tryz.prog 94 #[.pointer (some ⟨V,0,none⟩),.int .i64 i,.agg #[.string nm,.int .i64 0,.int .i64 t,.int .i64 l,.int .i64 size,.int .i64 epoch]] w' fun e w'' =>
   ∃pv,e=.returned (.tuple #[pv,.nilIface])∧w''.ownsRow w'.heap.size 5 1 pv (Cof.ngroups 0 t l size) (bs (P i))∧Below w'.heap.size w' w'') :
  Calls Tryz.prog 39 #[.pointer (some ⟨V,0,none⟩),.string nm,.string tape] w fun e w' =>
   ∃(ys:List RecV) (k:Nat),Ended w' V key n B bc sp p (2*n) 2 k e∧RefK n sp rss nm ys vs k w'∧ys.length=n∧(∀i,i<n→RecOk w' w.heap.size key 0 t l n size (epoch+1) nm (Cof.sumRow (P i) ((Cof.split (List.replicate size 0) 0 t l n tape.data.toList).getD i [])) i (ys[i]!))∧(∀i j,i<j→j<n→(ys[i]!).blk≠(ys[j]!).blk)∧Spared (fun b=>b=V∨∃i,i<n∧(vs i).ownBlock=some b) w w':=by
 have hn1':=hp.n1
 have hn8:=hp.n8
 have hl:=ngroups_le hp size hz
 have hR:Rdy w V key n B bc sp:=Vt.rdy (h:=by have:=hV;unfold Vp at this;rw [hcr] at this;exact this) hn1' hn8
 obtain ⟨a0,c0',_,hst0⟩:=(hst 0 (by omega)).st
 have hob0:=hob 0 (by omega)
 have HOBJ:=hid (object_yes V key n B bc sp false a0 c0' (rss 0) (recOf (rss 0) nm) nm w hR hst0 (hyes 0 (by omega)) rfl)
 obtain ⟨o1,o2,o3,o4,o5,o6⟩:=(ob_eq_iff _ _).1 hob0
 simp only [RecV.ob] at o1 o2 o3 o4 o5 o6
 rw [o1,o2,o3,o4,o5,o6] at HOBJ
 have HVT:=hid hV
 have HST:=hid hst
 have HY:=hid hyes
 have HOB0:=hid hob
 have HP:=hid hp
 have HRR:=hid hR
 have HPL:=hid hP
 have HTP:=hid htp
 have HGB:=hid hG
 have HPC:=hid hpc
 have HVI:=hid hvi
 have HBV:=hid hbv
 have hVl:=cells_lt hV.hp
 clear hV hst hyes hob hp hR hP htp hG hpc hvi hst0 hob0 o1 o2 o3 o4 o5 o6 hbv hcr
 go_enter Tryz.func39,Tryz.ntmps39
 go_wp2_with fail
 refine HOBJ.out.mono ?_
 rintro e w1 ⟨rfl,hb1⟩
 have hba:=hb1.alloc hb1.size (.cells #[.string nm,.int .i64 0,.int .i64 t,.int .i64 l,.int .i64 size,.int .i64 epoch] 65)
 obtain ⟨w2,hw2⟩:∃w2,w2=w1.alloc (.cells #[.string nm,.int .i64 0,.int .i64 t,.int .i64 l,.int .i64 size,.int .i64 epoch] 65):=⟨_,rfl⟩
 have HOB:=hid (show w2.heap[w1.heap.size]?=some (.cells #[.string nm,.int .i64 0,.int .i64 t,.int .i64 l,.int .i64 size,.int .i64 epoch] 65) by rw [hw2];exact alloc_at _ _)
 have hl1:w1.heap.size<w2.heap.size:=cells_lt HOB.out
 rw [←hw2] at hba
 have HREF:=hid (refreshed_gen V key n B bc sp 0 t l size epoch nm tape P n (Nat.le_refl _) w2 (HRR.out.keeps hba (Nat.le_refl _)) (fun i hi=>(hba.cell (by exact cells_lt (HST.out i hi).hp)).trans (by rw [cells_at (HST.out i hi).hp];rfl)) (fun i hi=>Nat.lt_of_lt_of_le (cells_lt (HST.out i hi).hp) hba.size) HP.out rfl he hz hl HPL.out HTP.out ((HGB.out.below hba).tb) (fun i hi w' hb hT=>HPC.out i hi w' (hba.trans (hb.mono hba.size)) hT) (fun h=>absurd h (Nat.lt_irrefl _)))
 go_wp2_with fail
 rw [←hw2]
 refine HREF.out.mono ?_
 rintro e w3 (⟨_,g,rfl,hrows,hb3⟩|⟨h,_⟩)
 ·have hb03:=hba.trans (hb3.mono hba.size)
  have HOB3:=hid (show w3.heap[w1.heap.size]?=some (.cells #[.string nm,.int .i64 0,.int .i64 t,.int .i64 l,.int .i64 size,.int .i64 epoch] 65) from (hb3.block _ hl1).trans HOB.out)
  have o5:w3.cell? ⟨w1.heap.size,5,none⟩=some (.int .i64 epoch):=by rw [cells_at HOB3.out];rfl
  have f5:w3.frozen? ⟨w1.heap.size,5,none⟩=false:=cells_fz HOB3.out
  have o0:w3.cell? ⟨w1.heap.size,0,none⟩=some (.string nm):=by rw [cells_at HOB3.out];rfl
  have o1:w3.cell? ⟨w1.heap.size,1,none⟩=some (.int .i64 0):=by rw [cells_at HOB3.out];rfl
  have o2:w3.cell? ⟨w1.heap.size,2,none⟩=some (.int .i64 t):=by rw [cells_at HOB3.out];rfl
  have o3:w3.cell? ⟨w1.heap.size,3,none⟩=some (.int .i64 l):=by rw [cells_at HOB3.out];rfl
  have o4:w3.cell? ⟨w1.heap.size,4,none⟩=some (.int .i64 size):=by rw [cells_at HOB3.out];rfl
  have hkind:∀j v,w3.cell? ⟨w1.heap.size,j,none⟩=some v→v=.string nm∨∃x:Int,v=.int .i64 x:=by
   intro j v hj
   rw [cells_at HOB3.out] at hj
   rcases show j=0∨j=1∨j=2∨j=3∨j=4∨j=5∨6≤j by omega with rfl | rfl | rfl | rfl | rfl | rfl | h6
   ·simp at hj;exact .inl hj.symm
   ·simp at hj;exact .inr ⟨_,hj.symm⟩
   ·simp at hj;exact .inr ⟨_,hj.symm⟩
   ·simp at hj;exact .inr ⟨_,hj.symm⟩
   ·simp at hj;exact .inr ⟨_,hj.symm⟩
   ·simp at hj;exact .inr ⟨_,hj.symm⟩
   ·rw [Array.getElem?_eq_none (by simpa using h6)] at hj;cases hj
  have HR4:=hid (hrows.setCell_kind (g:=w1.heap.size) (k:=5) (.int .i64 ((epoch:Int)+1)) (fun j a n c hc=>by rcases hkind j _ hc with h | ⟨x,h⟩<;>cases h) (fun j x hc=>by rcases hkind j _ hc with h | ⟨x,h⟩<;>cases h))
  have hb04:Below w.heap.size w (w3.setCell ⟨w1.heap.size,5,none⟩ (.int .i64 ((epoch:Int)+1))):=hb03.setCell (p:=⟨w1.heap.size,5,none⟩) hb1.size _
  obtain ⟨rows,hrw⟩:∃rows,rows=(List.range n).map fun i=>Cof.sumRow (P i) ((Cof.split (List.replicate size 0) 0 t l n tape.data.toList).getD i []):=⟨_,rfl⟩
  rw [←hrw] at HR4
  have hrl:rows.length=n:=by rw [hrw];simp
  have hrg:∀i,i<n→rows.getD i []=Cof.sumRow (P i) ((Cof.split (List.replicate size 0) 0 t l n tape.data.toList).getD i []):=fun i hi=>by rw [hrw];simp [hi]
  have hrn:∀i,i<n→(rows.getD i []).length=Cof.ngroups 0 t l size:=fun i hi=>by
   rw [hrg i hi,Cof.length_sumRow,HPL.out i hi,split_len HP.out _ _ i hi (by simpa using HTP.out)]
   simp
  have HRG:=hid hrg
  have HREC:=hid (records_any V key n B bc sp 0 t l size (epoch+1) (Cof.ngroups 0 t l size) nm (some ⟨g,0,none⟩) n rows (w3.setCell ⟨w1.heap.size,5,none⟩ (.int .i64 ((epoch:Int)+1))) (HRR.out.keeps hb04 (Nat.le_refl _)) HP.out (by omega) hz hnm hk hrl hrn hl HR4.out)
  obtain ⟨w4,hw4⟩:∃w4,w4=w3.setCell ⟨w1.heap.size,5,none⟩ (.int .i64 ((epoch:Int)+1)):=⟨_,rfl⟩
  clear hrows hkind hrw hrl hrg hrn HR4
  go_wp2_with fail
  rw [←hw4] at HREC hb04 ⊢
  refine HREC.out.mono ?_
  rintro e w5 ⟨gr,ys,rfl,hmd⟩
  have hb45:=hmd.bl
  have hb05:=hb04.trans (hb45.mono hb04.size)
  have hS05:Spared (fun _=>False) w w5:=Spared.ofBelow hb05 (Nat.le_refl _)
  have hV5:=HVT.out.keeps hS05 (fun h=>h) (fun h=>h)
  have hrow:=hmd.row
  rw [Nat.sub_self,List.replicate_zero,List.append_nil] at hrow
  obtain ⟨_,_,hgv,hgrd⟩:=owns_rd_size hrow
  have hgeq:=(by simpa using hgv:(some (⟨gr,0,none⟩:Addr))=_∧_)
  rw [←hgeq.1] at hgrd
  have hgr:=hrow.lt gr rfl
  have hvl:∀i,i<n→∀b,(vs i).ownBlock=some b→b<w.heap.size:=fun i hi b hb=>((HST.out i hi).row.lt b hb).2
  have hvV:∀i,i<n→(vs i).ownBlock≠some V:=fun i hi=>row_ne (HST.out i hi).row HVT.out.hp (by decide)
  have hsV:∀i,i<n→sp i≠V:=by
   intro i hi e
   have h1:=(HST.out i hi).hp
   have h2:=HVT.out.hp
   rw [e,h2] at h1
   cases h1
  obtain ⟨LB,hLB,_⟩:=HVT.out.hb
  have hvB:∀i,i<n→(vs i).ownBlock≠some B:=fun i hi=>row_ne (HST.out i hi).row hLB (by decide)
  have hBV:B≠V:=by
   intro e
   have h2:=HVT.out.hp
   rw [←e,hLB] at h2
   cases h2
  have hnmx:∀i,i<n→(ys[i]!).name=nm:=fun i hi=>(hmd.ok i hi).e.1
  have hepx:∀i,i<n→(recOf (rss i) nm).epoch≤1000:=fun i hi=>by
   have:=((ob_eq_iff _ _).1 (HOB0.out i hi)).2.2.2.2.2
   simp only [RecV.ob] at this
   omega
  have had:∀i,i<n→∃ad,(ys[i]!).sa=some ad:=by
   intro i hi
   obtain ⟨sg,cap,hsl,_,_⟩:=row_some (hmd.ok i hi).own (by rw [(hmd.ok i hi).sn];omega)
   have:=(by simpa using hsl:(ys[i]!).sa=some ⟨sg,0,none⟩∧_)
   exact ⟨_,this.1⟩
  have hG5:=HGB.out.below hb05
  have hW:=write_any 2 2 (stepFns 2) (fun t w'=>RefK n sp rss nm ys vs t w') (fun b=>∃i,i<n∧(vs i).ownBlock=some b) V key n B bc gr n sp ys p w5 rfl (by decide) hn8 steps_at2
   (fun j f hf args w'=>by
    cases j with
    | zero=>cases hf;exact Tryz.callLay args w'
    | succ j=>cases j with
     | zero=>cases hf;exact Tryz.callTurn args w'
     | succ j=>cases hf)
   hV5 hmd.len hgrd hgr.2
   (fun w' hb q hq=>by
    have e:refState n (fun q=>recOf (rss q) nm) ys 0 q=recOf (rss q) nm:=by unfold refState;rw [if_neg (by omega),if_neg (by omega)]
    rw [refL_start e (has_lt (HY.out q hq))]
    exact ((HST.out q hq).keeps hS05 (fun h=>h) (fun _ _ h=>h)).keeps (Spared.ofBelow (own:=fun _=>False) hb (Nat.le_refl _)) (fun h=>h) (fun _ _ h=>h))
   (fun t w1 w2 h hs=>h.keeps hs hsV hvV)
   (fun b ⟨i,hi,e⟩=>by have:=hvl i hi b e;have:=hb05.size;omega)
   (fun ⟨i,hi,e⟩=>hvV i hi e) (fun ⟨i,hi,e⟩=>hvB i hi e) (fun ⟨i,hi,e⟩=>by have:=hvl i hi _ e;have:=hb04.size;omega) (by have:=hb04.size;omega) hBV
   (fun w1 hs=>(hG5.spared hs (fun b hb=>by
    rcases hb with rfl | ⟨i,hi,hb⟩
    ·exact hbV
    ·exact HBV.out i hi b hb)).tb)
   (fun j i f w1 hf hi hJ _=>by
    cases j with
    | zero =>
     cases hf
     exact refK_lay n sp rss nm ys vs i w1 hJ hi HVI.out (hnmx i hi) (HY.out i hi)
    | succ j=>cases j with
     | zero =>
      cases hf
      obtain ⟨ad,hadi⟩:=had i hi
      exact refK_turn n sp rss nm ys vs i ad w1 hJ hi HVI.out (hnmx i hi) (HY.out i hi) hadi (hepx i hi)
     | succ j=>cases hf)
  have HW:=hid hW
  clear hW
  have hxb:∀i,i<n→∀b,(ys[i]!).blk=some b→w4.heap.size≤b:=fun i hi b hb=>((hmd.ok i hi).own.lt b hb).1
  have HFIN:=hid (show ∀w6,Spared (fun b=>b=V∨∃i,i<n∧(vs i).ownBlock=some b) w5 w6→ys.length=n∧(∀i,i<n→RecOk w6 w.heap.size key 0 t l n size (epoch+1) nm (Cof.sumRow (P i) ((Cof.split (List.replicate size 0) 0 t l n tape.data.toList).getD i [])) i (ys[i]!))∧(∀i j,i<j→j<n→(ys[i]!).blk≠(ys[j]!).blk)∧Spared (fun b=>b=V∨∃i,i<n∧(vs i).ownBlock=some b) w w6 from fun w6 hs6=>⟨hmd.len,fun i hi=>by
   have hk:=((hmd.ok i hi).keeps hs6 (fun b hb ho=>by
    have h1:=hxb i hi b hb
    have h2:=hb04.size
    rcases ho with rfl | ⟨q,hq,hqb⟩
    ·omega
    ·have:=hvl q hq b hqb;omega)).mono (by have:=hb04.size;omega:w.heap.size≤w4.heap.size)
   rw [HRG.out i hi] at hk
   exact hk,hmd.inj,(Spared.ofBelow hb05 (Nat.le_refl _)).trans hs6⟩)
  clear hmd hrow hgrd hxb hnmx had hG5 hV5 hgv hgeq hepx
  go_wp2_with fail
  refine HW.out.mono ?_
  rintro e w6 ⟨⟨k,hk1,hJ,hnh,hend⟩,hsp6⟩
  have HJ:=hid hJ
  have HNH:=hid hnh
  have HSP:=hid hsp6
  have HK1:=hid hk1
  clear hJ hnh hsp6 hk1
  rcases hend with ⟨hk2,rfl,hvp⟩|⟨hk2,hh,⟨ev,rfl,hch⟩,hvp⟩
  ·have HVP:=hid hvp
   have HK2:=hid hk2
   clear hvp hk2
   go_wp2_with (go_at_call 53;refine (at_nil _ _).mono ?_;rintro e w7 ⟨rfl,rfl⟩)
   go_ret
   exact ⟨ys,k,⟨HK1.out,HNH.out,.inl ⟨HK2.out,rfl,HVP.out⟩⟩,HJ.out,HFIN.out _ HSP.out⟩
  ·have HVP:=hid hvp
   have HK2:=hid hk2
   have HHH:=hid hh
   have HCH:=hid hch
   obtain ⟨te,ve,rfl⟩:=hch.shape
   clear hvp hk2 hh hch
   go_wp2_with (go_at_call 53;refine (at_chain _ _ 1 1 _ HCH.out).mono ?_;rintro e w7 ⟨e7,rfl,hch7,hb7⟩)
   go_ret
   have hs7:Spared (fun _=>False) w6 w7:=Spared.ofBelow hb7 (Nat.le_refl _)
   exact ⟨ys,k,⟨HK1.out,HNH.out,.inr ⟨HK2.out,HHH.out,⟨_,rfl,hch7⟩,HVP.out.keeps hs7 (fun h=>h) (fun h=>h)⟩⟩,fun q hq=>(HJ.out q hq).keeps hs7 (fun h=>h) (fun _ _ h=>h),HFIN.out _ (HSP.out.trans (Spared.ofBelow hb7 (Nat.le_refl _)))⟩
 ·exact absurd h (Nat.lt_irrefl _)
theorem cutRun_leave (code:List UInt8→Option Nat):∀(N:List (List UInt8)) (f:List UInt8) (s:Nat),(∀x∈N,code x=some 5)→cutRun code N f s=some (f,s)
 | [],_,_,_=>rfl
 | x :: N,f,s,h=>by
  unfold cutRun
  rw [h x (List.mem_cons_self ..)]
  simp only [if_true]
  exact cutRun_leave code N f s fun y hy=>h y (List.mem_cons_of_mem _ hy)
theorem allSame_const (L:List Ob) (x:Ob) (h0:L≠[]) (h:∀y∈L,y=x):allSame L=true:=by
 unfold allSame
 refine decide_eq_true ⟨h0,fun j hj=>?_⟩
 have hpos:0<L.length:=List.length_pos_iff.2 h0
 rw [getElem!_pos L j hj,getElem!_pos L 0 hpos,h _ (List.getElem_mem hj),h _ (List.getElem_mem hpos)]
theorem name_found {rs:List RecV} (hso:Sorted rs) (r:RecV) (hr:r∈rs):hasName rs r.name=true∧rs[posOf rs r.name]! = r:=by
 obtain ⟨i,hi,rfl⟩:=List.getElem_of_mem hr
 have hp:posOf rs (rs[i]).name=i:=posOf_eq rs _ i (by omega) (fun k hk=>by
  have:=hso k i hk hi
  rwa [getElem!_pos rs i hi] at this) (fun k hk hk2 hc=>by
  rcases Nat.eq_or_lt_of_le hk with rfl | hlt
  ·rw [getElem!_pos rs i hi] at hc
   rw [cmpB_zero.2 rfl] at hc
   omega
  ·have h1:=hso i k hlt hk2
   rw [getElem!_pos rs i hi] at h1
   have h2:=cmpB_trans h1 hc
   rw [cmpB_zero.2 rfl] at h2
   omega)
 refine ⟨?_,by rw [hp,getElem!_pos rs i hi]⟩
 unfold hasName
 rw [hp,decide_eq_true hi,getElem!_pos rs i hi,cmpB_zero.2 rfl]
 rfl
structure Even (n:Nat) (rss:Nat→List RecV):Prop where
 same:∀i,i<n→(rss i).map RecV.ob=(rss 0).map RecV.ob
 bare:∀i,i<n→∀r∈rss i,r.na=none
 ep:∀i,i<n→∀r∈rss i,r.epoch≤1000∧r.name.size≤1000
theorem Even.has {n:Nat} {rss:Nat→List RecV} (h:Even n rss) (hso:∀i,i<n→Sorted (rss i)) (i j:Nat) (hi:i<n) (hj:j<n) (r:RecV) (hr:r∈rss i):hasName (rss j) r.name=true∧(recOf (rss j) r.name).ob=r.ob∧recOf (rss j) r.name∈rss j:=by
 have h1:r.ob∈(rss j).map RecV.ob:=by
  rw [h.same j hj,←h.same i hi]
  exact List.mem_map_of_mem hr
 obtain ⟨q,hq,hqo⟩:=List.mem_map.1 h1
 have hqn:q.name=r.name:=congrArg Ob.name hqo
 obtain ⟨h2,h3⟩:=name_found (hso j hj) q hq
 rw [hqn] at h2 h3
 unfold recOf
 rw [h3]
 exact ⟨h2,hqo,hq⟩
end Go.Proofs.YtcegdgmbponapabGreatDoor
namespace Go.Proofs.YtcegdgmbponapabGreatDoor
open Go.RowKit
theorem sorted_iff (rs:List RecV):Sorted rs↔rs.Pairwise (fun a b=>cmpB a.name b.name<0):=by
 rw [List.pairwise_iff_getElem]
 unfold Sorted
 constructor
 ·intro h i j hi hj hij
  have:=h i j hij hj
  rwa [getElem!_pos rs i hi,getElem!_pos rs j hj] at this
 ·intro h i j hij hj
  rw [getElem!_pos rs i (by omega),getElem!_pos rs j hj]
  exact h i j (by omega) hj hij
theorem pos_split (nm:ByteArray):∀rs:List RecV,Sorted rs→rs.take (posOf rs nm)=rs.filter (fun r=>decide (cmpB r.name nm<0))∧rs.drop (posOf rs nm)=rs.filter (fun r=>!decide (cmpB r.name nm<0))
 | [],_=>by simp [posOf]
 | r :: rs,h=>by
  have hp:=(sorted_iff _).1 h
  rw [List.pairwise_cons] at hp
  by_cases hr:cmpB r.name nm<0
  ·have ih:=pos_split nm rs ((sorted_iff _).2 hp.2)
   have e:posOf (r :: rs) nm=posOf rs nm+1:=by unfold posOf;rw [List.countP_cons_of_pos (by simpa using hr)]
   rw [e,List.take_succ_cons,List.drop_succ_cons,ih.1,ih.2,List.filter_cons_of_pos (by simpa using hr),List.filter_cons_of_neg (by simpa using hr)]
   exact ⟨rfl,rfl⟩
  ·have hall:∀x∈r :: rs,¬cmpB x.name nm<0:=by
    intro x hx hc
    rcases List.mem_cons.1 hx with rfl | hx
    ·exact hr hc
    ·exact hr (cmpB_trans (hp.1 x hx) hc)
   have e:posOf (r :: rs) nm=0:=by
    unfold posOf
    rw [List.countP_eq_zero]
    intro x hx
    simpa using hall x hx
   rw [e,List.take_zero,List.drop_zero]
   constructor
   ·symm
    rw [List.filter_eq_nil_iff]
    intro x hx
    simpa using hall x hx
   ·symm
    rw [List.filter_eq_self]
    intro x hx
    have:=hall x hx
    simp only [this,decide_false,Bool.not_false]
theorem hasName_iff {rs:List RecV} (h:Sorted rs) (nm:ByteArray):hasName rs nm=true↔∃r∈rs,r.name=nm:=by
 constructor
 ·intro hy
  refine ⟨rs[posOf rs nm]!,?_,has_name hy⟩
  rw [getElem!_pos rs _ (has_lt hy)]
  exact List.getElem_mem _
 ·rintro ⟨r,hr,rfl⟩
  exact (name_found h r hr).1
theorem recOf_of {rs:List RecV} (h:Sorted rs) (r:RecV) (hr:r∈rs):recOf rs r.name=r:=(name_found h r hr).2
theorem recOf_mem {rs:List RecV} {nm:ByteArray} (hy:hasName rs nm=true):recOf rs nm∈rs∧(recOf rs nm).name=nm:=by
 unfold recOf
 refine ⟨?_,has_name hy⟩
 rw [getElem!_pos rs _ (has_lt hy)]
 exact List.getElem_mem _
def insR (rs:List RecV) (r:RecV):List RecV:=rs.take (posOf rs r.name)++r :: rs.drop (posOf rs r.name)
theorem insR_length (rs:List RecV) (r:RecV):(insR rs r).length=rs.length+1:=by
 have:=posOf_le rs r.name
 unfold insR
 rw [List.length_append,List.length_cons,List.length_take,List.length_drop]
 omega
theorem insR_mem (rs:List RecV) (r x:RecV):x∈insR rs r↔x=r∨x∈rs:=by
 have h:x∈rs↔x∈rs.take (posOf rs r.name)∨x∈rs.drop (posOf rs r.name):=by
  rw [←List.mem_append,List.take_append_drop]
 unfold insR
 rw [List.mem_append,List.mem_cons,h]
 constructor
 ·rintro (h | h | h)
  ·exact .inr (.inl h)
  ·exact .inl h
  ·exact .inr (.inr h)
 ·rintro (h | h | h)
  ·exact .inr (.inl h)
  ·exact .inl h
  ·exact .inr (.inr h)
theorem insR_sorted {rs:List RecV} (h:Sorted rs) (r:RecV) (hno:hasName rs r.name=false):Sorted (insR rs r):=by
 have hp:=(sorted_iff _).1 h
 obtain ⟨h1,h2⟩:=pos_split r.name rs h
 have hne:∀x∈rs,x.name≠r.name:=fun x hx e=>by
  have:=(hasName_iff h r.name).2 ⟨x,hx,e⟩
  rw [hno] at this
  cases this
 rw [sorted_iff]
 unfold insR
 rw [h1,h2,List.pairwise_append,List.pairwise_cons]
 have hlt:∀b∈rs.filter (fun x=>!decide (cmpB x.name r.name<0)),cmpB r.name b.name<0:=by
  intro b hb
  rw [List.mem_filter] at hb
  have h3:¬cmpB b.name r.name<0:=by simpa using hb.2
  have h4:cmpB b.name r.name≠0:=fun e=>hne b hb.1 (cmpB_zero.1 e)
  have h5:=cmpB_flip r.name b.name
  omega
 refine ⟨hp.sublist List.filter_sublist,⟨hlt,hp.sublist List.filter_sublist⟩,?_⟩
 intro a ha b hb
 have ha':cmpB a.name r.name<0:=by
  rw [List.mem_filter] at ha
  simpa using ha.2
 rcases List.mem_cons.1 hb with rfl | hb
 ·exact ha'
 ·exact cmpB_trans ha' (hlt b hb)
def remR (rs:List RecV) (nm:ByteArray):List RecV:=rs.filter fun r=>!decide (r.name=nm)
theorem remR_sorted {rs:List RecV} (h:Sorted rs) (nm:ByteArray):Sorted (remR rs nm) :=
 (sorted_iff _).2 (((sorted_iff _).1 h).sublist List.filter_sublist)
theorem remR_mem (rs:List RecV) (nm:ByteArray) (x:RecV):x∈remR rs nm↔x∈rs∧x.name≠nm:=by
 unfold remR
 rw [List.mem_filter]
 simp
theorem remR_no {rs:List RecV} (h:Sorted rs) (nm:ByteArray):hasName (remR rs nm) nm=false:=by
 cases hq:hasName (remR rs nm) nm with
 | false=>rfl
 | true =>
  obtain ⟨r,hr,e⟩:=(hasName_iff (remR_sorted h nm) nm).1 hq
  exact absurd e ((remR_mem rs nm r).1 hr).2
theorem remR_self {rs:List RecV} (h:Sorted rs) (nm:ByteArray) (hno:hasName rs nm=false):remR rs nm=rs:=by
 unfold remR
 rw [List.filter_eq_self]
 intro r hr
 have:r.name≠nm:=fun e=>by
  have:=(hasName_iff h nm).2 ⟨r,hr,e⟩
  rw [hno] at this
  cases this
 simp [this]
section
variable {P:Program} {ops:Array Oper} {Q:Exit→Act→World→Prop}
def StepOk2 (P:Program) (o:Oper) (a:Act) (w:World) (post:Value→World→Prop):Prop :=
 StepOk P o a w post∨∃w',(execOp a.eval o).run P w=.ok .skip w'∧post undef w'
theorem StepOk2.wp {o:Oper} {a:Act} {w:World} {post:Value→World→Prop} {K:Act→World→Prop} (h:StepOk2 P o a w post) (hK:∀v w',post v w'→K (a.put o.dst v) w'):o.wp P a w K Q:=by
 rcases h with h | ⟨w',hr,hp⟩
 ·exact h.wp hK
 ·unfold Oper.wp
  rw [hr]
  exact hK undef w' hp
def StepOwn2 (P:Program) (ops:Array Oper) (slot:Nat→Option Nat) (R:Nat→Act→World→Prop) (U:Nat→World→Prop) (O:Nat→Nat→Prop) (fixed:List (Nat × Value)) (reads:Nat→List Nat) (N:Nat) (w0:World):Nat→List Oper→Prop
 | _,[]=>True
 | i,o :: rest=>(∀a w,a.tmps.size=N→Spared (fun b=>∃i,O i b) w0 w→(∀x∈fixed,(reads i).contains x.1=true→a.tmps.getD x.1 undef=x.2)→(∀e∈o.after,Region.binds .any e=true→R e.on a w∧∀j,waits ops e.on j=true→R j a w)→U i w→StepOk2 P o a w fun v w'=>Spared (O i) w w'∧R i (a.put (slot i) v) w')∧StepOwn2 P ops slot R U O fixed reads N w0 (i+1) rest
theorem StepOwn2.at {slot:Nat→Option Nat} {R:Nat→Act→World→Prop} {U:Nat→World→Prop} {O:Nat→Nat→Prop} {fixed:List (Nat × Value)} {reads:Nat→List Nat} {N:Nat} {w0:World}:∀(l:List Oper) (k i:Nat) (o:Oper),StepOwn2 P ops slot R U O fixed reads N w0 k l→l[i]?=some o →
  ∀a w,a.tmps.size=N→Spared (fun b=>∃i,O i b) w0 w→(∀x∈fixed,(reads (k+i)).contains x.1=true→a.tmps.getD x.1 undef=x.2)→(∀e∈o.after,Region.binds .any e=true→R e.on a w∧∀j,waits ops e.on j=true→R j a w)→U (k+i) w→StepOk2 P o a w fun v w'=>Spared (O (k+i)) w w'∧R (k+i) (a.put (slot (k+i)) v) w':=by
 intro l
 induction l with
 | nil=>intro k i o _ hi;simp at hi
 | cons x l ih =>
  intro k i o h hi
  cases i with
  | zero =>
   simp at hi
   subst hi
   exact h.1
  | succ i =>
   have:=ih (k+1) i o h.2 (by simpa using hi)
   rw [show k+(i+1)=k+1+i by omega]
   exact this
def ownOk2 (ops:Array Oper) (slot:Nat→Option Nat) (N:Nat) (reads:Nat→List Nat):Bool :=
 (List.range ops.size).all fun i=>match ops[i]? with
  | none=>true
  | some o=>o.dst == slot i && (match slot i with | none=>true | some s=>decide (s<N)) && o.guard.isNone && o.after.all (fun e=>!Region.binds .any e || decide (e.on<i)) && (List.range ops.size).all (fun j=>slot i != slot j || i == j) && (match slot i with | none=>true | some s=>(List.range ops.size).all fun j=>!(reads j).contains s || o.after.any fun e=>e.on == j && Region.binds .any e)
structure OI2 (ops:Array Oper) (slot:Nat→Option Nat) (R:Nat→Act→World→Prop) (U:Nat→World→Prop) (O:Nat→Nat→Prop) (fixed:List (Nat × Value)) (N:Nat) (w0:World) (listed:Array Bool) (a:Act) (w:World):Prop where
 df:a.defers=[]
 sz:a.tmps.size=N
 sp:Spared (fun b=>∃i,O i b) w0 w
 fx:∀x∈fixed,(∀k,k<ops.size→slot k=some x.1→listed.getD k false=false)→a.tmps.getD x.1 undef=x.2
 cl:∀(i:Nat) (o:Oper),ops[i]?=some o→listed.getD i false=true→∀e∈o.after,Region.binds .any e=true→listed.getD e.on false=true
 rs:∀j,listed.getD j false=true→R j a w
 us:∀j,j<ops.size→listed.getD j false=false→U j w
theorem wp_region_own2 {id:Nat} {a:Act} {w:World} (hm:P.follows .mixedOrders=true) (slot:Nat→Option Nat) (R:Nat→Act→World→Prop) (U:Nat→World→Prop) (O:Nat→Nat→Prop) (fixed:List (Nat × Value)) (N:Nat) (reads:Nat→List Nat)
  (hok:ownOk2 ops slot N reads=true)
  (ha:a.defers=[]) (hN:a.tmps.size=N) (hfx:∀p∈fixed,a.tmps.getD p.1 undef=p.2)
  (hU0:∀j,j<ops.size→U j { w with drawn:=w.drawn+1 })
  (hR:∀i j a v w1 w2,j<ops.size→i≠j→waits2 ops j i=false→Spared (fun b=>∃i,O i b) { w with drawn:=w.drawn+1 } w1→R j a w1→Spared (O i) w1 w2→slot i≠slot j→R j (a.put (slot i) v) w2)
  (hU:∀i j w1 w2,i≠j→waits2 ops i j=false→Spared (fun b=>∃i,O i b) { w with drawn:=w.drawn+1 } w1→U j w1→Spared (O i) w1 w2→U j w2)
  (hstep:StepOwn2 P ops slot R U O fixed reads N { w with drawn:=w.drawn+1 } 0 ops.toList)
  (hend:∀a w',a.defers=[]→a.tmps.size=N→Spared (fun b=>∃i,O i b) { w with drawn:=w.drawn+1 } w'→(∀x∈fixed,(∀k,k<ops.size→slot k≠some x.1)→a.tmps.getD x.1 undef=x.2)→(∀j,j<ops.size→R j a w')→Q .normal a w') :
  (Code.region id ops true).wp P Q a w:=by
 unfold ownOk2 at hok
 rw [List.all_eq_true] at hok
 have hops:∀(i:Nat) (o:Oper),ops[i]?=some o→o.dst=slot i∧True∧o.guard=none∧(∀e∈o.after,Region.binds .any e=true→e.on<i)∧(∀j,j<ops.size→slot i=slot j→i=j)∧(∀j,j<ops.size→∀s,slot i=some s→(reads j).contains s=true→∃e∈o.after,e.on=j∧Region.binds .any e=true):=by
  intro i o ho
  have his:i<ops.size:=(Array.getElem?_eq_some_iff.1 ho).1
  have:=hok i (List.mem_range.2 his)
  simp only [ho,Bool.and_eq_true] at this
  obtain ⟨⟨⟨⟨⟨h1,h2⟩,h3⟩,h5⟩,h6⟩,h7⟩:=this
  simp only [beq_iff_eq] at h1
  simp only [Option.isNone_iff_eq_none] at h3
  simp only [Array.all_eq_true_iff_forall_mem,Bool.or_eq_true,Bool.not_eq_true',decide_eq_true_eq] at h5
  simp only [List.all_eq_true,List.mem_range,Bool.or_eq_true,bne_iff_ne,ne_eq,beq_iff_eq] at h6
  refine ⟨h1,trivial,h3,fun e he hbd=>(h5 e he).elim (fun h=>by rw [hbd] at h;cases h) (fun h=>h),fun j hj he=>?_,fun j hj s hs hno=>?_⟩
  ·rcases h6 j hj with h | h
   ·exact absurd he h
   ·exact h
  ·rw [hs] at h7
   simp only [List.all_eq_true,List.mem_range] at h7
   have h8:=h7 j hj
   rw [hno] at h8
   simp only [Bool.not_true,Bool.false_or,Array.any_eq_true'] at h8
   obtain ⟨e,he,h9⟩:=h8
   simp only [Bool.and_eq_true,beq_iff_eq] at h9
   exact ⟨e,he,h9.1,h9.2⟩
 refine wp_region_any hm (wpAny_inv2 (OI2 ops slot R U O fixed N { w with drawn:=w.drawn+1 }) (fun i o e ho he hbd=>(hops i o ho).2.2.2.1 e he hbd) ?_ ?_ ops.size _ _ _ (by simp) (by unfold todo;exact Nat.le_trans (List.countP_le_length ..) (by simp)) ⟨ha,hN,Spared.refl _ _,fun x hx _=>hfx x hx,fun i o ho hl=>by simp [Array.getElem?_replicate] at hl;split at hl<;>simp at hl,fun j hj=>by simp [Array.getElem?_replicate] at hj;split at hj<;>simp at hj,fun j hj _=>hU0 j hj⟩)
 ·intro listed a w' i o hI hs ho hno hall
  obtain ⟨h1,h2,h3,h5,h6,h7⟩:=hops i o ho
  have his:i<ops.size:=(Array.getElem?_eq_some_iff.1 ho).1
  have hcl:∀k j,listed.getD k false=true→waits ops k j=true→listed.getD j false=true:=by
   intro k j hk' hwj
   unfold waits at hwj
   cases hok:ops[k]? with
   | none=>rw [hok] at hwj;cases hwj
   | some ok =>
    rw [hok] at hwj
    simp only [Array.any_eq_true'] at hwj
    obtain ⟨e,he,h9⟩:=hwj
    simp only [Bool.and_eq_true,beq_iff_eq] at h9
    rw [←h9.1]
    exact hI.cl k ok hok hk' e he h9.2
  have hok:=hstep.at (P:=P) ops.toList 0 i o (by simpa using ho) a w' hI.sz hI.sp (fun x hx hkf=>hI.fx x hx (fun k hk' hsk=>by
   rw [Nat.zero_add] at hkf
   cases hlk:listed.getD k false with
   | false=>rfl
   | true =>
    obtain ⟨_,_,_,_,_,h7'⟩:=hops k ops[k] (by simp [hk'])
    obtain ⟨e,he,hej,hbd⟩:=h7' i his x.1 hsk hkf
    have:=hI.cl k ops[k] (by simp [hk']) hlk e he hbd
    rw [hej,hno] at this
    cases this)) (fun e he hbd=>⟨hI.rs _ (hall e he hbd),fun j hwj=>hI.rs j (hcl e.on j (hall e he hbd) hwj)⟩) (by rw [Nat.zero_add];exact hI.us i his hno)
  rw [Nat.zero_add] at hok
  unfold wpOp
  simp only [ho,Region.wanted,h3,if_true]
  refine .inl (hok.wp fun v w'' hp=>?_)
  rw [h1]
  refine ⟨by cases slot i<;>exact hI.df,by cases slot i<;>simp [Act.put,hI.sz],hI.sp.trans (hp.1.mono fun b hb=>⟨i,hb⟩),fun x hx hnl=>?_,fun j o' ho' hl e he hbd=>?_,fun j hj=>?_,fun j hj hl=>?_⟩
  ·have hne:slot i≠some x.1:=fun e=>by
    have:=hnl i his e
    rw [show (listed.setIfInBounds i true).getD i false=true by simp [show i<listed.size by omega]] at this
    cases this
   have:=hI.fx x hx (fun k hk' hsk=>by
    have h9:=hnl k hk' hsk
    have hki:i≠k:=fun e=>hne (by rw [e];exact hsk)
    rwa [getD_set_ne false hki] at h9)
   rw [←this]
   cases hsi:slot i with
   | none=>rfl
   | some s =>
    have hne':s≠x.1:=fun e=>hne (by rw [hsi,e])
    simp [Act.put,Array.getElem?_setIfInBounds_ne hne']
  ·by_cases hei:i=e.on
   ·rw [←hei];simp [show i<listed.size by omega]
   ·rw [getD_set_ne false hei]
    by_cases hji:i=j
    ·subst hji
     rw [ho] at ho'
     cases ho'
     exact hall e he hbd
    ·rw [getD_set_ne false hji] at hl
     exact hI.cl j o' ho' hl e he hbd
  ·by_cases hji:i=j
   ·subst hji
    exact hp.2
   ·rw [getD_set_ne false hji] at hj
    have hjs:j<ops.size:=by
     rcases Nat.lt_or_ge j listed.size with h | h
     ·omega
     ·simp [Array.getElem?_eq_none h] at hj
    have hsl:slot i≠slot j:=fun e=>hji (h6 j hjs e)
    have hw1:∀k,listed.getD k false=true→waits ops k i=false:=by
     intro k hk'
     cases hq:waits ops k i with
     | false=>rfl
     | true=>have:=hcl k i hk' hq;rw [hno] at this;cases this
    have hwt:waits2 ops j i=false:=by
     unfold waits2
     rw [hw1 j hj,Bool.false_or,show ops[j]?=some ops[j] by simp [hjs]]
     cases hq:(ops[j].after.any fun e=>Region.binds .any e && waits ops e.on i) with
     | false=>simp only [hq]
     | true =>
      rw [Array.any_eq_true'] at hq
      obtain ⟨e,he,h9⟩:=hq
      simp only [Bool.and_eq_true] at h9
      have:=hw1 e.on (hI.cl j ops[j] (by simp [hjs]) hj e he h9.1)
      rw [h9.2] at this
      cases this
    exact hR i j a v _ _ hjs hji hwt hI.sp (hI.rs j hj) hp.1 hsl
  ·have hji:i≠j:=fun e=>by
    subst e
    rw [show (listed.setIfInBounds i true).getD i false=true by simp [show i<listed.size by omega]] at hl
    cases hl
   rw [getD_set_ne false hji] at hl
   have hw1:∀k,listed.getD k false=true→waits ops k j=false:=by
    intro k hk'
    cases hq:waits ops k j with
    | false=>rfl
    | true=>have:=hcl k j hk' hq;rw [hl] at this;cases this
   have hwt:waits2 ops i j=false:=by
    unfold waits2
    have h0:waits ops i j=false:=by
     unfold waits
     rw [ho]
     cases hq:(o.after.any fun e=>e.on == j && Region.binds .any e) with
     | false=>simp only [hq]
     | true =>
      rw [Array.any_eq_true'] at hq
      obtain ⟨e,he,h9⟩:=hq
      simp only [Bool.and_eq_true,beq_iff_eq] at h9
      have:=hall e he h9.2
      rw [h9.1,hl] at this
      cases this
    rw [h0,Bool.false_or,ho]
    cases hq:(o.after.any fun e=>Region.binds .any e && waits ops e.on j) with
    | false=>simp only [hq]
    | true =>
     rw [Array.any_eq_true'] at hq
     obtain ⟨e,he,h9⟩:=hq
     simp only [Bool.and_eq_true] at h9
     have:=hw1 e.on (hall e he h9.1)
     rw [h9.2] at this
     cases this
   exact hU i j _ _ hji hwt hI.sp (hI.us j hj hl) hp.1
 ·intro listed a w' hI hall
  exact hend a w' hI.df hI.sz hI.sp (fun x hx hne=>hI.fx x hx (fun k hk' e=>absurd e (hne k hk'))) (fun j hj=>hI.rs j (hall j hj))
end
end Go.Proofs.YtcegdgmbponapabGreatDoor