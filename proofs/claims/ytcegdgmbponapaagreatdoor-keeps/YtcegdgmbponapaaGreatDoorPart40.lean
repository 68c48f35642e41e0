import Derived.Test.YtcegdgmbponapaaGreatDoorPart39
set_option maxRecDepth 100000
set_option maxHeartbeats 4000000
namespace Go.Proofs.YtcegdgmbponapaaGreatDoor
open Go.RowKit
attribute [local go_sem ↓] Go.wp_at_zero Go.wp_at_succ
def qgA (G C B0:Nat) (nm _vl:ByteArray) (_pm _pt _pl:Int) (tp:ByteArray) (k:Int) (Q:World→Prop):Nat→Value→World→Prop
 | 0,v,_=>v=.pointer (some ⟨G,0,none⟩)
 | 1,v,_=>v=.pointer (some ⟨G,0,none⟩)
 | 2,v,_=>v=.pointer (some ⟨G,0,none⟩)
 | 3,v,_=>v=.pointer (some ⟨C,0,none⟩)
 | 4,v,_=>v=.pointer (some ⟨B0,3,none⟩)
 | 5,v,_=>v=.string nm
 | 6,v,_=>v=.pointer (some ⟨B0,8,none⟩)
 | 7,v,_=>v=.string tp
 | 8,v,w=>v=.int .i64 k∧Q w
 | _,_,_=>False
def qh8 (G g c P B0:Nat) (nm _vl:ByteArray) (_pm _pt _pl:Int) (tp:ByteArray) (k:Int) (V:Value→World→Prop):Nat→Value→World→Prop
 | 0,v,_=>v=.pointer (some ⟨G,0,none⟩)
 | 1,v,_=>v=.pointer (some ⟨G,0,none⟩)
 | 2,v,_=>v=.pointer (some ⟨G,3,none⟩)
 | 3,v,_=>v=.slice (some ⟨g,0,none⟩) 1 c
 | 4,v,_=>v=.int .i64 0
 | 5,v,_=>v=.pointer (some ⟨g,0,none⟩)
 | 6,v,_=>v=.pointer (some ⟨P,0,none⟩)
 | 7,v,_=>v=.pointer (some ⟨B0,3,none⟩)
 | 8,v,_=>v=.string nm
 | 9,v,_=>v=.pointer (some ⟨B0,8,none⟩)
 | 10,v,_=>v=.string tp
 | 11,v,w=>∃x,v=.tuple #[x,.int .i64 k]∧V x w
 | 12,v,w=>∃x,v=.tuple #[x,.int .i64 k]∧V x w
 | 13,v,w=>V v w
 | 14,v,_=>v=.int .i64 k
 | 15,v,w=>V v w
 | 16,v,_=>v=.int .i64 k
 | _,_,_=>False
theorem change1_ref {w:World} {L:Seat} {s:Sta} {G n key P g c:Nat} {ov:Value} (a b:Int) (nm vl:ByteArray) (pm pt pl:Int) (tp:ByteArray) (yes:Bool) (tt k:Int) (no:Prop) (R:Sta→Prop) (Q2:Nat→World→Prop) (hC:qdP w G L s n key g c P ov no R Q2)
  (HC:∀w1,Below w.heap.size w w1→Calls Tryz.prog 17 #[.pointer (some ⟨L.C,0,none⟩),.string nm,.string tp] w1 fun e w2=>e=.returned (.int .i64 k)∧(∃s',Bank w2 L s'∧R s')∧qaa (Mine L s) w1 w2)
  (HR:∀w1,qaa (Mine L s) w w1→Calls Tryz.prog 161 #[.pointer (some ⟨P,0,none⟩),.string nm,.string tp] w1 fun e w2=>∃x,e=.returned (.tuple #[x,.int .i64 k])∧C1V no k Q2 x w2∧Below w1.heap.size w1 w2) :
  Calls Tryz.prog 109 #[.pointer (some ⟨G,0,none⟩),.agg #[.int .i64 5,.int .i64 a,.int .i64 b,.string nm,.string vl,.int .i64 pm,.int .i64 pt,.int .i64 pl,.string tp,.bool yes,.int .i64 tt]] w fun e w'=>qfY w G L s n key P ov no R Q2 e w':=by
 obtain ⟨i0,hi,ti0,ti1,ti2⟩:=info_parts Tryz.infoPW
 have HCC:=hid hC
 have o1:=hC.o1
 have V1H:=hid (hC.v1 (k:=k))
 have Q1H:=hid (show ∀w w',(∃s',Bank w L s'∧R s')→qaa (fun _=>False) w w'→∃s',Bank w' L s'∧R s' from fun w w' ⟨s',h1,h2⟩ hs=>⟨s',h1.below hs.none_below,h2⟩)
 have hG:=cells_lt hC.hg
 have hgl:g<w.heap.size:=(hC.hrow.lt g rfl).2
 have HG:=hid hC.hg
 have HRW:=hid (show w.cell? ⟨g,0,none⟩=some (.pointer (some ⟨P,0,none⟩)) from hC.hrow.cellAt 0 (by decide))
 obtain ⟨Q1,hQ1⟩:∃Q1:World→Prop,Q1=fun w=>∃s',Bank w L s'∧R s':=⟨_,rfl⟩
 obtain ⟨V1,hV1⟩:∃V1,V1=C1V no k Q2:=⟨_,rfl⟩
 obtain ⟨O1,hO1⟩:∃O1,O1=Mine L s:=⟨_,rfl⟩
 have H1:=hid HC
 have H2:=hid HR
 change Hid (∀w w',(fun w=>∃s',Bank w L s'∧R s') w→qaa (fun _=>False) w w'→(fun w=>∃s',Bank w L s'∧R s') w') at Q1H
 change Hid (∀w1,Below w.heap.size w w1→Calls Tryz.prog 17 #[.pointer (some ⟨L.C,0,none⟩),.string nm,.string tp] w1 fun e w2=>e=.returned (.int .i64 k)∧(fun w=>∃s',Bank w L s'∧R s') w2∧qaa (Mine L s) w1 w2) at H1
 rw [←hQ1] at Q1H H1
 rw [←hV1] at V1H H2
 rw [←hO1] at H1 H2 o1
 have O1H:=hid o1
 have HO1:=hid hO1
 have HQ1E:=hid hQ1
 have HV1E:=hid hV1
 obtain ⟨C,hC'⟩:∃C,C=L.C:=⟨_,rfl⟩
 rw [←hC'] at HG H1
 have HC0:=hid hC'
 clear HC HR o1 hO1 hQ1 hV1 hC' hC
 go_enter Tryz.func109,Tryz.ntmps109
 go_wp2_with fail
 obtain ⟨w1,hw1⟩:∃w1,w1=w.alloc (.cells #[.int .i64 5,.int .i64 a,.int .i64 b,.string nm,.string vl,.int .i64 pm,.int .i64 pt,.int .i64 pl,.string tp,.bool yes,.int .i64 tt] 91):=⟨_,rfl⟩
 obtain ⟨B0,hB0⟩:∃B0,B0=w.heap.size:=⟨_,rfl⟩
 have hb01:Below w.heap.size w w1:=by rw [hw1];exact (Below.refl _ _).alloc nl _
 have HB1:=hid (show w1.heap[B0]?=some (.cells #[.int .i64 5,.int .i64 a,.int .i64 b,.string nm,.string vl,.int .i64 pm,.int .i64 pt,.int .i64 pl,.string tp,.bool yes,.int .i64 tt] 91) from by rw [hw1,hB0];exact alloc_at _ _)
 rw [←hw1,←hB0]
 have HB0:=hid hB0
 have hB1l:=cells_lt HB1.out
 clear hw1 hB0
 have HA:∀w':World,qaa O1 { w1 with drawn:=w1.drawn+1 } w'→w'.cell? ⟨G,0,none⟩=some (.pointer (some ⟨C,0,none⟩))∧w'.cell? ⟨B0,3,none⟩=some (.string nm)∧w'.cell? ⟨B0,8,none⟩=some (.string tp):=by
  intro w' hs
  have hs':=hs.undrew
  have hg':=hs'.heap ((hb01.block G hG).trans HG.out) (fun e=>(O1H.out G e).2.1 rfl)
  have hb':=hs'.heap HB1.out (fun e=>by have:=(O1H.out B0 e).1;have:=HB0.out;omega)
  exact ⟨cq hg' rfl,cq hb' rfl,cq hb' rfl⟩
 refine qa3 (by kernel_rfl) (fun i=>i+15) (qgA G C B0 nm vl pm pt pl tp k Q1) O1 169 9 8 [0,3] (by kernel_rfl) (by kernel_rfl) rfl rfl (fun j v w w' h hs=>by unfold qgA at h ⊢;split at h<;>first | exact h | exact ⟨h.1,Q1H.out _ _ h.2 hs⟩) (fun j v w w' hj h _=>by unfold qgA at h ⊢;split at h<;>first | exact h | exact absurd rfl hj) ?_ ?_
 ·refine ⟨?_,?_,?_,?_,?_,?_,?_,?_,?_,trivial⟩
  all_goals
   intro a0 w' hs hm0 hf hd
   obtain ⟨q0,q1,q2⟩:=HA w' hs
   simp at hf
   simp [qgA] at hd
   try (refine .inl ⟨_,w',?_,fun _=>qaa.refl _ _,sr,rfl⟩;go_simp;done)
  have hbw:Below w.heap.size w w':=hb01.trans ((hm0 rfl).undrew.none_below.mono hb01.size)
  refine .inr ⟨17,#[.pointer (some ⟨C,0,none⟩),.string nm,.string tp],by go_simp,(H1.out w' hbw).mono ?_⟩
  rintro e w2 ⟨rfl,hq,hs2⟩
  exact ⟨_,rfl,fun h=>absurd rfl h,hs2,rfl,hq⟩
 ·intro a0 w2 oo hoo hdf hsz hs hf hr
  cases hoo
  have r8:=hr 8 (by decide)
  simp [qgA] at r8
  obtain ⟨r8v,hq1⟩:=r8
  have hs12:=hs.undrew
  obtain ⟨tm,df⟩:=a0
  simp only at hdf hsz hf r8v
  subst hdf
  obtain ⟨f2,hf2,rfl⟩:=qdr tm hsz
  have e0:=(hf2 0).symm.trans (hf 0 (by decide))
  have e3:=(hf2 3).symm.trans (hf 3 (by decide))
  have er:f2 23=.int .i64 k:=r8v
  have HQ1:=hid hq1
  clear hr hf hsz r8v HA hs hq1 hf2
  have hG2:=hs12.heap ((hb01.block G hG).trans HG.out) (fun e=>(O1H.out G e).2.1 rfl)
  have g3:w2.cell? ⟨G,3,none⟩=some (.slice (some ⟨g,0,none⟩) 1 c):=cq hG2 rfl
  have g7:w2.cell? ⟨G,7,none⟩=some (.bool false):=cq hG2 rfl
  have HG2:=hid hG2
  have hB2:=hs12.heap HB1.out (fun e=>by have:=(O1H.out B0 e).1;have:=HB0.out;omega)
  have b0:w2.cell? ⟨B0,0,none⟩=some (.int .i64 5):=cq hB2 rfl
  have HB2:=hid hB2
  have hz2:=hs12.size
  have hz1:=hb01.size
  have HR2:=hid (show w2.cell? ⟨g,0,none⟩=some (.pointer (some ⟨P,0,none⟩)) from (hs12.cell (a:=⟨g,0,none⟩) (by show g<w1.heap.size;omega) (fun e=>(O1H.out g e).2.2 rfl)).trans ((hb01.cell (by exact hgl)).trans HRW.out))
  have HS02:=hid (show qaa O1 w w2 from (qaa.ofBelow hb01 nl).trans hs12)
  clear hG2 hB2 hs12
  simp only [e0,e3,er]
  clear e0 e3 er
  go_wp2_with fail
  refine wp_loop_rounds 2 ?_
  rw [rounds_succ]
  go_wp2_with fail
  have HB:∀w':World,Below w2.heap.size { w2 with drawn:=w2.drawn+1 } w'→qaa O1 w w'∧w'.cell? ⟨G,3,none⟩=some (.slice (some ⟨g,0,none⟩) 1 c)∧w'.cell? ⟨g,0,none⟩=some (.pointer (some ⟨P,0,none⟩))∧w'.cell? ⟨B0,3,none⟩=some (.string nm)∧w'.cell? ⟨B0,8,none⟩=some (.string tp):=by
   intro w' hb
   have hb2:=Below.undrew hb
   have hg':=(hb2.block G (cells_lt HG2.out)).trans HG2.out
   have hb':=(hb2.block B0 (cells_lt HB2.out)).trans HB2.out
   exact ⟨HS02.out.trans (qaa.ofBelow hb2 nl),cq hg' rfl,(hb2.cell (by show g<w2.heap.size;omega)).trans HR2.out,cq hb' rfl,cq hb' rfl⟩
  refine qax (by kernel_rfl) (fun i=>if i<12 then i+73 else if i=12 then 72 else if i=13 then 85 else if i=14 then 86 else if i=15 then 10 else 11) (qh8 G g c P B0 nm vl pm pt pl tp k V1) 169 [0,3,5,7,8,9] (by kernel_rfl) rfl rfl (fun j v w w' h hb=>by unfold qh8 at h ⊢;split at h<;>first | exact h | (obtain ⟨x,h1,h2⟩:=h;exact ⟨x,h1,V1H.out _ _ _ h2 hb⟩)|exact V1H.out _ _ _ h hb) ?_ ?_
  ·refine ⟨?_,?_,?_,?_,?_,?_,?_,?_,?_,?_,?_,?_,?_,?_,?_,?_,?_,trivial⟩
   all_goals
    intro a0 w' hb hf hd
    obtain ⟨hsw,qg,qr,q1,q2⟩:=HB w' hb
    simp at hf
    simp [qh8,Region.binds] at hd
    try (refine .inl ⟨_,w',?_,bl,rfl⟩;go_simp;done)
   ·refine .inr ⟨161,#[.pointer (some ⟨P,0,none⟩),.string nm,.string tp],by go_simp,(H2.out w' hsw).mono ?_⟩
    rintro e w3 ⟨x,rfl,hv,hb3⟩
    exact ⟨_,rfl,hb3,x,rfl,hv⟩
   ·obtain ⟨x,hx,hv⟩:=hd
    exact .inl ⟨.tuple #[x,.int .i64 k],w',by go_simp,bl,x,rfl,hv⟩
   ·obtain ⟨x,hx,hv⟩:=hd
    exact .inl ⟨x,w',by go_simp,bl,hv⟩
   ·obtain ⟨x,hx,hv⟩:=hd
    exact .inl ⟨.int .i64 k,w',by go_simp,bl,rfl⟩
   ·exact .inl ⟨a0.tmps[85]?.getD undef,w',by go_simp,bl,by first | exact hd | exact hd.1⟩
  ·intro a0 w3 hdf hsz hb hf hr
   have r10:=hr 15 (by decide)
   have r11:=hr 16 (by decide)
   simp [qh8] at r10 r11
   obtain ⟨hsw,qg,qr,q1,q2⟩:=HB w3 hb
   have hb23:=Below.undrew hb
   obtain ⟨tm,df⟩:=a0
   simp only at hdf hsz hf r10 r11
   subst hdf
   obtain ⟨f3,hf3,rfl⟩:=qdr tm hsz
   have e0:=(hf3 0).symm.trans (hf 0 (by decide))
   have e5:=(hf3 5).symm.trans (hf 5 (by decide))
   have e7:=(hf3 7).symm.trans (hf 7 (by decide))
   have e8:=(hf3 8).symm.trans (hf 8 (by decide))
   have e9:=(hf3 9).symm.trans (hf 9 (by decide))
   have e11:f3 11=.int .i64 k:=r11
   obtain ⟨x,hx⟩:∃x,x=f3 10:=⟨_,rfl⟩
   have HV:=hid (show V1 x w3 from by rw [hx];exact r10)
   have HG3:=hid ((hb23.block G (cells_lt HG2.out)).trans HG2.out)
   have k3:w3.cell? ⟨G,3,none⟩=some (.slice (some ⟨g,0,none⟩) 1 c):=cq HG3.out rfl
   have hzz:=hb23.size
   have HS03:=hid hsw
   clear hr hf hsz r11 HB hb qg q1 q2 g3 g7 b0 hsw r10 hf3
   simp only [e0,e5,e7,e8,e9,e11,←hx]
   clear e0 e5 e7 e8 e9 e11 hx
   have hx:=HV.out
   rw [HV1E.out] at hx
   obtain ⟨y,rfl⟩:∃y,x=.pointer y:=by rcases hx with ⟨_,rfl⟩|⟨X,rfl,_⟩<;>exact ⟨_,rfl⟩
   have HX:=hid hx
   clear hx
   go_wp2_with (first
    | (go_at_call 112;refine (qbv k _).mono ?_;rintro e w9 ⟨rfl,hw9⟩;obtain rfl:=hw9.symm)
    | (at_builtin;refine wpList_append_lies _ rfl (.tmp 136) (.tmp 144) 81 rfl w3.heap.size 88 i0 (.pointer none) 1 8 Tryz.underlying81 hi ti0 ti1 ti2 rfl (by decide) (.slice none 0 0) 0 [] rfl (World.ownsRow_nil _ _ _ _) ⟨w3.heap.size,0,none⟩ 1 1 [.pointer (some ⟨P,0,none⟩)] rfl rfl (World.news_of_block (cs:=#[.pointer (some ⟨P,0,none⟩)]) (t:=88) (fr:=(0,0)) (heap_alloc_new w3 _)) (by simp [Value.oneCell']) (by decide) (by unfold maxLen;omega) (by omega) (by simp<;>omega) (w3.heap.size+1) (by simp) ?_;intro g4 c4 w4 hown4 hgrow4 hat4 _;have HO4:=hid hown4;have hb34:Below w3.heap.size w3 w4:=((Below.refl w3.heap.size w3).alloc nl _).grown hgrow4 (by simp<;>omega) (fun b hb=>by cases hb);clear hown4 hgrow4 hat4)
    | (at_builtin;refine wpList_append_lies _ rfl (.tmp 146) (.tmp 148) 81 rfl w4.heap.size 88 i0 (.pointer none) 1 8 Tryz.underlying81 hi ti0 ti1 ti2 rfl (by decide) (.slice none 0 0) 0 [] rfl (World.ownsRow_nil _ _ _ _) ⟨w4.heap.size,0,none⟩ 1 1 [.pointer y] rfl rfl (World.news_of_block (cs:=#[.pointer y]) (t:=88) (fr:=(0,0)) (heap_alloc_new w4 _)) (by simp [Value.oneCell']) (by decide) (by unfold maxLen;omega) (by omega) (by simp<;>omega) (w4.heap.size+1) (by simp) ?_;intro g5 c5 w5 hown5 hgrow5 hat5 _;have hb45:Below w4.heap.size w4 w5:=((Below.refl w4.heap.size w4).alloc nl _).grown hgrow5 (by simp<;>omega) (fun b hb=>by cases hb);have hb35:Below w3.heap.size w3 w5:=hb34.trans (hb45.mono hb34.size);have hG5:Gm w5 G C n key (.slice (some ⟨g,0,none⟩) 1 c) s.p.done ov:=(hb35.block G (cells_lt HG3.out)).trans HG3.out;have k53:w5.cell? ⟨G,3,none⟩=some (.slice (some ⟨g,0,none⟩) 1 c):=(cq hG5 rfl);have f53:w5.frozen? ⟨G,3,none⟩=false:=qam hG5;have HO5:=hid hown5;have hsG:qaa (fun b=>b=G) w5 (w5.setCell ⟨G,3,none⟩ (.slice (some ⟨g4,0,none⟩) 1 c4)):=qaa.setCell (own:=fun b=>b=G) (p:=⟨G,3,none⟩) sr rfl _;have HGS:=hid (show Gm (w5.setCell ⟨G,3,none⟩ (.slice (some ⟨g4,0,none⟩) 1 c4)) G C n key (.slice (some ⟨g4,0,none⟩) 1 c4) s.p.done ov from qan _ hG5);have HSG:=hid hsG;have n50:(w5.setCell ⟨G,3,none⟩ (.slice (some ⟨g4,0,none⟩) 1 c4)).cell? ⟨g5,0,none⟩=some (.pointer y):=(hsG.cell (a:=⟨g5,0,none⟩) (hown5.lt g5 rfl).2 (fun e=>qaz hown5 hG5 (by decide) (by rw [←e];rfl))).trans (hown5.cellAt 0 (by decide));have HG5:=hid hG5;clear hown5 hgrow5 hat5 hG5 hsG k3)
    | fail)
   obtain ⟨s',hbk2,hrs'⟩:∃s',Bank w2 L s'∧R s':=by have:=HQ1.out;rw [HQ1E.out] at this;exact this
   obtain ⟨hgs,hbk5,HFIN⟩:=HCC.out.fin hbk2 hrs' hb23 hb35 (by have h:=HS03.out;rw [HO1.out] at h;exact h) (by have h:=HG5.out;rw [HC0.out] at h;exact h) HSG.out (by have h:=HGS.out;rw [HC0.out] at h;exact h)
   have HBB:=hid (show Bank _ L s'∧R s' from ⟨hbk5,hrs'⟩)
   have HGG:=hid hgs
   have HFF:=hid HFIN
   clear hbk2 hrs' hgs hbk5 HFIN
   rcases HX.out with ⟨hno,hy⟩|⟨X,hy,rfl,hq2⟩<;>cases hy
   ·rw [rounds_succ]
    go_wp2_with fail
    refine (HGG.out.done_any HBB.out.1).mono ?_
    rintro e w6 ⟨rfl,hg6,hs6⟩
    have HE:=hid (HFF.out g4 c4 w6 none hg6 hs6 (qaf (qae HO4.out hb45 nl) (by omega)) hno)
    rw [HCC.out.hN hno s' HBB.out.2]
    clear hg6 hs6 HFF HGG
    go_wp2_with fail
    go_ret
    exact ⟨rfl,HE.out⟩
   ·rw [rounds_succ]
    go_wp2_with fail
    refine (HGG.out.changes_any HBB.out.1 (some ⟨g5,0,none⟩) 1 c5 (HCC.out.hR s' HBB.out.2 hq2.1)).mono ?_
    rintro e w6 ⟨rfl,hg6,hs6⟩
    have HE:=hid (HFF.out g5 c5 w6 (some X) hg6 hs6 (qaf HO5.out (by have:=hb34.size;omega)) ⟨_,hb35,hq2.2⟩)
    clear hg6 hs6 HFF HGG
    go_wp2_with fail
    go_ret
    exact ⟨rfl,HE.out⟩
section
variable {w:World} {P n key:Nat} {dn:Nat→Bool} {dv:Value} {xs:List RObj}
theorem Wd.refreshing_none (h:Wd w P n key dn dv xs) (nm tape:ByteArray) (hno:∀j,j<xs.length→(xs[j]!).ob.name≠nm) :
  Calls Tryz.prog 161 #[.pointer (some ⟨P,0,none⟩),.string nm,.string tape] w fun e w'=>e=.returned (.tuple #[.pointer none,.int .i64 9])∧w'=w:=by
 have HF:=hid (h.find_any nm (-1) (fun _=>rfl) (fun k hk e _=>absurd e (hno k hk)))
 clear h hno
 go_enter Tryz.func161,Tryz.ntmps161
 go_wp2_with fail
 refine HF.out.mono ?_
 rintro e w2 ⟨rfl,hw2⟩
 obtain rfl:=hw2.symm
 go_wp2_with fail
 go_ret2
 exact ⟨rfl,rfl⟩
theorem Wd.refreshing_mode (h:Wd w P n key dn dv xs) (nm tape:ByteArray) (k:Nat) (hk:k<xs.length) (hnm:(xs[k]!).ob.name=nm) (hbef:∀j,j<xs.length→(xs[j]!).ob.name=nm→j=k) (hm1:(xs[k]!).ob.mode≠0) :
  Calls Tryz.prog 161 #[.pointer (some ⟨P,0,none⟩),.string nm,.string tape] w fun e w'=>e=.returned (.tuple #[.pointer none,.int .i64 11])∧Below w.heap.size w w':=by
 have HF:=hid (h.find_any nm k (fun hno=>absurd hnm (hno k hk)) (fun j hj e _=>by rw [hbef j hj e]))
 obtain ⟨oa,oc,h1,hrd⟩:=h.hp
 have hPl:=cells_lt h1
 have hn1:=h.n1
 have hn8:=h.n8
 have hl10:=h.len
 have c3:w.cell? ⟨P,3,none⟩=some (.slice oa xs.length oc):=cq h1 rfl
 obtain ⟨b,oo,rfl,hblt,_⟩:=hrd.pos (by rw [qar];omega)
 obtain ⟨_,k0,k1,k2,k3,k4,k5,k6⟩:=qbf hrd k hk (xs[k]!) (getElem!_pos xs k hk)
 have HP:=hid h1
 have HW:=hid h
 obtain ⟨x,hx⟩:∃x,x=xs[k]! := ⟨_,rfl⟩
 have HXE:=hid hx
 rw [←hx] at k0 k1 k2 k3 k4 k5 k6 hm1
 obtain ⟨m,hm⟩:∃m,m=xs.length:=⟨_,rfl⟩
 have hkm:(k:Int)<(m:Int):=by omega
 have hk10:k<10:=by omega
 rw [←hm] at c3 hl10
 have hal:=(Below.refl w.heap.size w).alloc nl (.cells #[.string x.ob.name,.int .i64 x.ob.mode,.int .i64 x.ob.t,.int .i64 x.ob.l,.int .i64 x.ob.size,.int .i64 x.ob.epoch,.slice x.sa n x.sc] 198)
 have hm1':((x.ob.mode:Int) == 0)=false:=beq_eq_false_iff_ne.2 (by omega)
 have hm2:¬(x.ob.mode:Int)=0:=by omega
 clear h h1 hrd hbef hnm hm hx
 try clear hok
 go_enter Tryz.func161,Tryz.ntmps161
 go_wp2_with fail
 refine HF.out.mono ?_
 rintro e w2 ⟨rfl,hw2⟩
 obtain rfl:=hw2.symm
 clear HF
 go_wp2_with fail
 go_ret2
 exact ⟨rfl,hal⟩
theorem Wd.refreshing_full (h:Wd w P n key dn dv xs) (nm tape:ByteArray) (k:Nat) (hk:k<xs.length) (hnm:(xs[k]!).ob.name=nm) (hbef:∀j,j<xs.length→(xs[j]!).ob.name=nm→j=k) (hok:ObOk n (xs[k]!).ob) (hm0:(xs[k]!).ob.mode=0) (he1:100≤(xs[k]!).ob.epoch) :
  Calls Tryz.prog 161 #[.pointer (some ⟨P,0,none⟩),.string nm,.string tape] w fun e w'=>e=.returned (.tuple #[.pointer none,.int .i64 6])∧Below w.heap.size w w':=by
 have HF:=hid (h.find_any nm k (fun hno=>absurd hnm (hno k hk)) (fun j hj e _=>by rw [hbef j hj e]))
 obtain ⟨oa,oc,h1,hrd⟩:=h.hp
 have hPl:=cells_lt h1
 have hn1:=h.n1
 have hn8:=h.n8
 have hl10:=h.len
 have c3:w.cell? ⟨P,3,none⟩=some (.slice oa xs.length oc):=cq h1 rfl
 obtain ⟨b,oo,rfl,hblt,_⟩:=hrd.pos (by rw [qar];omega)
 obtain ⟨_,k0,k1,k2,k3,k4,k5,k6⟩:=qbf hrd k hk (xs[k]!) (getElem!_pos xs k hk)
 have HP:=hid h1
 have HW:=hid h
 obtain ⟨x,hx⟩:∃x,x=xs[k]! := ⟨_,rfl⟩
 have HXE:=hid hx
 rw [←hx] at k0 k1 k2 k3 k4 k5 k6 hok hm0 he1
 obtain ⟨m,hm⟩:∃m,m=xs.length:=⟨_,rfl⟩
 have hkm:(k:Int)<(m:Int):=by omega
 have hk10:k<10:=by omega
 rw [←hm] at c3 hl10
 have hal:=(Below.refl w.heap.size w).alloc nl (.cells #[.string x.ob.name,.int .i64 x.ob.mode,.int .i64 x.ob.t,.int .i64 x.ob.l,.int .i64 x.ob.size,.int .i64 x.ob.epoch,.slice x.sa n x.sc] 198)
 have hm0':((x.ob.mode:Int) == 0)=true:=by rw [hm0];rfl
 have he:=hok.e
 have hz:=hok.z
 have HM0:=hid hm0
 have HOK:=hid hok
 clear hm0
 have he2:(100:Int)≤(x.ob.epoch:Int):=by omega
 clear h h1 hrd hbef hnm hm hx
 try clear hok
 go_enter Tryz.func161,Tryz.ntmps161
 go_wp2_with fail
 refine HF.out.mono ?_
 rintro e w2 ⟨rfl,hw2⟩
 obtain rfl:=hw2.symm
 clear HF
 go_wp2_with fail
 go_ret2
 exact ⟨rfl,hal⟩
theorem Wd.refreshing_tape (h:Wd w P n key dn dv xs) (nm tape:ByteArray) (k:Nat) (hk:k<xs.length) (hnm:(xs[k]!).ob.name=nm) (hbef:∀j,j<xs.length→(xs[j]!).ob.name=nm→j=k) (hok:ObOk n (xs[k]!).ob) (hm0:(xs[k]!).ob.mode=0) (he1:(xs[k]!).ob.epoch<100) (htp:tape.size<Cof.tsize (xs[k]!).ob.mode (xs[k]!).ob.t*Cof.ngroups (xs[k]!).ob.mode (xs[k]!).ob.t (xs[k]!).ob.l (xs[k]!).ob.size) :
  Calls Tryz.prog 161 #[.pointer (some ⟨P,0,none⟩),.string nm,.string tape] w fun e w'=>e=.returned (.tuple #[.pointer none,.int .i64 7])∧Below w.heap.size w w':=by
 have HF:=hid (h.find_any nm k (fun hno=>absurd hnm (hno k hk)) (fun j hj e _=>by rw [hbef j hj e]))
 obtain ⟨oa,oc,h1,hrd⟩:=h.hp
 have hPl:=cells_lt h1
 have hn1:=h.n1
 have hn8:=h.n8
 have hl10:=h.len
 have c3:w.cell? ⟨P,3,none⟩=some (.slice oa xs.length oc):=cq h1 rfl
 obtain ⟨b,oo,rfl,hblt,_⟩:=hrd.pos (by rw [qar];omega)
 obtain ⟨_,k0,k1,k2,k3,k4,k5,k6⟩:=qbf hrd k hk (xs[k]!) (getElem!_pos xs k hk)
 have HP:=hid h1
 have HW:=hid h
 obtain ⟨x,hx⟩:∃x,x=xs[k]! := ⟨_,rfl⟩
 have HXE:=hid hx
 rw [←hx] at k0 k1 k2 k3 k4 k5 k6 hok hm0 he1 htp
 obtain ⟨m,hm⟩:∃m,m=xs.length:=⟨_,rfl⟩
 have hkm:(k:Int)<(m:Int):=by omega
 have hk10:k<10:=by omega
 rw [←hm] at c3 hl10
 have hal:=(Below.refl w.heap.size w).alloc nl (.cells #[.string x.ob.name,.int .i64 x.ob.mode,.int .i64 x.ob.t,.int .i64 x.ob.l,.int .i64 x.ob.size,.int .i64 x.ob.epoch,.slice x.sa n x.sc] 198)
 have hm0':((x.ob.mode:Int) == 0)=true:=by rw [hm0];rfl
 have he:=hok.e
 have hz:=hok.z
 have HM0:=hid hm0
 have HOK:=hid hok
 clear hm0
 have he2:¬(100:Int)≤(x.ob.epoch:Int):=by omega
 have HTP:=hid (fun w'=>qca x.ob.mode x.ob.t x.ob.l n x.ob.size w' hok.plan hok.z)
 obtain ⟨T,hT⟩:∃T,T=Cof.tsize x.ob.mode x.ob.t*Cof.ngroups x.ob.mode x.ob.t x.ob.l x.ob.size:=⟨_,rfl⟩
 rw [←hT] at HTP htp
 have htp':(tape.size:Int)<(T:Int):=by omega
 clear hT
 clear h h1 hrd hbef hnm hm hx
 try clear hok
 go_enter Tryz.func161,Tryz.ntmps161
 go_wp2_with fail
 refine HF.out.mono ?_
 rintro e w2 ⟨rfl,hw2⟩
 obtain rfl:=hw2.symm
 clear HF
 go_wp2_with fail
 refine (HTP.out _).mono ?_
 rintro e w3 ⟨rfl,hb3⟩
 have hb03:=hal.trans (hb3.mono hal.size)
 go_wp2_with fail
 go_ret2
 exact ⟨rfl,hb03⟩
theorem Wd.refreshing_down (h:Wd w P n key dn dv xs) (nm tape:ByteArray) (k:Nat) (hk:k<xs.length) (hnm:(xs[k]!).ob.name=nm) (hbef:∀j,j<xs.length→(xs[j]!).ob.name=nm→j=k) (hok:ObOk n (xs[k]!).ob) (hm0:(xs[k]!).ob.mode=0) (he1:(xs[k]!).ob.epoch<100) (htp:Cof.tsize (xs[k]!).ob.mode (xs[k]!).ob.t*Cof.ngroups (xs[k]!).ob.mode (xs[k]!).ob.t (xs[k]!).ob.l (xs[k]!).ob.size≤tape.size) (_htm:tape.size≤9223372036854775807) (hd:∃i,i<n∧dn i=true) :
  Calls Tryz.prog 161 #[.pointer (some ⟨P,0,none⟩),.string nm,.string tape] w fun e w'=>e=.returned (.tuple #[.pointer none,.int .i64 8])∧Below w.heap.size w w':=by
 have HF:=hid (h.find_any nm k (fun hno=>absurd hnm (hno k hk)) (fun j hj e _=>by rw [hbef j hj e]))
 obtain ⟨oa,oc,h1,hrd⟩:=h.hp
 have hPl:=cells_lt h1
 have hn1:=h.n1
 have hn8:=h.n8
 have hl10:=h.len
 have c3:w.cell? ⟨P,3,none⟩=some (.slice oa xs.length oc):=cq h1 rfl
 obtain ⟨b,oo,rfl,hblt,_⟩:=hrd.pos (by rw [qar];omega)
 obtain ⟨_,k0,k1,k2,k3,k4,k5,k6⟩:=qbf hrd k hk (xs[k]!) (getElem!_pos xs k hk)
 have HP:=hid h1
 have HW:=hid h
 obtain ⟨x,hx⟩:∃x,x=xs[k]! := ⟨_,rfl⟩
 have HXE:=hid hx
 rw [←hx] at k0 k1 k2 k3 k4 k5 k6 hok hm0 he1 htp
 obtain ⟨m,hm⟩:∃m,m=xs.length:=⟨_,rfl⟩
 have hkm:(k:Int)<(m:Int):=by omega
 have hk10:k<10:=by omega
 rw [←hm] at c3 hl10
 have hal:=(Below.refl w.heap.size w).alloc nl (.cells #[.string x.ob.name,.int .i64 x.ob.mode,.int .i64 x.ob.t,.int .i64 x.ob.l,.int .i64 x.ob.size,.int .i64 x.ob.epoch,.slice x.sa n x.sc] 198)
 have hm0':((x.ob.mode:Int) == 0)=true:=by rw [hm0];rfl
 have he:=hok.e
 have hz:=hok.z
 have HM0:=hid hm0
 have HOK:=hid hok
 clear hm0
 have he2:¬(100:Int)≤(x.ob.epoch:Int):=by omega
 have HTP:=hid (fun w'=>qca x.ob.mode x.ob.t x.ob.l n x.ob.size w' hok.plan hok.z)
 obtain ⟨T,hT⟩:∃T,T=Cof.tsize x.ob.mode x.ob.t*Cof.ngroups x.ob.mode x.ob.t x.ob.l x.ob.size:=⟨_,rfl⟩
 rw [←hT] at HTP htp
 have htp':¬(tape.size:Int)<(T:Int):=by omega
 have HUP:=hid (fun w' (hb:Below w.heap.size w w')=>(HW.out.below hb nl).allUp_any false (fun _ _ _=>rfl) (fun hall=>by obtain ⟨i,hi,e⟩:=hd;rw [hall i hi] at e;cases e))
 clear hT hd
 clear h h1 hrd hbef hnm hm hx
 try clear hok
 go_enter Tryz.func161,Tryz.ntmps161
 go_wp2_with fail
 refine HF.out.mono ?_
 rintro e w2 ⟨rfl,hw2⟩
 obtain rfl:=hw2.symm
 clear HF
 go_wp2_with fail
 refine (HTP.out _).mono ?_
 rintro e w3 ⟨rfl,hb3⟩
 have hb03:=hal.trans (hb3.mono hal.size)
 go_wp2_with fail
 refine (HUP.out w3 hb03).mono ?_
 rintro e w5 ⟨rfl,hw5⟩
 obtain rfl:=hw5.symm
 go_wp2_with fail
 go_ret2
 exact ⟨rfl,hb03⟩
end
theorem CpJ.shards_all {w w0 w':World} {P X n key B:Nat} {dn:Nat→Bool} {dv0 dv:Value} {xs:List RObj} {ov:Value} {ys:List RObj} (h:CpJ w w0 X n key B dn dv xs xs.length ov ys) (h0:Wd w0 P n key dn dv0 xs) (k:Nat) (hk:k<xs.length) (b2 c2:Nat) (hsa:Value.slice (ys[k]!).sa n (ys[k]!).sc=.slice (some ⟨b2,0,none⟩) n c2)
  (hsp:qaa (fun b=>b=b2) w w') (new:List ByteArray) (hnl:new.length=n) (hrow:w'.ownsRow B 9 1 (.slice (some ⟨b2,0,none⟩) n c2) n (new.map .string)):Wd w' X n key dn dv (ys.set k ⟨(ys[k]!).ob,(ys[k]!).sa,(ys[k]!).sc,new⟩):=by
 have hW:=h.wd h0
 have hl:=h.len
 have hsk:=h.shs k hk
 have hst:∃cs fz,w.heap[b2]?=some (.cells cs 9 fz):=by
  rcases hsk.2 with ⟨h8,_⟩|⟨g,cap,cur,h8,_,h4,_⟩
  ·rw [hsa] at h8;cases h8
  ·rw [hsa] at h8
   cases h8
   exact ⟨_,_,h4⟩
 obtain ⟨cs,fz,hb2⟩:=hst
 have keep:∀{e:TypeId} {b0 size m:Nat} {v:Value} {l:List Value},e≠9→w.ownsRow b0 e size v m l→w'.ownsRow b0 e size v m l:=fun h1 ho=>qab ho hsp (fun b hb e=>by rw [e] at hb;exact qaz ho hb2 h1 hb)
 obtain ⟨ov1,h1,h2⟩:=hW.obj
 refine ⟨⟨ov1,hsp.heap h1 (fun e=>by rw [e,hb2] at h1;cases h1),?_⟩,keep (by decide) hW.down,fun x hx=>?_,hW.n1,hW.n8,by rw [List.length_set];exact hW.len,hW.hk⟩
 ·rw [List.length_set,qfQ n ys k ⟨(ys[k]!).ob,(ys[k]!).sa,(ys[k]!).sc,new⟩ (by rw [hl];exact hk) rfl]
  exact keep (by decide) h2
 ·obtain ⟨j,hj,rfl⟩:=List.getElem_of_mem hx
  have hj':j<xs.length:=by rw [List.length_set] at hj;rw [←hl];exact hj
  have hjy:j<ys.length:=by rw [hl];exact hj'
  rw [List.getElem_set]
  have hlen:∀q,q<xs.length→(ys[q]!).sh.length=n:=fun q hq=>(hW.shs (ys[q]!) (by rw [getElem!_pos ys q (by rw [hl];exact hq)];exact List.getElem_mem _)).1
  split
  ·rename_i e
   subst e
   refine ⟨hnl,?_⟩
   show w'.ownsRow 0 9 1 (.slice (ys[k]!).sa n (ys[k]!).sc) n (new.map .string)
   rw [hsa]
   exact qaf hrow (Nat.zero_le _)
  ·rename_i hne
   have hs:=qaf (h.shs j hj') (Nat.zero_le _)
   have hln:=hlen j hj'
   rw [getElem!_pos ys j hjy] at hs hln
   refine ⟨hln,qab hs hsp (fun b hbb e=>?_)⟩
   rw [e] at hbb
   have hkb:(Value.slice (ys[k]!).sa n (ys[k]!).sc).ownBlock=some b2:=by rw [hsa];rfl
   rw [←getElem!_pos ys j hjy] at hbb
   rcases Nat.lt_or_gt_of_ne hne with h5 | h5
   ·exact h.dis k j h5 hj' b2 hkb hbb
   ·exact h.dis j k h5 hk b2 hbb hkb
theorem qjq (n:Nat) (zs:List RObj) (k:Nat) (z:RObj) (hk:k<zs.length):qat n (zs.set k z)=(qat n zs).take (k*7)++z.cells n++(qat n zs).drop (k*7+7):=by
 have e1:zs=zs.take k++(zs[k] :: zs.drop (k+1)):=by rw [List.getElem_cons_drop,List.take_append_drop]
 have e2:zs.set k z=zs.take k++(z :: zs.drop (k+1)):=by rw [List.set_eq_take_append_cons_drop,if_pos hk]
 have e3:qat n zs=qat n (zs.take k)++((zs[k]).cells n++qat n (zs.drop (k+1))):=by
  have e5:qat n (zs.take k++(zs[k] :: zs.drop (k+1)))=qat n (zs.take k)++((zs[k]).cells n++qat n (zs.drop (k+1))):=by simp only [qat,List.flatMap_append,List.flatMap_cons]
  rw [←e1] at e5
  exact e5
 have e4:(qat n (zs.take k)).length=k*7:=by rw [qar,List.length_take,Nat.min_eq_left (by omega)]
 have e6:(qat n zs).drop (k*7+7)=qat n (zs.drop (k+1)):=by
  rw [e3,List.drop_append,e4,List.drop_of_length_le (l:=qat n (zs.take k)) (by rw [e4];omega),List.nil_append]
  have e5:k*7+7-k*7=7:=by omega
  rw [e5,List.drop_left' (by rfl)]
 have e7:(qat n zs).take (k*7)=qat n (zs.take k):=by rw [e3,List.take_left' e4]
 rw [e2,e6,e7]
 simp only [qat,List.flatMap_append,List.flatMap_cons,List.append_assoc]
theorem Wd.ob_set {w:World} {P n key:Nat} {dn:Nat→Bool} {dv:Value} {zs:List RObj} (h:Wd w P n key dn dv zs) (k:Nat) (hk:k<zs.length) (o2:Ob) :
  ∃(og oc:Nat) (old:Array Value),w.heap[P]?=some (.cells (qci n key dv (.slice (some ⟨og,0,none⟩) zs.length oc)) 130)∧w.heap[og]?=some (.cells old 198 (0,0))∧k*7+6≤old.size ∧
   Wd (w.setRow og (old.toList.take (k*7)++[Value.string o2.name,.int .i64 o2.mode,.int .i64 o2.t,.int .i64 o2.l,.int .i64 o2.size,.int .i64 o2.epoch]++old.toList.drop (k*7+6)).toArray) P n key dn dv (zs.set k ⟨o2,(zs[k]!).sa,(zs[k]!).sc,(zs[k]!).sh⟩)∧(∀B,w.ownsRow B 198 7 (.slice (some ⟨og,0,none⟩) zs.length oc) zs.length (qat n zs)→B≤og):=by
 obtain ⟨ov,h1,h2⟩:=h.obj
 obtain ⟨og,oc,rfl,_,_⟩:=h2.form (by omega)
 obtain ⟨e1,e2⟩:=h2
 rcases e2 with ⟨h8,_⟩|⟨g,cap,cur,hv,h3,h4,h5,h6,h7,h8⟩
 ·cases h8
 ·cases hv
  have hkn:k*7+7≤zs.length*7:=by omega
  have hlt:k*7+6<cur.size:=by omega
  refine ⟨og,oc,cur,h1,h4,by omega,?_,fun B hB=>(hB.lt og rfl).1⟩
  have hsix:cur.toList[k*7+6]'(by simpa using hlt)=.slice (zs[k]!).sa n (zs[k]!).sc:=by
   have e5:(qat n zs)[k*7+6]?=some (.slice (zs[k]).sa n (zs[k]).sc):=by rw [qfD n zs k 6 hk (by decide)];rfl
   rw [←h8,List.getElem?_take_of_lt (by omega),List.getElem?_eq_getElem (by simpa using hlt)] at e5
   rw [getElem!_pos zs k hk]
   exact Option.some.inj e5
  have edrop:cur.toList.drop (k*7+6)=.slice (zs[k]!).sa n (zs[k]!).sc :: cur.toList.drop (k*7+7):=by
   rw [List.drop_eq_getElem_cons (by simpa using hlt),hsix]
  obtain ⟨cells,hcells⟩:∃cells:List Value,cells=cur.toList.take (k*7)++[Value.string o2.name,.int .i64 o2.mode,.int .i64 o2.t,.int .i64 o2.l,.int .i64 o2.size,.int .i64 o2.epoch]++cur.toList.drop (k*7+6):=⟨_,rfl⟩
  have hcl:cells.length=cur.size:=by rw [hcells];simp;omega
  have hcr:cells.take (zs.length*7)=qat n (zs.set k ⟨o2,(zs[k]!).sa,(zs[k]!).sc,(zs[k]!).sh⟩):=by
   rw [qjq n zs k _ hk,hcells,edrop,←h8]
   show _=_++([Value.string o2.name,.int .i64 o2.mode,.int .i64 o2.t,.int .i64 o2.l,.int .i64 o2.size,.int .i64 o2.epoch,.slice (zs[k]!).sa n (zs[k]!).sc]:List Value)++_
   have e9:∀(A D:List Value) (a b c d e f s:Value),A++[a,b,c,d,e,f]++(s :: D)=A++[a,b,c,d,e,f,s]++D:=by intros;simp
   rw [e9]
   simp only [List.take_append,List.length_append,List.length_take,Array.length_toList]
   have e6:min (k*7) cur.size=k*7:=by omega
   rw [e6,List.take_of_length_le (l:=List.take (k*7) cur.toList) (by simp;omega),List.take_of_length_le (l:=[_,_,_,_,_,_,_]) (by simp;omega),List.take_take,Nat.min_eq_left (by omega),List.drop_take]
   congr 2
  rw [←hcells]
  have hsp:=qb8 w og cells.toArray
  have keep:∀{e:TypeId} {b0 size m:Nat} {v:Value} {l:List Value},e≠198→w.ownsRow b0 e size v m l→(w.setRow og cells.toArray).ownsRow b0 e size v m l:=fun h1 ho=>qab ho hsp (fun b hb e=>by rw [e] at hb;exact qaz ho h4 h1 hb)
  refine ⟨⟨_,hsp.heap h1 (fun e=>by rw [e,h4] at h1;cases h1),?_⟩,keep (by decide) h.down,fun x hx=>?_,h.n1,h.n8,by rw [List.length_set];exact h.len,h.hk⟩
  ·rw [List.length_set]
   refine ⟨by rw [qar,List.length_set],.inr ⟨og,oc,_,rfl,h3,setRow_heap w og cur _ _ _ h4,h5,h6,by simp [hcl];exact h7,?_⟩⟩
   rw [←hcr]
  ·obtain ⟨j,hj,rfl⟩:=List.getElem_of_mem hx
   rw [List.length_set] at hj
   rw [List.getElem_set]
   have hq:=h.shs (zs[j]) (List.getElem_mem _)
   split
   ·rename_i e
    subst e
    rw [getElem!_pos zs k hk]
    exact ⟨hq.1,keep (by decide) hq.2⟩
   ·exact ⟨hq.1,keep (by decide) hq.2⟩
theorem qkj (t:Array Value) (h:t.size=140):∃f:Nat→Value,(∀k,t.getD k undef=f k)∧t=#[f 0,f 1,f 2,f 3,f 4,f 5,f 6,f 7,f 8,f 9,f 10,f 11,f 12,f 13,f 14,f 15,f 16,f 17,f 18,f 19,f 20,f 21,f 22,f 23,f 24,f 25,f 26,f 27,f 28,f 29,f 30,f 31,f 32,f 33,f 34,f 35,f 36,f 37,f 38,f 39,f 40,f 41,f 42,f 43,f 44,f 45,f 46,f 47,f 48,f 49,f 50,f 51,f 52,f 53,f 54,f 55,f 56,f 57,f 58,f 59,f 60,f 61,f 62,f 63,f 64,f 65,f 66,f 67,f 68,f 69,f 70,f 71,f 72,f 73,f 74,f 75,f 76,f 77,f 78,f 79,f 80,f 81,f 82,f 83,f 84,f 85,f 86,f 87,f 88,f 89,f 90,f 91,f 92,f 93,f 94,f 95,f 96,f 97,f 98,f 99,f 100,f 101,f 102,f 103,f 104,f 105,f 106,f 107,f 108,f 109,f 110,f 111,f 112,f 113,f 114,f 115,f 116,f 117,f 118,f 119,f 120,f 121,f 122,f 123,f 124,f 125,f 126,f 127,f 128,f 129,f 130,f 131,f 132,f 133,f 134,f 135,f 136,f 137,f 138,f 139]:=⟨fun k=>t.getD k undef,fun _=>rfl,qco t 140 h⟩
def K28:List Nat:=[0,1,2,3,4,5,6,7,8,9,10,11,12,13,14,15,16,17,18,19,20,21,22,23,24,25,26,27,28,29,30,31,32,33,34,35,36,37,38,39,40,41,42,43,44,45,46,47,48,49,50,51,52,53,54,55,56,57,58,59,60,61,62,63,64,65,66,67,68,69,70,71,72,73,74,75,76,77,78,79,80,81,82,83,84,85,86,87,88,89,90,91,92,93,94,95,96,97,98,99,100,115,116,117,118,119,120,121,122,123,124,125,126,127,128,129,130,131,132,133,134,135,136,137,138,139]
theorem qlX:∀k,k<140→(k<101∨115≤k)→k∈K28:=by decide +kernel
theorem qea (k:Nat) (h:k<140) (h2:k<101∨101+14≤k):k∈K28:=qlX k h h2
theorem qlc (f:Nat→Value) (v0 v1 v2 v3 v4 v5 v6 v7 v8 v9 v10 v11 v12 v13 v14 v15 v16 v17 v18 v19 v20 v21 v22 v23 v24 v25 v26 v27 v28 v29 v30 v31 v32 v33 v34 v35 v36 v37 v38 v39 v40 v41 v42 v43 v44 v45 v46 v47 v48 v49 v50 v51 v52 v53 v54 v55 v56 v57 v58 v59 v60 v61 v62 v63 v64 v65 v66 v67 v68 v69 v70 v71 v72 v73 v74 v75 v76 v77 v78 v79 v80 v81 v82 v83 v84 v85 v86 v87 v88 v89 v90 v91 v92 v93 v94 v95 v96 v97 v98 v99 v100 v101 v102 v103 v104 v105 v106 v107 v108 v109 v110 v111 v112 v113 v114 v115 v116 v117 v118 v119 v120 v121 v122 v123 v124 v125 v126 v127 v128 v129 v130 v131 v132 v133 v134 v135 v136 v137 v138 v139:Value):qbQ #[v0,v1,v2,v3,v4,v5,v6,v7,v8,v9,v10,v11,v12,v13,v14,v15,v16,v17,v18,v19,v20,v21,v22,v23,v24,v25,v26,v27,v28,v29,v30,v31,v32,v33,v34,v35,v36,v37,v38,v39,v40,v41,v42,v43,v44,v45,v46,v47,v48,v49,v50,v51,v52,v53,v54,v55,v56,v57,v58,v59,v60,v61,v62,v63,v64,v65,v66,v67,v68,v69,v70,v71,v72,v73,v74,v75,v76,v77,v78,v79,v80,v81,v82,v83,v84,v85,v86,v87,v88,v89,v90,v91,v92,v93,v94,v95,v96,v97,v98,v99,v100,v101,v102,v103,v104,v105,v106,v107,v108,v109,v110,v111,v112,v113,v114,v115,v116,v117,v118,v119,v120,v121,v122,v123,v124,v125,v126,v127,v128,v129,v130,v131,v132,v133,v134,v135,v136,v137,v138,v139] f 101 14=#[v0,v1,v2,v3,v4,v5,v6,v7,v8,v9,v10,v11,v12,v13,v14,v15,v16,v17,v18,v19,v20,v21,v22,v23,v24,v25,v26,v27,v28,v29,v30,v31,v32,v33,v34,v35,v36,v37,v38,v39,v40,v41,v42,v43,v44,v45,v46,v47,v48,v49,v50,v51,v52,v53,v54,v55,v56,v57,v58,v59,v60,v61,v62,v63,v64,v65,v66,v67,v68,v69,v70,v71,v72,v73,v74,v75,v76,v77,v78,v79,v80,v81,v82,v83,v84,v85,v86,v87,v88,v89,v90,v91,v92,v93,v94,v95,v96,v97,v98,v99,v100,f 101,f 102,f 103,f 104,f 105,f 106,f 107,f 108,f 109,f 110,f 111,f 112,f 113,f 114,v115,v116,v117,v118,v119,v120,v121,v122,v123,v124,v125,v126,v127,v128,v129,v130,v131,v132,v133,v134,v135,v136,v137,v138,v139]:=by kernel_rfl
def rfA (P Y:Nat) (mode t l n z:Nat) (tape:ByteArray) (base:Nat) (L:List Value):Nat→Value→World→Prop
 | 0,v,_=>v=.pointer (some ⟨Y,0,none⟩)
 | 1,v,_=>v=.pointer (some ⟨Y,4,none⟩)
 | 2,v,_=>v=.int .i64 z
 | 3,v,w=>∃g,v=.slice (some ⟨g,0,none⟩) z z∧Rd w (some ⟨g,0,none⟩) (bs (List.replicate z 0))
 | 4,v,_=>v=.string ⟨(List.replicate z (0:UInt8)).toArray⟩
 | 5,v,_=>v=.pointer (some ⟨Y,0,none⟩)
 | 6,v,_=>v=.pointer (some ⟨Y,1,none⟩)
 | 7,v,_=>v=.agg #[.int .i64 mode,.int .i64 t,.int .i64 l]
 | 8,v,_=>v=.pointer (some ⟨P,0,none⟩)
 | 9,v,_=>v=.pointer (some ⟨P,0,none⟩)
 | 10,v,_=>v=.pointer (some ⟨P,0,none⟩)
 | 11,v,_=>v=.int .i64 n
 | 12,v,_=>v=.string tape
 | 13,v,w=>w.ownsRow base 9 1 v n L
 | 14,v,w=>w.ownsRow base 9 1 v n L
 | _,_,_=>False
theorem qkx (P Y:Nat) (mode t l n z:Nat) (tape:ByteArray) (base:Nat) (L:List Value) (j:Nat) (v:Value) (w w':World) (h:rfA P Y mode t l n z tape base L j v w) (hb:Below w.heap.size w w'):rfA P Y mode t l n z tape base L j v w':=by
 unfold rfA at h ⊢
 split at h<;>first | exact h | exact qae h hb nl|(obtain ⟨g,h1,h2⟩:=h;exact ⟨g,h1,h2.below hb nl⟩)
def rfB (g z cap k2 rg n rc j:Nat) (pc:ByteArray) (a b c:UInt8):Nat→Value→World→Prop
 | 0,v,_=>v=.slice (some ⟨g,0,none⟩) z cap
 | 1,v,_=>v=.int .i64 k2
 | 2,v,_=>v=.slice (some ⟨g,0,none⟩) z cap
 | 3,v,_=>v=.int .i64 k2
 | 4,v,_=>v=.pointer (some ⟨g,k2,none⟩)
 | 5,v,_=>v=.int .u8 a.toNat
 | 6,v,_=>v=.slice (some ⟨rg,0,none⟩) n rc
 | 7,v,_=>v=.int .i64 j
 | 8,v,_=>v=.pointer (some ⟨rg,j,none⟩)
 | 9,v,_=>v=.string pc
 | 10,v,_=>v=.int .i64 k2
 | 11,v,_=>v=.int .u8 b.toNat
 | 12,v,_=>v=.int .u8 c.toNat
 | 13,v,_=>v=.pointer (some ⟨g,k2,none⟩)
 | _,_,_=>False
theorem qjJ (g z cap k2 rg n rc j:Nat) (pc:ByteArray) (a b c:UInt8) (i:Nat) (v:Value) (w w':World) (h:rfB g z cap k2 rg n rc j pc a b c i v w) (_:Below w.heap.size w w'):rfB g z cap k2 rg n rc j pc a b c i v w':=by
 unfold rfB at h ⊢
 split at h<;>exact h
def K29:List Nat:=[0,1,2,3,4,5,6,7,8,9,10,11,12,13,14,15,16,17,18,19,20,21,22,23,24,25,26,27,28,29,30,31,32,33,34,35,36,37,38,39,40,41,42,43,44,45,46,47,48,49,50,51,52,53,54,55,56,57,58,59,60,61,62,63,64,65,66,67,68,69,70,71,72,73,74,75,76,77,78,79,80,81,82,83,84,85,86,87,88,89,90,91,92,93,94,95,96,97,98,99,100,101,102,103,104,105,106,107,108,109,110,111,112,113,114,131,132,133,134,135,136,137,138,139]
theorem qcM:∀k,k<140→(k<115∨115+16≤k)→k∈K29:=by decide +kernel
theorem qkR (f:Nat→Value) (v0 v1 v2 v3 v4 v5 v6 v7 v8 v9 v10 v11 v12 v13 v14 v15 v16 v17 v18 v19 v20 v21 v22 v23 v24 v25 v26 v27 v28 v29 v30 v31 v32 v33 v34 v35 v36 v37 v38 v39 v40 v41 v42 v43 v44 v45 v46 v47 v48 v49 v50 v51 v52 v53 v54 v55 v56 v57 v58 v59 v60 v61 v62 v63 v64 v65 v66 v67 v68 v69 v70 v71 v72 v73 v74 v75 v76 v77 v78 v79 v80 v81 v82 v83 v84 v85 v86 v87 v88 v89 v90 v91 v92 v93 v94 v95 v96 v97 v98 v99 v100 v101 v102 v103 v104 v105 v106 v107 v108 v109 v110 v111 v112 v113 v114 v115 v116 v117 v118 v119 v120 v121 v122 v123 v124 v125 v126 v127 v128 v129 v130 v131 v132 v133 v134 v135 v136 v137 v138 v139:Value):qbQ #[v0,v1,v2,v3,v4,v5,v6,v7,v8,v9,v10,v11,v12,v13,v14,v15,v16,v17,v18,v19,v20,v21,v22,v23,v24,v25,v26,v27,v28,v29,v30,v31,v32,v33,v34,v35,v36,v37,v38,v39,v40,v41,v42,v43,v44,v45,v46,v47,v48,v49,v50,v51,v52,v53,v54,v55,v56,v57,v58,v59,v60,v61,v62,v63,v64,v65,v66,v67,v68,v69,v70,v71,v72,v73,v74,v75,v76,v77,v78,v79,v80,v81,v82,v83,v84,v85,v86,v87,v88,v89,v90,v91,v92,v93,v94,v95,v96,v97,v98,v99,v100,v101,v102,v103,v104,v105,v106,v107,v108,v109,v110,v111,v112,v113,v114,v115,v116,v117,v118,v119,v120,v121,v122,v123,v124,v125,v126,v127,v128,v129,v130,v131,v132,v133,v134,v135,v136,v137,v138,v139] f 115 16=#[v0,v1,v2,v3,v4,v5,v6,v7,v8,v9,v10,v11,v12,v13,v14,v15,v16,v17,v18,v19,v20,v21,v22,v23,v24,v25,v26,v27,v28,v29,v30,v31,v32,v33,v34,v35,v36,v37,v38,v39,v40,v41,v42,v43,v44,v45,v46,v47,v48,v49,v50,v51,v52,v53,v54,v55,v56,v57,v58,v59,v60,v61,v62,v63,v64,v65,v66,v67,v68,v69,v70,v71,v72,v73,v74,v75,v76,v77,v78,v79,v80,v81,v82,v83,v84,v85,v86,v87,v88,v89,v90,v91,v92,v93,v94,v95,v96,v97,v98,v99,v100,v101,v102,v103,v104,v105,v106,v107,v108,v109,v110,v111,v112,v113,v114,f 115,f 116,f 117,f 118,f 119,f 120,f 121,f 122,f 123,f 124,f 125,f 126,f 127,f 128,f 129,f 130,v131,v132,v133,v134,v135,v136,v137,v138,v139]:=by kernel_rfl
def rfC (P X og len oc k j b2 n c2 g z cap:Nat) (o2:Ob) (sm S:ByteArray):Nat→Value→World→Prop
 | 0,v,_=>v=.pointer (some ⟨X,0,none⟩)
 | 1,v,_=>v=.pointer (some ⟨X,0,none⟩)
 | 2,v,_=>v=.pointer (some ⟨X,3,none⟩)
 | 3,v,_=>v=.slice (some ⟨og,0,none⟩) len oc
 | 4,v,_=>v=.int .i64 k
 | 5,v,_=>v=.pointer (some ⟨og,k*7,none⟩)
 | 6,v,_=>v=.pointer (some ⟨og,k*7+6,none⟩)
 | 7,v,_=>v=.slice (some ⟨b2,0,none⟩) n c2
 | 8,v,_=>v=.int .i64 j
 | 9,v,_=>v=.pointer (some ⟨P,0,none⟩)
 | 10,v,_=>v=.agg #[.string o2.name,.int .i64 o2.mode,.int .i64 o2.t,.int .i64 o2.l,.int .i64 o2.size,.int .i64 o2.epoch]
 | 11,v,_=>v=.int .i64 j
 | 12,v,_=>v=.slice (some ⟨g,0,none⟩) z cap
 | 13,v,_=>v=.string sm
 | 14,v,_=>v=.string S
 | 15,v,_=>v=.pointer (some ⟨b2,j,none⟩)
 | _,_,_=>False
theorem qkm (P X og len oc k j b2 n c2 g z cap:Nat) (o2:Ob) (sm S:ByteArray) (i:Nat) (v:Value) (w w':World) (h:rfC P X og len oc k j b2 n c2 g z cap o2 sm S i v w) (_:Below w.heap.size w w'):rfC P X og len oc k j b2 n c2 g z cap o2 sm S i v w':=by
 unfold rfC at h ⊢
 split at h<;>exact h
def rfD (X og len oc k:Nat) (o2:Ob):Nat→Value→World→Prop
 | 0,v,_=>v=.pointer (some ⟨X,0,none⟩)
 | 1,v,_=>v=.pointer (some ⟨X,0,none⟩)
 | 2,v,_=>v=.pointer (some ⟨X,3,none⟩)
 | 3,v,_=>v=.slice (some ⟨og,0,none⟩) len oc
 | 4,v,_=>v=.int .i64 k
 | 5,v,_=>v=.agg #[.string o2.name,.int .i64 o2.mode,.int .i64 o2.t,.int .i64 o2.l,.int .i64 o2.size,.int .i64 o2.epoch]
 | 6,v,_=>v=.pointer (some ⟨og,k*7,none⟩)
 | 7,v,_=>v=.pointer (some ⟨og,k*7,none⟩)
 | _,_,_=>False
theorem qkp (X og len oc k:Nat) (o2:Ob) (i:Nat) (v:Value) (w w':World) (h:rfD X og len oc k o2 i v w) (_:Below w.heap.size w w'):rfD X og len oc k o2 i v w':=by
 unfold rfD at h ⊢
 split at h<;>exact h
theorem take_set (old new:List ByteArray) (n j:Nat) (S:ByteArray) (ho:old.length=n) (hn:new.length=n) (hj:j<n) (hS:new[j]?=some S):(((new.take j++old.drop j).map Value.string).set j (.string S))=(new.take (j+1)++old.drop (j+1)).map Value.string:=by
 rw [←List.map_set]
 congr 1
 have hj1:j<new.length:=by omega
 have hj2:j<old.length:=by omega
 rw [List.set_append_right _ _ (by simp;omega),List.length_take,Nat.min_eq_left (by omega),Nat.sub_self,List.drop_eq_getElem_cons hj2,List.set_cons_zero,List.take_add_one,hS]
 simp
structure RfJ (w9 wr:World) (b2 c2 n B j:Nat) (old new:List ByteArray):Prop where
 sp:qaa (fun b=>b=b2) w9 wr
 row:wr.ownsRow B 9 1 (.slice (some ⟨b2,0,none⟩) n c2) n (((new.take j)++old.drop j).map .string)
def qhb (w:World) (n key:Nat) (dn:Nat→Bool) (xs:List RObj) (k:Nat) (o':Ob) (new:List ByteArray) (bad:Nat→Bool) (e:Ending) (w':World):Prop :=
 ((∀i,i<n→bad i=false)∧∃(X:Nat) (dv':Value) (ys:List RObj) (sa:Option Addr) (sc:Nat),e=.returned (.tuple #[.pointer (some ⟨X,0,none⟩),.int .i64 0])∧Wd w' X n key dn dv' (ys.set k ⟨o',sa,sc,new⟩)∧ys.length=xs.length∧(∀j,j<xs.length→(ys[j]!).ob=(xs[j]!).ob∧(ys[j]!).sh=(xs[j]!).sh)∧Below w.heap.size w w'∧∀b,dv'.ownBlock=some b→w.heap.size≤b) ∨
 ((∃i,i<n∧bad i=true)∧e=.returned (.tuple #[.pointer none,.int .i64 12])∧Below w.heap.size w w')
section
variable {w:World} {P n key:Nat} {dn:Nat→Bool} {dv:Value} {xs:List RObj}
theorem Wd.refreshing_go (h:Wd w P n key dn dv xs) (nm tape:ByteArray) (k:Nat) (hk:k<xs.length) (hnm:(xs[k]!).ob.name=nm) (hbef:∀j,j<xs.length→(xs[j]!).ob.name=nm→j=k) (hok:ObOk n (xs[k]!).ob) (hm0:(xs[k]!).ob.mode=0) (he1:(xs[k]!).ob.epoch<100) (htp:Cof.tsize (xs[k]!).ob.mode (xs[k]!).ob.t*Cof.ngroups (xs[k]!).ob.mode (xs[k]!).ob.t (xs[k]!).ob.l (xs[k]!).ob.size≤tape.size) (_htm:tape.size≤9223372036854775807) (hup:∀i,i<n→dn i=false) (hsz:∀i,i<n→((xs[k]!).sh[i]!).size≤200) (bad:Nat→Bool) (Q:Nat→List UInt8) (hJ:qd7 key (xs[k]!).ob.mode (xs[k]!).ob.t (xs[k]!).ob.l n (xs[k]!).ob.epoch (xs[k]!).ob.size (xs[k]!).ob.name (Cof.ngroups (xs[k]!).ob.mode (xs[k]!).ob.t (xs[k]!).ob.l (xs[k]!).ob.size) (fun _=>false) bad (fun i=>((xs[k]!).sh[i]!).data.toList) Q) (o2:Ob) (ho2:o2=⟨(xs[k]!).ob.name,(xs[k]!).ob.mode,(xs[k]!).ob.t,(xs[k]!).ob.l,(xs[k]!).ob.size,(xs[k]!).ob.epoch+1⟩) (new:List ByteArray) (hnew:new=(List.range n).map fun i=>(⟨(qaR key o2 n i (Cof.sumRow (Q i) ((Cof.split (List.replicate (xs[k]!).ob.size 0) (xs[k]!).ob.mode (xs[k]!).ob.t (xs[k]!).ob.l n tape.data.toList).getD i []))).toArray⟩:ByteArray)) :
  Calls Tryz.prog 161 #[.pointer (some ⟨P,0,none⟩),.string nm,.string tape] w fun e w'=>qhb w n key dn xs k o2 new bad e w':=by
 have HF:=hid (h.find_any nm k (fun hno=>absurd hnm (hno k hk)) (fun j hj e _=>by rw [hbef j hj e]))
 obtain ⟨oa,oc,h1,hrd⟩:=h.hp
 have hPl:=cells_lt h1
 have hn1:=h.n1
 have hn8:=h.n8
 have hl10:=h.len
 have c3:w.cell? ⟨P,3,none⟩=some (.slice oa xs.length oc):=cq h1 rfl
 obtain ⟨b,oo,rfl,hblt,_⟩:=hrd.pos (by rw [qar];omega)
 obtain ⟨_,k0,k1,k2,k3,k4,k5,k6⟩:=qbf hrd k hk (xs[k]!) (getElem!_pos xs k hk)
 have HP:=hid h1
 have HW:=hid h
 obtain ⟨x,hx⟩:∃x,x=xs[k]! := ⟨_,rfl⟩
 have HXE:=hid hx
 rw [←hx] at k0 k1 k2 k3 k4 k5 k6 hok hm0 he1 htp hsz hJ ho2 hnew
 obtain ⟨m,hm⟩:∃m,m=xs.length:=⟨_,rfl⟩
 have hkm:(k:Int)<(m:Int):=by omega
 have hk10:k<10:=by omega
 rw [←hm] at c3 hl10
 have hal:=(Below.refl w.heap.size w).alloc nl (.cells #[.string x.ob.name,.int .i64 x.ob.mode,.int .i64 x.ob.t,.int .i64 x.ob.l,.int .i64 x.ob.size,.int .i64 x.ob.epoch,.slice x.sa n x.sc] 198)
 have hm0':((x.ob.mode:Int) == 0)=true:=by rw [hm0];rfl
 have he:=hok.e
 have hz:=hok.z
 have HM0:=hid hm0
 have HOK:=hid hok
 clear hm0
 have he2:¬(100:Int)≤(x.ob.epoch:Int):=by omega
 have HTP:=hid (fun w'=>qca x.ob.mode x.ob.t x.ob.l n x.ob.size w' hok.plan hok.z)
 have HPIE:=hid (fun w'=>qdQ x.ob.mode x.ob.t x.ob.l n ⟨(List.replicate x.ob.size (0:UInt8)).toArray⟩ tape w' hok.plan (by show (List.replicate x.ob.size (0:UInt8)).toArray.size≤60;simpa using hz) (by show _*Cof.ngroups _ _ _ (List.replicate x.ob.size (0:UInt8)).toArray.size≤_;simpa using htp))
 obtain ⟨T,hT⟩:∃T,T=Cof.tsize x.ob.mode x.ob.t*Cof.ngroups x.ob.mode x.ob.t x.ob.l x.ob.size:=⟨_,rfl⟩
 rw [←hT] at HTP htp
 have htp':¬(tape.size:Int)<(T:Int):=by omega
 have HUP:=hid (fun w' (hb:Below w.heap.size w w')=>(HW.out.below hb nl).allUp_any true (fun i hi e=>by rw [hup i hi] at e;cases e) (fun _=>rfl))
 have HT:=hid hT
 clear hT hup
 have HSZ:=hid hsz
 have HJD:=hid hJ
 have HO2:=hid ho2
 have HNEW:=hid hnew
 obtain ⟨hsl,hsr⟩:=h.sh x (by rw [hx,getElem!_pos xs k hk];exact List.getElem_mem _)
 have HSL:=hid hsl
 have HSR:=hid hsr
 have hkey:=h.hk
 clear hsz hJ ho2 hnew hsl hsr
 clear h h1 hrd hbef hnm hm hx
 try clear hok
 go_enter Tryz.func161,Tryz.ntmps161
 go_wp2_with fail
 refine HF.out.mono ?_
 rintro e w2 ⟨rfl,hw2⟩
 obtain rfl:=hw2.symm
 clear HF
 go_wp2_with fail
 refine (HTP.out _).mono ?_
 rintro e w3 ⟨rfl,hb3⟩
 have hb03:=hal.trans (hb3.mono hal.size)
 have hY3:w3.heap[w.heap.size]?=some (.cells #[.string x.ob.name,.int .i64 x.ob.mode,.int .i64 x.ob.t,.int .i64 x.ob.l,.int .i64 x.ob.size,.int .i64 x.ob.epoch,.slice x.sa n x.sc] 198):=(hb3.block _ (by simp)).trans (alloc_at _ _)
 go_wp2_with fail
 refine (HUP.out w3 hb03).mono ?_
 rintro e w5 ⟨rfl,hw5⟩
 obtain rfl:=hw5.symm
 obtain ⟨Y,hYe⟩:∃Y,Y=w.heap.size:=⟨_,rfl⟩
 rw [←hYe] at hY3 ⊢
 have HYE:=hid hYe
 have HY3:=hid hY3
 have HP3:=hid ((hb03.block P hPl).trans HP.out)
 clear hYe hY3 HTP HUP c3 k0 k1 k2 k3 k4 k5 k6
 go_wp2_with fail
 have HC:∀w':World,Below w3.heap.size { w3 with drawn:=w3.drawn+1 } w'→w'.cell? ⟨P,0,none⟩=some (.int .i64 n)∧w'.cell? ⟨Y,1,none⟩=some (.int .i64 x.ob.mode)∧w'.cell? ⟨Y,2,none⟩=some (.int .i64 x.ob.t)∧w'.cell? ⟨Y,3,none⟩=some (.int .i64 x.ob.l)∧w'.cell? ⟨Y,4,none⟩=some (.int .i64 x.ob.size):=by
  intro w' hb
  have hp:=(hb.block P (cells_lt HP3.out)).trans HP3.out
  have hq:=(hb.block Y (cells_lt HY3.out)).trans HY3.out
  exact ⟨cq hp rfl,cq hq rfl,cq hq rfl,cq hq rfl,cq hq rfl⟩
 obtain ⟨iU,hiU,hu0,hu1,hu2⟩:=info_parts Tryz.info5
 obtain ⟨rows,hrows⟩:∃rows,rows=Cof.split (⟨(List.replicate x.ob.size (0:UInt8)).toArray⟩:ByteArray).data.toList x.ob.mode x.ob.t x.ob.l n tape.data.toList:=⟨_,rfl⟩
 have HROWS:=hid hrows
 rw [←hrows] at HPIE
 clear hrows
 refine qdb (by kernel_rfl) (fun i=>if i=14 then 11 else i+54) (rfA P Y x.ob.mode x.ob.t x.ob.l n x.ob.size tape w3.heap.size (strs rows)) 140 [0,1,2,6,7,8,9,10] (by kernel_rfl) rfl rfl (qkx P Y x.ob.mode x.ob.t x.ob.l n x.ob.size tape w3.heap.size (strs rows)) ?_ ?_
 ·refine ⟨?_,?_,?_,?_,?_,?_,?_,?_,?_,?_,?_,?_,?_,?_,?_,trivial⟩
  all_goals
   intro a w' hb hf hd
   have f0:a.tmps[0]?.getD undef=.pointer (some ⟨P,0,none⟩):=by simpa using hf (0,_) (by simp)
   have f2:a.tmps[2]?.getD undef=.string tape:=by simpa using hf (2,_) (by simp)
   have f9:a.tmps[9]?.getD undef=.pointer (some ⟨Y,0,none⟩):=by simpa using hf (9,_) (by simp)
   obtain ⟨p0,y1,y2,y3,y4⟩:=HC w' hb
   simp [rfA] at hd
   try (refine .inl ⟨_,w',?_,bl,rfl⟩;go_simp;done)
  ·obtain ⟨wm,hrun,r1,r2⟩:=run_make_full (P:=Tryz.prog) w' w'.heap.size 50 5 iU (.int .u8 0) 1 Tryz.underlying50 hiU hu0 hu1 .i64 .i64 x.ob.size (by rw [hu2];omega) (by unfold maxLen;omega) nl
   exact .inl ⟨.slice (some ⟨w'.heap.size,0,none⟩) x.ob.size x.ob.size,wm,by go_simp,grown_below r2,_,rfl,qaC (qcm r1)⟩
  ·obtain ⟨g,hg1,hg2⟩:=hd
   have hcv:=qa6 w' (some ⟨g,0,none⟩) x.ob.size x.ob.size (List.replicate x.ob.size 0) (by simp) hg2
   exact .inl ⟨.string ⟨(List.replicate x.ob.size (0:UInt8)).toArray⟩,w',by go_simp,bl,rfl⟩
  ·refine .inr ⟨202,#[.string ⟨(List.replicate x.ob.size (0:UInt8)).toArray⟩,.agg #[.int .i64 x.ob.mode,.int .i64 x.ob.t,.int .i64 x.ob.l],.int .i64 n,.string tape],by go_simp,(HPIE.out w').mono ?_⟩
   rintro e w'' ⟨r,rfl,hown,hb2⟩
   exact ⟨_,rfl,hb2,qaf hown (by have:=hb.size;exact this)⟩
  ·exact .inl ⟨a.tmps[67]?.getD undef,w',by go_simp,bl,hd.1⟩
 ·intro a w6 hdf hsz hb hf hr
  have r14:=hr 14 (by decide)
  simp [rfA] at r14
  have hb36:Below w3.heap.size w3 w6:=(Below.drew bl).trans hb
  have hb06:Below w.heap.size w w6:=hb03.trans (hb36.mono hb03.size)
  obtain ⟨rv,hrv⟩:∃rv,rv=a.tmps.getD 11 undef:=⟨_,rfl⟩
  have hro:w6.ownsRow w3.heap.size 9 1 rv n (strs rows):=by rw [hrv];simpa using r14
  obtain ⟨rg,rc,hrg,_,_⟩:=hro.form hn1
  obtain ⟨tm,df⟩:=a
  simp only at hdf hsz hf r14 hrv
  subst hdf
  obtain ⟨f,hfk,rfl⟩:=qkj tm hsz
  have e0:=(hfk 0).symm.trans (hf 0 (by simp))
  have e1:=(hfk 1).symm.trans (hf 1 (by simp))
  have e2:=(hfk 2).symm.trans (hf 2 (by simp))
  have e6:=(hfk 6).symm.trans (hf 6 (by simp))
  have e7:=(hfk 7).symm.trans (hf 7 (by simp))
  have e8:=(hfk 8).symm.trans (hf 8 (by simp))
  have e9:=(hfk 9).symm.trans (hf 9 (by simp))
  have e10:=(hfk 10).symm.trans (hf 10 (by simp))
  have e11:f 11=.slice (some ⟨rg,0,none⟩) n rc:=(hfk 11).symm.trans (hrv.symm.trans hrg)
  simp only [e0,e1,e2,e6,e7,e8,e9,e10,e11]
  have HRO:=hid (show w6.ownsRow w3.heap.size 9 1 (.slice (some ⟨rg,0,none⟩) n rc) n (strs rows) from by rw [←hrg];exact hro)
  have HY6:=hid ((hb36.block Y (cells_lt HY3.out)).trans HY3.out)
  have HCP:=hid ((HW.out.below hb06 nl).copied_any)
  clear hr hsz hf hfk e0 e1 e2 e6 e7 e8 e9 e10 e11 r14 HC hb hrv hro hrg HPIE
  go_wp2_with fail
  refine HCP.out.mono ?_
  rintro e w7 ⟨X,dv',ov,ys,rfl,hcp,hXge⟩
  have HC7:=hid hcp
  have hb67:=hcp.bel
  have hY7:=(hb67.block Y (cells_lt HY6.out)).trans HY6.out
  have y0:w7.cell? ⟨Y,0,none⟩=some (.string x.ob.name):=cq hY7 rfl
  have y1:w7.cell? ⟨Y,1,none⟩=some (.int .i64 x.ob.mode):=cq hY7 rfl
  have y2:w7.cell? ⟨Y,2,none⟩=some (.int .i64 x.ob.t):=cq hY7 rfl
  have y3:w7.cell? ⟨Y,3,none⟩=some (.int .i64 x.ob.l):=cq hY7 rfl
  have y4:w7.cell? ⟨Y,4,none⟩=some (.int .i64 x.ob.size):=cq hY7 rfl
  have y5:w7.cell? ⟨Y,5,none⟩=some (.int .i64 x.ob.epoch):=cq hY7 rfl
  have HY7:=hid hY7
  clear hcp hY7 HCP
  go_wp2_with fail
  obtain ⟨w8,hw8⟩:∃w8,w8=w7.alloc (.cells #[.string x.ob.name,.int .i64 x.ob.mode,.int .i64 x.ob.t,.int .i64 x.ob.l,.int .i64 x.ob.size,.int .i64 ((x.ob.epoch:Int)+1)] 55):=⟨_,rfl⟩
  obtain ⟨O,hO⟩:∃O,O=w7.heap.size:=⟨_,rfl⟩
  have hb78:Below w7.heap.size w7 w8:=by rw [hw8];exact (Below.refl _ _).alloc nl _
  have HO8:=hid (show w8.heap[O]?=some (.cells #[.string x.ob.name,.int .i64 x.ob.mode,.int .i64 x.ob.t,.int .i64 x.ob.l,.int .i64 x.ob.size,.int .i64 ((x.ob.epoch:Int)+1)] 55) from by rw [hw8,hO];exact alloc_at _ _)
  rw [←hw8,←hO]
  clear hw8 hO y0 y1 y2 y3 y4 y5
  have hb68:Below w6.heap.size w6 w8:=hb67.trans (hb78.mono hb67.size)
  have hb08:Below w.heap.size w w8:=hb06.trans (hb68.mono hb06.size)
  have hk0:k<xs.length:=hk
  obtain ⟨b2,c2,hsa,_,_⟩:=(HC7.out.shs k hk0).form hn1
  have hysk:(ys[k]!).sh=x.sh:=by rw [(HC7.out.same k hk0).2,←HXE.out]
  have HROW8:=hid (show w8.ownsRow w6.heap.size 9 1 (.slice (some ⟨b2,0,none⟩) n c2) n (x.sh.map .string) from by have:=qae (HC7.out.shs k hk0) hb78 nl;rw [hsa,hysk] at this;exact this)
  have HSA:=hid hsa
  have hb2g:w6.heap.size≤b2:=(HROW8.out.lt b2 rfl).1
  have HJ0:=hid (show RfJ w8 w8 b2 c2 n w6.heap.size 0 x.sh new from ⟨sr,by rw [List.take_zero,List.nil_append,List.drop_zero];exact HROW8.out⟩)
  have hrl8:rows.length=n:=by rw [HROWS.out];exact qbm _ _ _ _ _ _
  have hxl:x.sh.length=n:=HSL.out
  have hnl:new.length=n:=by rw [HNEW.out];simp
  have hok2:ObOk n o2:=by rw [HO2.out];exact ⟨HOK.out.plan,HOK.out.z,by show _+1≤100;omega,HOK.out.n1,HOK.out.n12⟩
  have HOK2:=hid hok2
  have HO82:=hid (show w8.heap[O]?=some (.cells #[.string o2.name,.int .i64 o2.mode,.int .i64 o2.t,.int .i64 o2.l,.int .i64 o2.size,.int .i64 o2.epoch] 55) from by rw [HO2.out];simpa using HO8.out)
  obtain ⟨og,oc,hoge,_,_⟩:=HC7.out.obj.form (by omega)
  have HOG:=hid hoge
  have HX8:=hid ((hb78.block X (cells_lt HC7.out.hX)).trans HC7.out.hX)
  have HOB8:=hid (show w8.ownsRow w6.heap.size 198 7 (.slice (some ⟨og,0,none⟩) xs.length oc) xs.length (qat n ys) from by rw [←hoge];exact qab (own:=fun _=>False) HC7.out.obj (qaa.ofBelow hb78 nl) (fun _ _ h=>h))
  have hoc:∃cs fz,w8.heap[og]?=some (.cells cs 198 fz):=by
   rcases HOB8.out.2 with ⟨h8,_⟩|⟨_,_,_,h8,_,h4,_⟩
   ·cases h8
   ·cases h8;exact ⟨_,_,h4⟩
  have hXb2:X≠b2:=fun e=>qaz HROW8.out HX8.out (by decide) (by rw [e];rfl)
  have hOb2:O≠b2:=fun e=>qaz HROW8.out HO82.out (by decide) (by rw [e];rfl)
  have hogb2:og≠b2:=fun e=>by obtain ⟨cs,fz,h⟩:=hoc;exact qaz HROW8.out h (by decide) (by rw [e];rfl)
  have hog8:og<w8.heap.size:=by obtain ⟨cs,fz,h⟩:=hoc;exact cells_lt h
  have hc6:w8.cell? ⟨og,k*7+6,none⟩=some (.slice (some ⟨b2,0,none⟩) n c2):=by
   have h1:=HOB8.out.cellAt (k*7+6) (by omega)
   rw [qfD n ys k 6 (by rw [HC7.out.len];exact hk0) (by decide)] at h1
   rw [h1]
   have hky:k<ys.length:=by rw [HC7.out.len];exact hk0
   show some (Value.slice (ys[k]'hky).sa n (ys[k]'hky).sc)=_
   rw [←getElem!_pos ys k hky,HSA.out]
  have hxs7:k*7<xs.length*7:=by omega
  have HKP:=hid (show ∀w',qaa (fun b=>b=b2) w8 w'→w'.cell? ⟨X,3,none⟩=some (.slice (some ⟨og,0,none⟩) xs.length oc)∧w'.cell? ⟨og,k*7+6,none⟩=some (.slice (some ⟨b2,0,none⟩) n c2)∧w'.heap[O]?=some (.cells #[.string o2.name,.int .i64 o2.mode,.int .i64 o2.t,.int .i64 o2.l,.int .i64 o2.size,.int .i64 o2.epoch] 55) from fun w' hs=>by
   refine ⟨?_,?_,hs.heap HO82.out hOb2⟩
   ·rw [cells_at (hs.heap HX8.out hXb2),←HOG.out];rfl
   ·exact (hs.cell (a:=⟨og,k*7+6,none⟩) (by exact hog8) (by exact hogb2)).trans hc6)
  clear hok2 hoge hoc hc6
  have HPI:=hid (fun (i:Nat) (hi:i<n) (w':World) (hb:Below w.heap.size w w')=>qfj P n key _ _ x i w' ((hb.block P hPl).trans HP.out) HOK.out hi hkey HSL.out (HSR.out.below hb nl) (HSZ.out i hi))
  clear hsa hysk
  go_loopw [14] (fun u wr=>∃j:Nat,u=.int .i64 j∧j≤n∧(∀i,i<j→bad i=false)∧RfJ w8 wr b2 c2 n w6.heap.size j x.sh new) (fun u _=>n-(intOf u).toNat)
  case atStart=>exact ⟨0,rfl,Nat.zero_le _,fun i hi=>absurd hi (Nat.not_lt_zero _),HJ0.out⟩
  case round =>
   obtain ⟨j,rfl,hjn,hgood,hj⟩:=hrel
   have HJ:=hid hj
   have HGD:=hid hgood
   have hb8r:Below w6.heap.size w8 wr:=hj.sp.below w6.heap.size hb68.size (fun b hb=>by rw [hb];exact hb2g)
   have hb0r:Below w.heap.size w wr:=hb08.trans (hb8r.mono hb06.size)
   have hPr:=(hb0r.block P hPl).trans HP.out
   have p0:wr.cell? ⟨P,0,none⟩=some (.int .i64 n):=cq hPr rfl
   have hYr:=((hb68.trans hb8r).block Y (cells_lt HY6.out)).trans HY6.out
   have y0:wr.cell? ⟨Y,0,none⟩=some (.string x.ob.name):=cq hYr rfl
   have y1:wr.cell? ⟨Y,1,none⟩=some (.int .i64 x.ob.mode):=cq hYr rfl
   have y2:wr.cell? ⟨Y,2,none⟩=some (.int .i64 x.ob.t):=cq hYr rfl
   have y3:wr.cell? ⟨Y,3,none⟩=some (.int .i64 x.ob.l):=cq hYr rfl
   have y4:wr.cell? ⟨Y,4,none⟩=some (.int .i64 x.ob.size):=cq hYr rfl
   have y5:wr.cell? ⟨Y,5,none⟩=some (.int .i64 x.ob.epoch):=cq hYr rfl
   have y6:wr.cell? ⟨Y,6,none⟩=some (.slice x.sa n x.sc):=cq hYr rfl
   clear hj hgood hPr hYr
   by_cases hlt:j<n
   ·have hlt':(j:Int)<(n:Int):=by omega
    go_wp2_with fail
    refine (HPI.out j hlt wr hb0r).mono ?_
    rintro e w10 ⟨q,okk,rfl,hok1,hok2,hb10⟩
    clear y0 y1 y2 y3 y4 y5 y6 p0
    have hb010:=hb0r.trans (hb10.mono hb0r.size)
    cases okk with
    | false =>
     have HBAD:=hid (show ∃i,i<n∧bad i=true from ⟨j,hlt,by
      cases hbd:bad j with
      | true=>rfl
      | false=>exact absurd ((HJD.out j hlt rfl).1 hbd) (hok2 rfl _)⟩)
     clear hok1 hok2
     go_wp2_with fail
     go_ret2
     unfold qhb
     exact .inr ⟨HBAD.out,rfl,hb010⟩
    | true =>
     have hbd:bad j=false:=by
      cases hbd:bad j with
      | false=>rfl
      | true=>exact absurd ⟨_,hok1 rfl⟩ ((HJD.out j hlt rfl).2 hbd)
     have hq:q.data.toList=Q j:=qek (hok1 rfl) ((HJD.out j hlt rfl).1 hbd)
     have HQ:=hid hq
     have HBD:=hid hbd
     have HGL:=hid ((HJD.out j hlt rfl).1 hbd).1
     clear hok1 hok2 hq hbd
     obtain ⟨cap,w11,hcv,hfb,hb11,hs11⟩:=qdK w10 q
     have HFB:=hid hfb
     clear hfb
     go_wp2_with fail
     obtain ⟨g,hg⟩:∃g,g=w10.heap.size:=⟨_,rfl⟩
     obtain ⟨z,hz2⟩:∃z,z=q.size:=⟨_,rfl⟩
     obtain ⟨pc,hpc⟩:∃pc:ByteArray,pc=⟨(rows.getD j []).toArray⟩:=⟨_,rfl⟩
     have hrl:rows.length=n:=by rw [HROWS.out];exact qbm _ _ _ _ _ _
     have hrk6:w6.cell? ⟨rg,j,none⟩=some (.string pc):=by
      rw [HRO.out.cellAt j (by omega),hpc]
      simp only [strs,str,List.getElem?_map,List.getElem?_eq_getElem (show j<rows.length by rw [hrl];exact hlt),Option.map_some]
      rw [List.getD_eq_getElem?_getD,List.getElem?_eq_getElem (show j<rows.length by rw [hrl];exact hlt)]
      rfl
     have hrgl:=(HRO.out.lt rg rfl).2
     have hzQ:(Q j).length=z:=by rw [hz2,←HQ.out,qgi]
     have hpz:(rows.getD j []).length=z:=by
      rw [HROWS.out,qbJ HOK.out.plan _ _ j hlt (by simpa [←HT.out] using htp),←hzQ,HGL.out]
      simp
     have hpcs:pc.size=z:=by rw [hpc];show (rows.getD j []).toArray.size=z;simpa using hpz
     have hng:=qao HOK.out.plan x.ob.size hz
     have hz60:z≤60:=by rw [←hzQ,HGL.out];exact hng
     have hb1011:Below w10.heap.size w10 w11:=hb11
     have HRK:=hid (show ∀w',Below w10.heap.size w11 w'→w'.cell? ⟨rg,j,none⟩=some (.string pc) from fun w' hb=>by
      have h1:Below w6.heap.size w6 w10:=hb68.trans (hb8r.trans (hb10.mono (Nat.le_trans hb68.size hb8r.size)))
      have h2:Below w6.heap.size w6 w':=h1.trans ((hb11.mono h1.size).trans (hb.mono h1.size))
      exact (h2.cell (by exact hrgl)).trans hrk6)
     have HFB0:=hid (show FB w11 g (qaO (fun i=>(Q j).getD i 0^^^(rows.getD j []).getD i 0) (Q j) z 0) from by rw [qbg _ _ _ hzQ,hg,←HQ.out];exact HFB.out)
     have HG:=hid hg
     have HZ:=hid hz2
     have HPC:=hid hpc
     have HPZ:=hid (show (Q j).length=z∧(rows.getD j []).length=z from ⟨hzQ,hpz⟩)
     have hgl11:g<w11.heap.size:=by rw [hg,hs11];exact Nat.lt_succ_self _
     have hg10:w10.heap.size≤g:=Nat.le_of_eq hg.symm
     rw [←hg,←hz2]
     clear hcv hg hz2 hpc hzQ hpz hrk6 HFB hb11
     obtain ⟨wo,rfl⟩:∃wo,wo=wr:=⟨_,rfl⟩
     go_loopw [18] (fun u wi=>∃k2:Nat,u=.int .i64 k2∧k2≤z∧FB wi g (qaO (fun i=>(Q j).getD i 0^^^(rows.getD j []).getD i 0) (Q j) z k2)∧Below w10.heap.size w11 wi) (fun u _=>z-(intOf u).toNat)
     case atStart=>exact ⟨0,rfl,Nat.zero_le _,HFB0.out,bl⟩
     case round =>
      obtain ⟨k2,rfl,hk2,hfb,hbi⟩:=hrel
      have HFBI:=hid hfb
      clear hfb
      by_cases hlt2:k2<z
      ·have hlt2':(k2:Int)<(z:Int):=by omega
       have hk2s:k2<pc.size:=by rw [hpcs];exact hlt2
       obtain ⟨ga,gf⟩:=HFBI.out.at k2 (by rw [qcy];exact hlt2)
       rw [qiQ _ _ _ _ hlt2] at ga
       obtain ⟨av,hav⟩:∃av,av=(Q j).getD k2 0:=⟨_,rfl⟩
       rw [←hav] at ga
       obtain ⟨bv,hbv⟩:∃bv,bv=pc[k2]'hk2s:=⟨_,rfl⟩
       have hbe:bv=(rows.getD j []).getD k2 0:=by
        rw [hbv,←qlU pc k2 hk2s,HPC.out]
       have hxb:=qaY av bv
       obtain ⟨xv,hxv⟩:∃xv,xv=av^^^bv:=⟨_,rfl⟩
       rw [←hxv] at hxb
       have HNXT:=hid (show ∀w',FB w' g (qaO (fun i=>(Q j).getD i 0^^^(rows.getD j []).getD i 0) (Q j) z k2)→FB (w'.setCell ⟨g,k2,none⟩ (.int .u8 xv.toNat)) g (qaO (fun i=>(Q j).getD i 0^^^(rows.getD j []).getD i 0) (Q j) z (k2+1)) from fun w' h=>by
        have:=h.set k2 xv
        rw [hxv,hav,hbe,qhU (fun i=>(Q j).getD i 0^^^(rows.getD j []).getD i 0)] at this
        rw [hxv,hav,hbe]
        exact this)
       have hbv2:pc[k2]'hk2s=bv:=hbv.symm
       have hrj:=HRK.out wr hbi
       clear hav hbe hbv hxv
       go_wp2_with fail
       have HC2:∀w':World,Below wr.heap.size { wr with drawn:=wr.drawn+1 } w'→w'.cell? ⟨g,k2,none⟩=some (.int .u8 av.toNat)∧w'.cell? ⟨rg,j,none⟩=some (.string pc):=by
        intro w' hb
        have hgi:g<wr.heap.size:=Nat.lt_of_lt_of_le hgl11 hbi.size
        have hri:rg<wr.heap.size:=by have h1:=hb68.size;have h2:=hb8r.size;have h3:=hb10.size;have h4:=hb1011.size;have h5:=hbi.size;omega
        exact ⟨(hb.cell (by exact hgi)).trans ga,(hb.cell (by exact hri)).trans hrj⟩
       refine qaN (by kernel_rfl) (fun i=>i+101) (rfB g z cap k2 rg n rc j pc av bv xv) 140 14 K28 (by kernel_rfl) (by kernel_rfl) rfl rfl (qjJ g z cap k2 rg n rc j pc av bv xv) ?_ ?_
       ·refine ⟨?_,?_,?_,?_,?_,?_,?_,?_,?_,?_,?_,?_,?_,?_,trivial⟩
        all_goals
         intro a w' hb hf hd
         have f11:a.tmps[11]?.getD undef=.slice (some ⟨rg,0,none⟩) n rc:=keyAt hf 11 (qea 11 (by decide) (by decide)) _ rfl
         have f14:a.tmps[14]?.getD undef=.int .i64 j:=keyAt hf 14 (qea 14 (by decide) (by decide)) _ rfl
         have f17:a.tmps[17]?.getD undef=.slice (some ⟨g,0,none⟩) z cap:=keyAt hf 17 (qea 17 (by decide) (by decide)) _ rfl
         have f18:a.tmps[18]?.getD undef=.int .i64 k2:=keyAt hf 18 (qea 18 (by decide) (by decide)) _ rfl
         obtain ⟨ca,cr⟩:=HC2 w' hb
         simp [rfB] at hd
         try (refine .inl ⟨_,w',?_,bl,rfl⟩;go_simp;done)
       ·intro a w' oo' hoo hdf hsz2 hb hf hr
        cases hoo
        have r12:=hr 12 (by decide)
        have r13:=hr 13 (by decide)
        simp [rfB] at r12 r13
        obtain ⟨ca,cr⟩:=HC2 w' hb
        have hbri:Below wr.heap.size wr w':=(Below.drew bl).trans hb
        have hfb':FB w' g (qaO (fun i=>(Q j).getD i 0^^^(rows.getD j []).getD i 0) (Q j) z k2):=by
         obtain ⟨C,h1,h2,h3⟩:=HFBI.out
         exact ⟨C,(hbri.block g (Nat.lt_of_lt_of_le hgl11 hbi.size)).trans h1,h2,h3⟩
        have hfz:=(hfb'.at k2 (by rw [qcy];exact hlt2)).2
        have HNX:=hid (HNXT.out w' hfb')
        have hbn:Below w10.heap.size w11 (w'.setCell ⟨g,k2,none⟩ (.int .u8 xv.toNat)):=(hbi.trans (hbri.mono (Nat.le_trans hb1011.size hbi.size))).setCell (by exact hg10) _
        refine qaF 5 (.tmp 114) (.tmp 113) rfl g k2 (.int .u8 xv.toNat) (by simp [Act.eval];exact r13) (by simp [Act.eval];exact r12) rfl rfl (by kernel_rfl) _ ca hfz ?_
        obtain ⟨tm,df⟩:=a
        simp only at hdf hsz2 hf
        subst hdf
        obtain ⟨f2,hpe⟩:∃f2,tm=qbQ _ f2 101 14:=⟨_,qh5 tm _ (hsz2.trans rfl) 101 14 (fun k hk hc=>hf k (qea k hk hc))⟩
        rw [qlc] at hpe
        subst hpe
        clear hr hf hsz2 r12 r13 HC2 ca cr hfb' hfz hb hbri
        simp only [Act.put]
        go_wp2_with fail
        go_roundw
        case rel=>exact ⟨k2+1,by go_num,hlt2,HNX.out,hbn⟩
        case measure=>simp [intOf];omega
      ·have hzk:z=k2:=by omega
       subst hzk
       have hsum:qaO (fun i=>(Q j).getD i 0^^^(rows.getD j []).getD i 0) (Q j) z z=Cof.sumRow (Q j) (rows.getD j []):=by
        rw [qdt]
        unfold Cof.sumRow
        rw [HPZ.out.1,HPZ.out.2,Nat.max_self]
       have hfbs:=HFBI.out
       rw [hsum] at hfbs
       obtain ⟨sm,hsm⟩:∃sm,sm=Cof.sumRow (Q j) (rows.getD j []):=⟨_,rfl⟩
       rw [←hsm] at hfbs
       have hsml:sm.length=z:=by rw [hsm];unfold Cof.sumRow;rw [List.length_map,List.length_range,HPZ.out.1,HPZ.out.2,Nat.max_self]
       obtain ⟨S,hS⟩:∃S:ByteArray,S=⟨(qaR key o2 n j sm).toArray⟩:=⟨_,rfl⟩
       have hSn:new[j]?=some S:=by
        rw [HNEW.out,List.getElem?_map,List.getElem?_range hlt,hS,hsm,HROWS.out]
        rfl
       have hxw:Below wo.heap.size wo wr:=hb10.trans ((hb1011.mono hb10.size).trans (hbi.mono hb10.size))
       have hs8i:qaa (fun b=>b=b2) w8 wr:=HJ.out.sp.trans (qaa.ofBelow hxw nl)
       have HROWI:=hid (qae HJ.out.row hxw nl)
       have hb0i:Below w.heap.size w wr:=hb0r.trans (hxw.mono hb0r.size)
       have hgi:g<wr.heap.size:=Nat.lt_of_lt_of_le hgl11 hbi.size
       have HFS:=hid (show ∀w':World,Below wr.heap.size { wr with drawn:=wr.drawn+1 } w'→Rd w' (some ⟨g,0,none⟩) (bs sm) from fun w' hb=>(hfbs.rd hgi).below ((Below.drew bl).trans hb) nl)
       have HSH:=hid (fun (w':World) (hb:Below w.heap.size w w')=>qfb P n key _ _ o2 j sm w' ((hb.block P hPl).trans HP.out) HOK2.out hlt (by omega) hkey)
       rw [←hS] at HSH
       have HSN:=hid hSn
       have HSML:=hid hsml
       have HFBE:=hid hfbs
       clear hsum hfbs hsm hS hSn hsml
       go_wp2_with fail
       have HC3:∀w':World,Below wr.heap.size { wr with drawn:=wr.drawn+1 } w'→qaa (fun b=>b=b2) w8 w'∧Below w.heap.size w w'∧w'.cell? ⟨X,3,none⟩=some (.slice (some ⟨og,0,none⟩) xs.length oc)∧w'.cell? ⟨og,k*7+6,none⟩=some (.slice (some ⟨b2,0,none⟩) n c2)∧w'.cell? ⟨O,0,none⟩=some (.string o2.name)∧w'.cell? ⟨O,1,none⟩=some (.int .i64 o2.mode)∧w'.cell? ⟨O,2,none⟩=some (.int .i64 o2.t)∧w'.cell? ⟨O,3,none⟩=some (.int .i64 o2.l)∧w'.cell? ⟨O,4,none⟩=some (.int .i64 o2.size)∧w'.cell? ⟨O,5,none⟩=some (.int .i64 o2.epoch):=by
        intro w' hb
        have hb1:Below wr.heap.size wr w':=(Below.drew bl).trans hb
        have hs:qaa (fun b=>b=b2) w8 w':=hs8i.trans (qaa.ofBelow hb1 nl)
        obtain ⟨k1,k2,k3⟩:=HKP.out w' hs
        exact ⟨hs,hb0i.trans (hb1.mono hb0i.size),k1,k2,cq k3 rfl,cq k3 rfl,cq k3 rfl,cq k3 rfl,cq k3 rfl,cq k3 rfl⟩
       refine qaN (by kernel_rfl) (fun i=>i+115) (rfC P X og xs.length oc k j b2 n c2 g z cap o2 ⟨sm.toArray⟩ S) 140 16 K29 (by kernel_rfl) (by kernel_rfl) rfl rfl (qkm P X og xs.length oc k j b2 n c2 g z cap o2 ⟨sm.toArray⟩ S) ?_ ?_
       ·refine ⟨?_,?_,?_,?_,?_,?_,?_,?_,?_,?_,?_,?_,?_,?_,?_,?_,trivial⟩
        all_goals
         intro a w' hb hf hd
         have f0:a.tmps[0]?.getD undef=.pointer (some ⟨P,0,none⟩):=keyAt hf 0 (qcM 0 (by decide) (by decide)) _ rfl
         have f8:a.tmps[8]?.getD undef=.int .i64 k:=keyAt hf 8 (qcM 8 (by decide) (by decide)) _ rfl
         have f12:a.tmps[12]?.getD undef=.pointer (some ⟨X,0,none⟩):=keyAt hf 12 (qcM 12 (by decide) (by decide)) _ rfl
         have f13:a.tmps[13]?.getD undef=.pointer (some ⟨O,0,none⟩):=keyAt hf 13 (qcM 13 (by decide) (by decide)) _ rfl
         have f14:a.tmps[14]?.getD undef=.int .i64 j:=keyAt hf 14 (qcM 14 (by decide) (by decide)) _ rfl
         have f17:a.tmps[17]?.getD undef=.slice (some ⟨g,0,none⟩) z cap:=keyAt hf 17 (qcM 17 (by decide) (by decide)) _ rfl
         obtain ⟨hsw,hbw,x3,x6,o0,o1,o2',o3,o4,o5⟩:=HC3 w' hb
         simp [rfC] at hd
         try (refine .inl ⟨_,w',?_,bl,rfl⟩;go_simp;done)
        ·have hcv:=qa6 w' (some ⟨g,0,none⟩) cap z sm HSML.out.symm (HFS.out w' hb)
         exact .inl ⟨.string ⟨sm.toArray⟩,w',by go_simp,bl,rfl⟩
        ·refine .inr ⟨203,#[.pointer (some ⟨P,0,none⟩),.agg #[.string o2.name,.int .i64 o2.mode,.int .i64 o2.t,.int .i64 o2.l,.int .i64 o2.size,.int .i64 o2.epoch],.int .i64 j,.string ⟨sm.toArray⟩],by go_simp,(HSH.out w' hbw).mono ?_⟩
         rintro e w2 ⟨rfl,hb2'⟩
         exact ⟨_,rfl,hb2',rfl⟩
       ·intro a w' oo' hoo hdf hsz2 hb hf hr
        cases hoo
        have r14:=hr 14 (by decide)
        have r15:=hr 15 (by decide)
        simp [rfC] at r14 r15
        have hbri:Below wr.heap.size wr w':=(Below.drew bl).trans hb
        have hrw:=qae HROWI.out hbri nl
        have hcell:=hrw.cellAt j (by omega)
        have hfz:=hrw.frozenAt j
        have hjl:j<((new.take j++x.sh.drop j).map Value.string).length:=by simp;omega
        rw [List.getElem?_eq_getElem hjl] at hcell
        have HNX:=hid (show RfJ w8 (w'.setCell ⟨b2,j,none⟩ (.string S)) b2 c2 n w6.heap.size (j+1) x.sh new from ⟨((HC3 w' hb).1).setCell (p:=⟨b2,j,none⟩) rfl _,by
         have:=(hrw.stored j (.string S)).1
         rw [take_set x.sh new n j S hxl hnl hlt HSN.out] at this
         exact this⟩)
        have HGN:=hid (show ∀i,i<j+1→bad i=false from fun i hi=>by
         rcases Nat.lt_or_eq_of_le (Nat.lt_succ_iff.1 hi) with h | rfl
         ·exact HGD.out i h
         ·exact HBD.out)
        refine qaF 9 (.tmp 130) (.tmp 129) rfl b2 j (.string S) (by simp [Act.eval];exact r15) (by simp [Act.eval];exact r14) rfl rfl (by kernel_rfl) _ hcell hfz ?_
        obtain ⟨tm,df⟩:=a
        simp only at hdf hsz2 hf
        subst hdf
        obtain ⟨f2,hpe⟩:∃f2,tm=qbQ _ f2 115 16:=⟨_,qh5 tm _ (hsz2.trans rfl) 115 16 (fun k hk hc=>hf k (qcM k hk hc))⟩
        rw [qkR] at hpe
        subst hpe
        clear hr hf hsz2 r14 r15 HC3 hrw hcell hfz hb hbri hjl
        simp only [Act.put]
        go_wp2_with fail
        go_roundw
        case rel=>exact ⟨j+1,by go_num,hlt,HGN.out,HNX.out⟩
        case measure=>simp [intOf];omega
   ·have hjn2:n=j:=by omega
    subst hjn2
    have hrow:=HJ.out.row
    rw [List.take_of_length_le (by omega),List.drop_of_length_le (by omega),List.append_nil] at hrow
    have HWZ:=hid ((HC7.out.below hb78).shards_all (HW.out.below hb06 nl) k hk0 b2 c2 HSA.out HJ.out.sp new hnl hrow)
    have hs8r:=HJ.out.sp
    have hzl:(ys.set k ⟨(ys[k]!).ob,(ys[k]!).sa,(ys[k]!).sc,new⟩).length=xs.length:=by rw [List.length_set];exact HC7.out.len
    obtain ⟨zs,hzs⟩:∃zs,zs=ys.set k ⟨(ys[k]!).ob,(ys[k]!).sa,(ys[k]!).sc,new⟩:=⟨_,rfl⟩
    rw [←hzs] at HWZ hzl
    have HZS:=hid hzs
    clear hrow hzs y0 y1 y2 y3 y4 y5 y6
    have hltn:¬(n:Int)<(n:Int):=by omega
    go_wp2_with fail
    have HC4:∀w':World,Below wr.heap.size { wr with drawn:=wr.drawn+1 } w'→w'.cell? ⟨X,3,none⟩=some (.slice (some ⟨og,0,none⟩) xs.length oc)∧w'.cell? ⟨O,0,none⟩=some (.string o2.name)∧w'.cell? ⟨O,1,none⟩=some (.int .i64 o2.mode)∧w'.cell? ⟨O,2,none⟩=some (.int .i64 o2.t)∧w'.cell? ⟨O,3,none⟩=some (.int .i64 o2.l)∧w'.cell? ⟨O,4,none⟩=some (.int .i64 o2.size)∧w'.cell? ⟨O,5,none⟩=some (.int .i64 o2.epoch):=by
     intro w' hb
     have hb1:Below wr.heap.size wr w':=(Below.drew bl).trans hb
     obtain ⟨k1,k2,k3⟩:=HKP.out w' (hs8r.trans (qaa.ofBelow hb1 nl))
     exact ⟨k1,cq k3 rfl,cq k3 rfl,cq k3 rfl,cq k3 rfl,cq k3 rfl,cq k3 rfl⟩
    refine qaN (by kernel_rfl) (fun i=>i+131) (rfD X og xs.length oc k o2) 140 8 [8,12,13] (by kernel_rfl) (by kernel_rfl) rfl rfl (qkp X og xs.length oc k o2) ?_ ?_
    ·refine ⟨?_,?_,?_,?_,?_,?_,?_,?_,trivial⟩
     all_goals
      intro a w' hb hf hd
      have f8:a.tmps[8]?.getD undef=.int .i64 k:=keyAt hf 8 (by decide) _ rfl
      have f12:a.tmps[12]?.getD undef=.pointer (some ⟨X,0,none⟩):=keyAt hf 12 (by decide) _ rfl
      have f13:a.tmps[13]?.getD undef=.pointer (some ⟨O,0,none⟩):=keyAt hf 13 (by decide) _ rfl
      obtain ⟨x3,o0,o1,o2',o3,o4,o5⟩:=HC4 w' hb
      simp [rfD] at hd
      try (refine .inl ⟨_,w',?_,bl,rfl⟩;go_simp;done)
    ·intro a w' oo' hoo hdf hsz2 hb hf hr
     cases hoo
     have r5:=hr 5 (by decide)
     have r7:=hr 7 (by decide)
     simp [rfD] at r5 r7
     have hbri:Below wr.heap.size wr w':=(Below.drew bl).trans hb
     obtain ⟨og',oc',old,hX',hold,hle,hwd,_⟩:=(HWZ.out.below hbri nl).ob_set k (by omega) o2
     have hX'':=(hs8r.trans (qaa.ofBelow hbri nl)).heap HX8.out hXb2
     rw [hX'',HOG.out] at hX'
     have hoo':og'=og:=by
      have h1:=Option.some.inj hX'
      simp [qci] at h1
      exact h1.1.symm
     subst hoo'
     have hsp:=qb8 w' og' (old.toList.take (k*7)++[Value.string o2.name,.int .i64 o2.mode,.int .i64 o2.t,.int .i64 o2.l,.int .i64 o2.size,.int .i64 o2.epoch]++old.toList.drop (k*7+6)).toArray
     have hzk:zs[k]! = ⟨(ys[k]!).ob,(ys[k]!).sa,(ys[k]!).sc,new⟩:=by rw [HZS.out,getElem!_pos _ k (by rw [List.length_set,HC7.out.len];exact hk0),List.getElem_set_self]
     rw [hzk,HZS.out,List.set_set] at hwd
     have hogge:w6.heap.size≤og':=(HOB8.out.lt og' rfl).1
     have hbend:Below w.heap.size w (w'.setRow og' (old.toList.take (k*7)++[Value.string o2.name,.int .i64 o2.mode,.int .i64 o2.t,.int .i64 o2.l,.int .i64 o2.size,.int .i64 o2.epoch]++old.toList.drop (k*7+6)).toArray):=(hb0r.trans (hbri.mono hb0r.size)).trans (hsp.below w.heap.size (Nat.le_trans hb0r.size hbri.size) (fun b hb=>by rw [hb];exact Nat.le_trans hb06.size hogge))
     have HRP:=hid (show qhb w n key dn xs k o2 new bad (.returned (.tuple #[.pointer (some ⟨X,0,none⟩),.int .i64 0])) (w'.setRow og' (old.toList.take (k*7)++[Value.string o2.name,.int .i64 o2.mode,.int .i64 o2.t,.int .i64 o2.l,.int .i64 o2.size,.int .i64 o2.epoch]++old.toList.drop (k*7+6)).toArray) from .inl ⟨HGD.out,X,dv',ys,(ys[k]!).sa,(ys[k]!).sc,rfl,hwd,HC7.out.len,HC7.out.same,hbend,fun b hb=>Nat.le_trans hb06.size (HC7.out.down.lt b hb).1⟩)
     obtain ⟨wz,hwz⟩:∃wz,wz=w'.setRow og' (old.toList.take (k*7)++[Value.string o2.name,.int .i64 o2.mode,.int .i64 o2.t,.int .i64 o2.l,.int .i64 o2.size,.int .i64 o2.epoch]++old.toList.drop (k*7+6)).toArray:=⟨_,rfl⟩
     rw [←hwz] at HRP
     have hwz2:w'.setRow og' (old.toList.take (k*7)++(#[.string o2.name,.int .i64 o2.mode,.int .i64 o2.t,.int .i64 o2.l,.int .i64 o2.size,.int .i64 o2.epoch]:Array Value).toList++old.toList.drop (k*7+(#[.string o2.name,.int .i64 o2.mode,.int .i64 o2.t,.int .i64 o2.l,.int .i64 o2.size,.int .i64 o2.epoch]:Array Value).size)).toArray=wz:=hwz.symm
     refine qbN 55 (.tmp 138) (.tmp 136) rfl og' (k*7) #[.string o2.name,.int .i64 o2.mode,.int .i64 o2.t,.int .i64 o2.l,.int .i64 o2.size,.int .i64 o2.epoch] (by simp [Act.eval];exact r7) (by simp [Act.eval];exact r5) 198 old hold Tryz.cellsObj (by simpa using hle) (by simp [Value.oneCell']) ?_
     rw [hwz2]
     obtain ⟨tm,df⟩:=a
     simp only at hdf hsz2 hf
     subst hdf
     obtain ⟨f2,hf2,rfl⟩:=qkj tm hsz2
     have e12:=(hf2 12).symm.trans (hf 12 (by decide))
     clear hr hf hsz2 r5 r7 HC4 hb hbri hwd hX' hX'' hsp hbend hwz hwz2 hf2
     simp only [Act.put,e12]
     go_wp2_with fail
     go_ret2
     exact HRP.out
end
section
variable {w:World} {L:Seat} {s:Sta}
theorem Bank.ref_bad (h:Bank w L s) (hc:Calm L s) (nm tape:ByteArray) (hyes:hasName (s.rss 0) nm=true) (o:Ob) (ho:o=(qac (s.rss 0) nm).ob) (hm:o.mode=0) (he:o.epoch<100) (htp:Cof.tsize o.mode o.t*Cof.ngroups o.mode o.t o.l o.size≤tape.size) (hup:∀i,i<L.n→s.dn i=false)
  (hgd:¬∀i,i<L.n→∃P,Cof.Good L.key (Cof.head o.mode o.t o.l L.n i o.epoch o.size nm.data.toList) (Cof.ngroups o.mode o.t o.l o.size) ((qac (s.rss i) nm).x s.X) P) :
  Calls Tryz.prog 17 #[.pointer (some ⟨L.C,0,none⟩),.string nm,.string tape] w fun e w'=>e=.returned (.int .i64 12)∧Below w.heap.size w w':=by
 have ha:=h.ask hc.1
 obtain ⟨hH,hall,hon⟩:=h.held hc nm hyes o ho
 have hg:=(hall 0 h.n1).2.2.1
 have hob:=(hall 0 h.n1).2.1
 obtain ⟨r,hr⟩:∃r,r=qac (s.rss 0) nm:=⟨_,rfl⟩
 rw [←hr] at hg hob
 have hr':r=(s.rss 0)[qai (s.rss 0) nm]! := hr
 have e0:r.name=nm:=by rw [←hon,←hob];rfl
 have em:r.mode=o.mode:=by rw [←hob];rfl
 have et:r.t=o.t:=by rw [←hob];rfl
 have el:r.l=o.l:=by rw [←hob];rfl
 have ez:r.size=o.size:=by rw [←hob];rfl
 have ee:r.epoch=o.epoch:=by rw [←hob];rfl
 have hp:qaj r.mode r.t r.l L.n:=hg.plan
 have hz:=hg.z
 obtain ⟨m,hmn,hbef,hbad⟩:=qfO L.n _ hgd
 obtain ⟨P,hP⟩:∃P:Nat→List UInt8,∀i,i<m→Cof.Good L.key (Cof.head o.mode o.t o.l L.n i o.epoch o.size nm.data.toList) (Cof.ngroups o.mode o.t o.l o.size) ((qac (s.rss i) nm).x s.X) (P i):=by
  classical
  refine ⟨fun i=>if hi:i<m then Classical.choose (hbef i hi) else [],fun i hi=>?_⟩
  simp only [dif_pos hi]
  exact Classical.choose_spec (hbef i hi)
 have hng:=qao hp r.size hz
 have hn1:=hg.n1
 have hn12:=hg.n12
 have hek:=hg.e
 rw [e0] at hn1 hn12
 rw [em,et,el] at hp
 rw [em,et,el,ez] at hng
 refine qcR L.C L.V 3 12 nm tape w h.cf (by omega) h.G.et (qd4 L.V 2 12 nm _ tape _ _ _ _ _ w (ha.object_some nm r hyes hr') fun w' hb=>?_)
 have h2:=ha.keeps hb
 have hHw:=hH.below hb
 rw [e0,em,et,el,ez,ee]
 refine (qdh L.V L.key L.n L.B L.bc L.sp o.mode o.t o.l o.size o.epoch nm tape P m (by omega) w' h2.rd (fun i hi=>by rw [h2.ups i hi,hup i hi]) h2.slt hp (by omega) (by omega) (by omega) hng (fun i hi=>(hP i hi).1) htp h2.tb
  (fun i hi w1 hb1 hT1=>hHw.piece_good hp (by omega) (by omega) hn1 hn12 h.hk hng i (by omega) (P i) (hP i hi) w1 hb1 hT1)
  (fun _ w1 hb1 hT1=>hHw.piece_bad hp (by omega) (by omega) hn1 hn12 h.hk hng m hmn hbad w1 hb1 hT1)).mono ?_
 rintro e w'' (⟨h3,_⟩|⟨_,h3⟩)
 ·omega
 ·exact h3
end
theorem Play.change1_ref {w:World} {G:Nat} {L:Seat} {s:Sta} {P:Nat} {dv:Value} {xs:List RObj} {wv ov:Value} {ls:List KL} (h:Play w G L s P dv xs wv ov ls) (a b:Int) (nm vl:ByteArray) (pm pt pl:Int) (tp:ByteArray) (yes:Bool) (tt:Int) (htp:tp.size≤9223372036854775807) :
  Calls Tryz.prog 109 #[.pointer (some ⟨G,0,none⟩),.agg #[.int .i64 5,.int .i64 a,.int .i64 b,.string nm,.string vl,.int .i64 pm,.int .i64 pt,.int .i64 pl,.string tp,.bool yes,.int .i64 tt]] w fun e w'=>qbE w G L s ov ls e w':=by
 obtain ⟨g,c,rfl,_,_⟩:=h.row.form (by decide)
 have hn1:=h.bank.n1
 have hn8:=h.bank.n8
 have ask:=fun w1 (hb:Below w.heap.size w w1)=>(h.bank.below hb).ask h.calm.1
 have wd:=fun w1 (hs:qaa (Mine L s) w w1)=>h.bank.wd_mine h.wd hs
 have NO:=fun k HC HR=>(Go.Proofs.YtcegdgmbponapaaGreatDoor.change1_ref (P:=P) a b nm vl pm pt pl tp yes tt k True (fun s'=>s'=s) (fun _ _=>False) h.no_hyp (no_c h.bank HC) (no_w HR)).mono fun e w' he=>h.no_end he
 cases hy:hasName (s.rss 0) nm with
 | false =>
  have hno:=h.twin.no (h.bank.so 0 hn1) nm hy
  exact NO 9 (fun w1 hb=>(ask w1 hb).refresh_none nm tp hy) (fun w1 hs=>((wd w1 hs).refreshing_none nm tp hno).mono fun e w2 ⟨h1,h2⟩=>⟨h1,by rw [h2];exact bl⟩)
 | true =>
  obtain ⟨p,hp⟩:∃p,p=qai (s.rss 0) nm:=⟨_,rfl⟩
  obtain ⟨k1,k2,k3,k4,hok,hsh⟩:=h.obj nm hy p hp
  obtain ⟨r,hr⟩:∃r,r=qac (s.rss 0) nm:=⟨_,rfl⟩
  have hg:=h.bank.ok 0 hn1 _ (qas hy).1
  rw [←hr] at k2 hg
  have hr':r=(s.rss 0)[qai (s.rss 0) nm]! := hr
  have e0:r.name=nm:=by rw [hr];exact (qas hy).2
  have em:(xs[p]!).ob.mode=r.mode:=by rw [k2];rfl
  have et:(xs[p]!).ob.t=r.t:=by rw [k2];rfl
  have el:(xs[p]!).ob.l=r.l:=by rw [k2];rfl
  have ez:(xs[p]!).ob.size=r.size:=by rw [k2];rfl
  have ee:(xs[p]!).ob.epoch=r.epoch:=by rw [k2];rfl
  have hpn:qaj r.mode r.t r.l L.n:=hg.plan
  have hmode:r.mode=0∨r.mode=1:=by rcases hpn.md with ⟨h,_⟩|⟨h,_⟩;exact .inl h;exact .inr h
  rcases hmode with hm0 | hm1
  rotate_left
  ·refine NO 11 (fun w1 hb=>(ask w1 hb).refresh_of nm tp r 11 1 (by decide) hy hr' fun w' h2=>?_) (fun w1 hs=>(wd w1 hs).refreshing_mode nm tp p k1 k3 k4 (by rw [em];omega))
   rw [hm1]
   exact qe6 L.V r.t r.l r.size r.epoch r.name tp w'
  by_cases he:r.epoch<100
  rotate_left
  ·refine NO 6 (fun w1 hb=>(ask w1 hb).refresh_of nm tp r 6 1 (by decide) hy hr' fun w' h2=>?_) (fun w1 hs=>(wd w1 hs).refreshing_full nm tp p k1 k3 k4 hok (by rw [em];exact hm0) (by rw [ee];omega))
   rw [hm0]
   exact qe8 L.V r.t r.l r.size r.epoch r.name tp w' (by omega) (by have:=hg.e;omega) h2.tb
  by_cases ht:tp.size<Cof.tsize r.mode r.t*Cof.ngroups r.mode r.t r.l r.size
  ·exact NO 7 (fun w1 hb=>(ask w1 hb).refresh_tape nm tp r hy hr' hpn hm0 he hg.z ht) (fun w1 hs=>(wd w1 hs).refreshing_tape nm tp p k1 k3 k4 hok (by rw [em];exact hm0) (by rw [ee];exact he) (by rw [em,et,el,ez];exact ht))
  have ht':Cof.tsize r.mode r.t*Cof.ngroups r.mode r.t r.l r.size≤tp.size:=by omega
  rcases qjV L.n s.dn with hup | hd
  rotate_left
  ·exact NO 8 (fun w1 hb=>(ask w1 hb).refresh_down nm tp r hy hr' hpn hm0 he hg.z ht' hd) (fun w1 hs=>(wd w1 hs).refreshing_down nm tp p k1 k3 k4 hok (by rw [em];exact hm0) (by rw [ee];exact he) (by rw [em,et,el,ez];exact ht') htp hd)
  obtain ⟨bad,Q,hJ⟩:=qeZ L.key (xs[p]!).ob.mode (xs[p]!).ob.t (xs[p]!).ob.l L.n (xs[p]!).ob.epoch (xs[p]!).ob.size (xs[p]!).ob.name (Cof.ngroups (xs[p]!).ob.mode (xs[p]!).ob.t (xs[p]!).ob.l (xs[p]!).ob.size) (fun _=>false) (fun i=>((xs[p]!).sh[i]!).data.toList)
  obtain ⟨o2,ho2⟩:∃o2:Ob,o2=⟨(xs[p]!).ob.name,(xs[p]!).ob.mode,(xs[p]!).ob.t,(xs[p]!).ob.l,(xs[p]!).ob.size,(xs[p]!).ob.epoch+1⟩:=⟨_,rfl⟩
  obtain ⟨new,hnew⟩:∃new,new=(List.range L.n).map fun i=>(⟨(qaR L.key o2 L.n i (Cof.sumRow (Q i) ((Cof.split (List.replicate (xs[p]!).ob.size 0) (xs[p]!).ob.mode (xs[p]!).ob.t (xs[p]!).ob.l L.n tp.data.toList).getD i []))).toArray⟩:ByteArray):=⟨_,rfl⟩
  have HREF:=fun w1 (hw:Wd w1 P L.n L.key s.dn dv xs)=>hw.refreshing_go nm tp p k1 k3 k4 hok (by rw [em];exact hm0) (by rw [ee];exact he) (by rw [em,et,el,ez];exact ht') htp hup (fun i hi=>(hsh i hi).2.2) bad Q hJ o2 ho2 new hnew
  have hgood:∀i,i<L.n→bad i=false→Cof.Good L.key (Cof.head r.mode r.t r.l L.n i r.epoch r.size nm.data.toList) (Cof.ngroups r.mode r.t r.l r.size) ((qac (s.rss i) nm).x s.X) (Q i):=fun i hi hb=>by
   have h1:=(hJ i hi rfl).1 hb
   simp only [(hsh i hi).1] at h1
   rw [k3,em,et,el,ez,ee] at h1
   exact h1
  by_cases hbad:∃i,i<L.n∧bad i=true
  ·refine NO 12 (fun w1 hb=>(h.bank.below hb).ref_bad h.calm nm tp hy r.ob (by rw [hr]) hm0 he ht' hup fun hall=>?_) (fun w1 hs=>(HREF w1 (wd w1 hs)).mono ?_)
   ·obtain ⟨i,hi,hbi⟩:=hbad
    refine (hJ i hi rfl).2 hbi ?_
    simp only [(hsh i hi).1]
    rw [k3,em,et,el,ez,ee]
    exact hall i hi
   ·rintro e w2 (⟨h1,_⟩|⟨_,h2,h3⟩)
    ·obtain ⟨i,hi,hbi⟩:=hbad
     rw [h1 i hi] at hbi
     cases hbi
    ·exact ⟨h2,h3⟩
  have hall:∀i,i<L.n→bad i=false:=fun i hi=>by
   cases hb:bad i with
   | false=>rfl
   | true=>exact absurd ⟨i,hi,hb⟩ hbad
  refine (Go.Proofs.YtcegdgmbponapaaGreatDoor.change1_ref (P:=P) a b nm vl pm pt pl tp yes tt 0 False (fun s'=>∃zs,(∀i,s'.rss i=refL L.n s.rss nm zs (2*L.n) i)∧News L s s' ⟨nm,0,r.t,r.l,r.size,r.epoch+1⟩ (fun i=>qaR L.key ⟨nm,0,r.t,r.l,r.size,r.epoch+1⟩ L.n i (Cof.sumRow (Q i) ((Cof.split (List.replicate r.size 0) 0 r.t r.l L.n tp.data.toList).getD i []))) zs∧s'.p=s.p.ticks (2*L.n)∧Calm L s')
   (Q2T L s fun us=>∃(ys:List RObj) (sa:Option Addr) (sc:Nat),us=ys.set p ⟨o2,sa,sc,new⟩∧ys.length=xs.length∧∀j,j<xs.length→(ys[j]!).ob=(xs[j]!).ob∧(ys[j]!).sh=(xs[j]!).sh) (h.yes_hyp _ _ (2*L.n) ⟨by omega,by omega⟩ fun s' ⟨_,_,_,hp',_⟩=>hp') ?_ ?_).mono fun e w' he=>h.yes_end he (2*L.n) ⟨by omega,by omega⟩ ?_
  ·intro w1 hb
   refine ((h.bank.below hb).ref_q h.calm h.quiet nm tp hy r.ob (by rw [hr]) hup hm0 he ht' Q (fun i hi=>hgood i hi (hall i hi))).mono ?_
   rintro e w2 ⟨s',ys,hB,hN,hrs,rfl,h4,h5,hs⟩
   exact ⟨rfl,⟨s',hB,ys,hrs,hN,h4,h5⟩,hs⟩
  ·intro w1 hs
   refine (HREF w1 (wd w1 hs)).mono ?_
   rintro e w2 (⟨_,X,dv',ys,sa,sc,rfl,hw,hyl,hys,hb,hdb⟩|⟨⟨i,hi,hbi⟩,_⟩)
   ·exact ⟨_,rfl,.inr ⟨X,rfl,rfl,id,dv',_,hw,⟨ys,sa,sc,rfl,hyl,hys⟩,fun b hb'=>Nat.le_trans (Nat.le_trans h.bank.G.bs hs.size) (hdb b hb')⟩,hb⟩
   ·rw [hall i hi] at hbi
    cases hbi
  ·rintro s' ⟨zs,hrs,hN,hp',hc'⟩
   refine ⟨hp',hc',hN.dn,?_⟩
   rintro _ ⟨ys,sa,sc,rfl,hyl,hys⟩
   have ho2':o2=(⟨nm,0,r.t,r.l,r.size,r.epoch+1⟩:Ob):=by rw [ho2,k3,em,et,el,ez,ee,hm0]
   have hobs:∀i,i<L.n→(qac (s.rss i) nm).ob=r.ob:=fun i hi=>by
    rw [hr]
    have:=h.calm.2.has h.bank.so 0 i hn1 hi _ (qas hy).1
    rw [(qas hy).2] at this
    exact this.2.1
   have h1:=(h.twin.congr hyl hys).ref (X':=s'.X) (nm:=nm) (zs:=zs) (o:=r.ob) (o':=o2) hn1 h.bank.so h.has hy hobs (by rw [ho2',←e0,←hm0];rfl) hN.old ⟨o2,sa,sc,new⟩ rfl (fun i hi=>by
    show (new[i]!).data.toList=_
    rw [hnew,qfR _ i hi,hN.new i hi,ho2',em,et,el,ez,hm0])
   rw [←hp] at h1
   rw [show s'.rss=refL L.n s.rss nm zs (2*L.n) from funext hrs]
   exact h1
end Go.Proofs.YtcegdgmbponapaaGreatDoor