import Derived.Test.YtcegdgmbponapaaGreatDoorPart36
set_option maxRecDepth 100000
set_option maxHeartbeats 4000000
namespace Go.Proofs.YtcegdgmbponapaaGreatDoor
open Go.RowKit
attribute [local go_sem ↓] Go.wp_at_zero Go.wp_at_succ
theorem Bank.shard_yes {w:World} {L:Seat} {s:Sta} (h:Bank w L s) (hcr:s.p.crashed=false) (i:Nat) (hi:i<L.n) (nm:ByteArray) (hyes:hasName (s.rss i) nm=true) :
  Calls Tryz.prog 22 #[.pointer (some ⟨L.C,0,none⟩),.int .i64 i,.string nm] w fun e w'=>e=.returned (.tuple #[.string ⟨((qac (s.rss i) nm).x s.X).toArray⟩,.int .i64 0])∧Below w.heap.size w w':=by
 obtain ⟨a,c,_,hst⟩:=(h.st i hi).st
 have hg:=h.ok i hi _ (qas hyes).1
 refine qjA L.C L.V i (qac (s.rss i) nm).sn nm _ w h.cf hg.bytes.symm ?_
 refine (qim L.V L.key L.n L.B L.bc L.sp i (s.dn i) a c (s.rss i) (qac (s.rss i) nm) nm w (h.ask hcr).rd hi hst hyes rfl).mono ?_
 rintro e w' ⟨rfl,hb⟩
 exact ⟨(qac (s.rss i) nm).sa,(qac (s.rss i) nm).sc,rfl,(hg.own.rd).below hb nl,hb⟩
theorem qg3 (n i:Nat) (rs:List RecV) (X Y:Nat→List UInt8) (k:Nat):∀m,k<m→∃A B,qbT n i rs X Y m=A++(X k++B)
 | 0,h=>absurd h (Nat.not_lt_zero _)
 | m+1,h=>by
  unfold qbT
  by_cases hk:k=m
  ·subst hk
   unfold qel
   exact ⟨qbT n i rs X Y k++(UInt8.ofNat (rs[k]!).count :: Cof.head (rs[k]!).mode (rs[k]!).t (rs[k]!).l n i (rs[k]!).epoch (rs[k]!).size (rs[k]!).name.data.toList),Y k,by simp⟩
  ·obtain ⟨A,B,e⟩:=qg3 n i rs X Y k m (by omega)
   rw [e]
   exact ⟨A,B++qel n i (rs[m]!) (X m) (Y m),by simp⟩
theorem qjb (n i:Nat) (rs:List RecV) (X:Nat→List UInt8) (nm:ByteArray) (hy:hasName rs nm=true):∃A B,qbb n i rs X=A++((qac rs nm).x X++B):=qg3 n i rs _ _ (qai rs nm) rs.length (qbz hy)
theorem qhq (A T B:List UInt8):(⟨(A++(T++B)).toArray⟩:ByteArray).extract A.length (A.length+(⟨T.toArray⟩:ByteArray).size)=⟨T.toArray⟩:=by
 apply qg9
 rw [ByteArray.data_extract]
 simp [ByteArray.size]
theorem qla {w:World} {L:Seat} {s:Sta} {G n key:Nat} {wv ov:Value} {wr:Int} (hg:Gm w G L.C n key wv wr ov) (h:Bank w L s) (hc:Calm L s) (ig c:Nat) (nm:ByteArray) (hA:Rd w (some ⟨ig,0,none⟩) (strs (qaG L s))) :
  Calls Tryz.prog 111 #[.pointer (some ⟨G,0,none⟩),.slice (some ⟨ig,0,none⟩) L.n c,.string nm] w fun e w'=>e=.returned (.bool true)∧Below w.heap.size w w':=by
 have hn8:=h.n8
 have hsz:∀i,i<L.n→(qbb L.n i (s.rss i) s.X).length≤5000:=fun i hi=>by
  have h1:=qg5 (h.ok i hi) i (s.rss i).length nl
  have h2:=(h.st i hi).le
  unfold qbb
  omega
 have HSH:=hid (show ∀(i:Nat) (w':World),i<L.n→Below w.heap.size w w'→Calls Tryz.prog 22 #[.pointer (some ⟨L.C,0,none⟩),.int .i64 i,.string nm] w' fun e w''=>∃(S:ByteArray) (k:Int) (p:Nat),e=.returned (.tuple #[.string S,.int .i64 k])∧p+S.size≤(⟨(qbb L.n i (s.rss i) s.X).toArray⟩:ByteArray).size∧(⟨(qbb L.n i (s.rss i) s.X).toArray⟩:ByteArray).extract p (p+S.size)=S∧Below w'.heap.size w' w'' from fun i w' hi hb=>by
  have h':=h.below hb
  cases hy:hasName (s.rss i) nm with
  | false =>
   refine ((h'.ask hc.1).shard_none i nm hi hy).mono ?_
   rintro e w'' ⟨rfl,hb2⟩
   exact ⟨_,_,0,rfl,Nat.zero_le _,by apply qg9;rw [ByteArray.data_extract];simp,hb2⟩
  | true =>
   refine (h'.shard_yes hc.1 i hi nm hy).mono ?_
   rintro e w'' ⟨rfl,hb2⟩
   obtain ⟨A,B,e⟩:=qjb L.n i (s.rss i) s.X nm hy
   refine ⟨_,_,A.length,rfl,?_,?_,hb2⟩
   ·rw [e];simp [ByteArray.size]
   ·rw [e];exact qhq _ _ _)
 have HI:=hid (show ∀(i:Nat) (w':World),i<L.n→Below w.heap.size w w'→w'.cell? ⟨ig,i,none⟩=some (.string ⟨(qbb L.n i (s.rss i) s.X).toArray⟩) from fun i w' hi hb=>by
  obtain ⟨b,o,e,_,hcc⟩:=hA.below hb nl i (.string ⟨(qbb L.n i (s.rss i) s.X).toArray⟩) (by simp [strs,str,qaG,hi])
  cases e
  rw [Nat.zero_add] at hcc
  exact hcc)
 have HSZ:=hid (show ∀i,i<L.n→(⟨(qbb L.n i (s.rss i) s.X).toArray⟩:ByteArray).size≤5000 from fun i hi=>by simpa [ByteArray.size] using hsz i hi)
 obtain ⟨I,hI⟩:∃I:Nat→ByteArray,∀i,I i=⟨(qbb L.n i (s.rss i) s.X).toArray⟩:=⟨_,fun _=>rfl⟩
 have HG:=hid hg
 simp only [←hI] at HSH HI HSZ
 generalize L.n=m at *
 generalize L.C=C at *
 clear h hc hA hsz hg hI
 go_enter Tryz.func111,Tryz.ntmps111
 go_wp2_with fail
 go_loopw [7] (fun u wr=>∃k:Nat,u=.int .i64 k∧k≤m∧Below w.heap.size w wr) (fun u _=>m-(intOf u).toNat)
 case atStart=>exact ⟨0,rfl,Nat.zero_le _,bl⟩
 case round =>
  obtain ⟨k,rfl,hk,hbr⟩:=hrel
  have hgr:=HG.out.below hbr
  have g0:wr.cell? ⟨G,0,none⟩=some (.pointer (some ⟨C,0,none⟩)):=cq hgr rfl
  clear hgr
  by_cases hlt:k<m
  ·have hlt':(k:Int)<(m:Int):=by omega
   go_wp2_with fail
   refine (HSH.out k wr hlt hbr).mono ?_
   rintro e w2 ⟨S,ek,p,rfl,hp,hex,hb2⟩
   have hb02:=hbr.trans (hb2.mono hbr.size)
   have i2:=HI.out k w2 hlt hb02
   have HH:=hid (qkf (I k) S p w2 (HSZ.out k hlt) hp hex)
   clear hp hex g0
   go_wp2_with fail
   refine HH.out.mono ?_
   rintro e w3 ⟨rfl,hw3⟩
   obtain rfl:=hw3.symm
   clear HH i2
   by_cases hek:ek=0
   ·subst hek
    go_wp2_with (go_at_call 112;refine (qbv 0 _).mono ?_;rintro e w4 ⟨rfl,hw4⟩;obtain rfl:=hw4.symm)
    go_roundw
    case rel=>exact ⟨k+1,by go_num,hlt,hb02⟩
    case measure=>simp [intOf];omega
   ·have hek':((ek:Int) == 0)=false:=by simpa using hek
    go_wp2_with (go_at_call 112;refine (qbv ek _).mono ?_;rintro e w4 ⟨rfl,hw4⟩;obtain rfl:=hw4.symm)
    go_roundw
    case rel=>exact ⟨k+1,by go_num,hlt,hb02⟩
    case measure=>simp [intOf];omega
  ·have hlt':¬(k:Int)<(m:Int):=by omega
   go_wp2_with fail
   go_ret
   exact ⟨rfl,hbr⟩
theorem qaa.none_below {w w':World} (h:qaa (fun _=>False) w w'):Below w.heap.size w w':=h.below _ nl fun _ h=>h.elim
theorem qaa.undrew {own:Nat→Prop} {w w':World} (h:qaa own { w with drawn:=w.drawn+1 } w'):qaa own w w':=⟨h.os,h.tape,h.output,h.size,h.block⟩
theorem Below.undrew {B:Nat} {w w':World} (h:Below B { w with drawn:=w.drawn+1 } w'):Below B w w':=⟨h.os,h.tape,h.output,h.size,h.block⟩
theorem qlj (t:Array Value) (h:t.size=64):∃f:Nat→Value,(∀k,t.getD k undef=f k)∧t=#[f 0,f 1,f 2,f 3,f 4,f 5,f 6,f 7,f 8,f 9,f 10,f 11,f 12,f 13,f 14,f 15,f 16,f 17,f 18,f 19,f 20,f 21,f 22,f 23,f 24,f 25,f 26,f 27,f 28,f 29,f 30,f 31,f 32,f 33,f 34,f 35,f 36,f 37,f 38,f 39,f 40,f 41,f 42,f 43,f 44,f 45,f 46,f 47,f 48,f 49,f 50,f 51,f 52,f 53,f 54,f 55,f 56,f 57,f 58,f 59,f 60,f 61,f 62,f 63]:=⟨fun k=>t.getD k undef,fun _=>rfl,qco t 64 h⟩
def upA (G C B0:Nat) (a:Int) (yes:Bool) (k:Int) (Q:World→Prop):Nat→Value→World→Prop
 | 0,v,_=>v=.pointer (some ⟨G,0,none⟩)
 | 1,v,_=>v=.pointer (some ⟨G,0,none⟩)
 | 2,v,_=>v=.pointer (some ⟨G,0,none⟩)
 | 3,v,_=>v=.pointer (some ⟨C,0,none⟩)
 | 4,v,_=>v=.pointer (some ⟨B0,1,none⟩)
 | 5,v,_=>v=.int .i64 a
 | 6,v,_=>v=.pointer (some ⟨B0,9,none⟩)
 | 7,v,_=>v=.bool yes
 | 8,v,w=>v=.int .i64 k∧Q w
 | _,_,_=>False
theorem qjm (G C B0:Nat) (a:Int) (yes:Bool) (k:Int) (Q:World→Prop) (hQ:∀w w',Q w→qaa (fun _=>False) w w'→Q w') (j:Nat) (v:Value) (w w':World) (h:upA G C B0 a yes k Q j v w) (hs:qaa (fun _=>False) w w'):upA G C B0 a yes k Q j v w':=by
 unfold upA at h ⊢
 split at h<;>first | exact h | exact ⟨h.1,hQ _ _ h.2 hs⟩
theorem qhX (G C B0:Nat) (a:Int) (yes:Bool) (k:Int) (Q:World→Prop) (j:Nat) (v:Value) (w w':World) (hj:j≠8) (h:upA G C B0 a yes k Q j v w):upA G C B0 a yes k Q j v w':=by
 unfold upA at h ⊢
 split at h<;>first | exact h | exact absurd rfl hj
def upB (G g c P B0:Nat) (a:Int) (yes:Bool) (k:Int) (Q:World→Prop):Nat→Value→World→Prop
 | 0,v,_=>v=.pointer (some ⟨G,0,none⟩)
 | 1,v,_=>v=.pointer (some ⟨G,0,none⟩)
 | 2,v,_=>v=.pointer (some ⟨G,3,none⟩)
 | 3,v,_=>v=.slice (some ⟨g,0,none⟩) 1 c
 | 4,v,_=>v=.int .i64 0
 | 5,v,_=>v=.pointer (some ⟨g,0,none⟩)
 | 6,v,_=>v=.pointer (some ⟨P,0,none⟩)
 | 7,v,_=>v=.pointer (some ⟨B0,1,none⟩)
 | 8,v,_=>v=.int .i64 a
 | 9,v,_=>v=.pointer (some ⟨B0,9,none⟩)
 | 10,v,_=>v=.bool yes
 | 11,v,w=>v=.int .i64 k∧Q w
 | _,_,_=>False
theorem qjz (G g c P B0:Nat) (a:Int) (yes:Bool) (k:Int) (Q:World→Prop) (hQ:∀w w',Q w→qaa (fun _=>False) w w'→Q w') (j:Nat) (v:Value) (w w':World) (h:upB G g c P B0 a yes k Q j v w) (hs:qaa (fun _=>False) w w'):upB G g c P B0 a yes k Q j v w':=by
 unfold upB at h ⊢
 split at h<;>first | exact h | exact ⟨h.1,hQ _ _ h.2 hs⟩
theorem qiH (G g c P B0:Nat) (a:Int) (yes:Bool) (k:Int) (Q:World→Prop) (j:Nat) (v:Value) (w w':World) (hj:j≠11) (h:upB G g c P B0 a yes k Q j v w):upB G g c P B0 a yes k Q j v w':=by
 unfold upB at h ⊢
 split at h<;>first | exact h | exact absurd rfl hj
theorem qh4 {w:World} {G C n key:Nat} {P g c:Nat} {wr:Int} {ov:Value} (kind a b:Int) (nm vl:ByteArray) (pm pt pl:Int) (tp:ByteArray) (yes:Bool) (tt:Int) (k:Int) (O1 O2:Nat→Prop) (Q1 Q2:World→Prop)
  (hg:Gm w G C n key (.slice (some ⟨g,0,none⟩) 1 c) wr ov) (hrow:w.cell? ⟨g,0,none⟩=some (.pointer (some ⟨P,0,none⟩))) (hgl:g<w.heap.size)
  (o1:∀x,O1 x→x<w.heap.size∧x≠G∧x≠g) (o2:∀x,O2 x→x<w.heap.size∧x≠G∧x≠g)
  (hQ1:∀w w',Q1 w→qaa (fun _=>False) w w'→Q1 w') (hQ2:∀w w',Q2 w→qaa (fun _=>False) w w'→Q2 w')
  (HC:∀w1,Below w.heap.size w w1→Calls Tryz.prog 21 #[.pointer (some ⟨C,0,none⟩),.int .i64 a,.bool yes] w1 fun e w2=>e=.returned (.int .i64 k)∧Q1 w2∧qaa O1 w1 w2)
  (HR:∀w1,Q1 w1→Calls Tryz.prog 116 #[.pointer (some ⟨P,0,none⟩),.int .i64 a,.bool yes] w1 fun e w2=>e=.returned (.int .i64 k)∧Q2 w2∧qaa O2 w1 w2) :
  Calls Tryz.prog 67 #[.pointer (some ⟨G,0,none⟩),.agg #[.int .i64 kind,.int .i64 a,.int .i64 b,.string nm,.string vl,.int .i64 pm,.int .i64 pt,.int .i64 pl,.string tp,.bool yes,.int .i64 tt]] w fun e w'=>e=.returned (.bool true)∧Q2 w'∧qaa (fun x=>O1 x∨O2 x) w w':=by
 have hG:=cells_lt hg
 have HG:=hid hg
 have HRW:=hid hrow
 have H1:=hid HC
 have H2:=hid HR
 have O1H:=hid o1
 have O2H:=hid o2
 have Q1H:=hid hQ1
 have Q2H:=hid hQ2
 clear hg hrow HC HR o1 o2 hQ1 hQ2
 go_enter Tryz.func67,Tryz.ntmps67
 go_wp2_with fail
 obtain ⟨w1,hw1⟩:∃w1,w1=w.alloc (.cells #[.int .i64 kind,.int .i64 a,.int .i64 b,.string nm,.string vl,.int .i64 pm,.int .i64 pt,.int .i64 pl,.string tp,.bool yes,.int .i64 tt] 91):=⟨_,rfl⟩
 obtain ⟨B0,hB0⟩:∃B0,B0=w.heap.size:=⟨_,rfl⟩
 have hb01:Below w.heap.size w w1:=by rw [hw1];exact (Below.refl _ _).alloc nl _
 have HB1:=hid (show w1.heap[B0]?=some (.cells #[.int .i64 kind,.int .i64 a,.int .i64 b,.string nm,.string vl,.int .i64 pm,.int .i64 pt,.int .i64 pl,.string tp,.bool yes,.int .i64 tt] 91) from by rw [hw1,hB0];exact alloc_at _ _)
 rw [←hw1,←hB0]
 have HB0:=hid hB0
 have hB1l:=cells_lt HB1.out
 clear hw1 hB0
 have HA:∀w':World,qaa O1 { w1 with drawn:=w1.drawn+1 } w'→w'.cell? ⟨G,0,none⟩=some (.pointer (some ⟨C,0,none⟩))∧w'.cell? ⟨B0,1,none⟩=some (.int .i64 a)∧w'.cell? ⟨B0,9,none⟩=some (.bool yes):=by
  intro w' hs
  have hs':=hs.undrew
  have hg':=hs'.heap ((hb01.block G hG).trans HG.out) (fun e=>(O1H.out G e).2.1 rfl)
  have hb':=hs'.heap HB1.out (fun e=>by have:=(O1H.out B0 e).1;have:=HB0.out;omega)
  exact ⟨cq hg' rfl,cq hb' rfl,cq hb' rfl⟩
 refine qa3 (by kernel_rfl) (fun i=>i+9) (upA G C B0 a yes k Q1) O1 64 9 8 [0,3] (by kernel_rfl) (by kernel_rfl) rfl rfl (qjm G C B0 a yes k Q1 Q1H.out) (fun j v w w' hj h _=>qhX G C B0 a yes k Q1 j v w w' hj h) ?_ ?_
 ·refine ⟨?_,?_,?_,?_,?_,?_,?_,?_,?_,trivial⟩
  all_goals
   intro a0 w' hs hm0 hf hd
   obtain ⟨q0,q1,q2⟩:=HA w' hs
   simp at hf
   simp [upA] at hd
   try (refine .inl ⟨_,w',?_,fun _=>qaa.refl _ _,sr,rfl⟩;go_simp;done)
  have hbw:Below w.heap.size w w':=hb01.trans ((hm0 rfl).undrew.none_below.mono hb01.size)
  refine .inr ⟨21,#[.pointer (some ⟨C,0,none⟩),.int .i64 a,.bool yes],by go_simp,(H1.out w' hbw).mono ?_⟩
  rintro e w2 ⟨rfl,hq,hs2⟩
  exact ⟨_,rfl,fun h=>absurd rfl h,hs2,rfl,hq⟩
 ·intro a0 w2 oo hoo hdf hsz hs hf hr
  cases hoo
  have r8:=hr 8 (by decide)
  simp [upA] at r8
  obtain ⟨r8v,hq1⟩:=r8
  obtain ⟨q0,q1,q2⟩:=HA w2 hs
  have hs12:=hs.undrew
  obtain ⟨tm,df⟩:=a0
  simp only at hdf hsz hf r8v
  subst hdf
  obtain ⟨f2,hf2,rfl⟩:=qlj tm hsz
  have e0:=(hf2 0).symm.trans (hf 0 (by decide))
  have e3:=(hf2 3).symm.trans (hf 3 (by decide))
  have er:f2 17=.int .i64 k:=r8v
  have HQ1:=hid hq1
  clear hr hf hsz r8v HA hs hq1 q0 q1 q2 hf2
  have hG2:=hs12.heap ((hb01.block G hG).trans HG.out) (fun e=>(O1H.out G e).2.1 rfl)
  have g3:w2.cell? ⟨G,3,none⟩=some (.slice (some ⟨g,0,none⟩) 1 c):=cq hG2 rfl
  have HG2:=hid hG2
  have HB2:=hid (hs12.heap HB1.out (fun e=>by have:=(O1H.out B0 e).1;have:=HB0.out;omega))
  have hz2:=hs12.size
  have hz1:=hb01.size
  have HR2:=hid (show w2.cell? ⟨g,0,none⟩=some (.pointer (some ⟨P,0,none⟩)) from (hs12.cell (a:=⟨g,0,none⟩) (by show g<w1.heap.size;omega) (fun e=>(O1H.out g e).2.2 rfl)).trans ((hb01.cell (by exact hgl)).trans HRW.out))
  clear hG2
  simp only [e0,e3,er]
  clear e0 e3 er
  go_wp2_with fail
  refine wp_loop_rounds 2 ?_
  rw [rounds_succ]
  go_wp2_with fail
  have HB:∀w':World,qaa O2 { w2 with drawn:=w2.drawn+1 } w'→w'.cell? ⟨G,3,none⟩=some (.slice (some ⟨g,0,none⟩) 1 c)∧w'.cell? ⟨g,0,none⟩=some (.pointer (some ⟨P,0,none⟩))∧w'.cell? ⟨B0,1,none⟩=some (.int .i64 a)∧w'.cell? ⟨B0,9,none⟩=some (.bool yes):=by
   intro w' hs
   have hs':=hs.undrew
   have hg':=hs'.heap HG2.out (fun e=>(O2H.out G e).2.1 rfl)
   have hb':=hs'.heap HB2.out (fun e=>by have:=(O2H.out B0 e).1;have:=HB0.out;omega)
   exact ⟨cq hg' rfl,(hs'.cell (a:=⟨g,0,none⟩) (by show g<w2.heap.size;omega) (fun e=>(O2H.out g e).2.2 rfl)).trans HR2.out,cq hb' rfl,cq hb' rfl⟩
  refine qa3 (by kernel_rfl) (fun i=>i+27) (upB G g c P B0 a yes k Q2) O2 64 12 11 [0,3,5,7] (by kernel_rfl) (by kernel_rfl) rfl rfl (qjz G g c P B0 a yes k Q2 Q2H.out) (fun j v w w' hj h _=>qiH G g c P B0 a yes k Q2 j v w w' hj h) ?_ ?_
  ·refine ⟨?_,?_,?_,?_,?_,?_,?_,?_,?_,?_,?_,?_,trivial⟩
   all_goals
    intro a0 w' hs hm0 hf hd
    obtain ⟨q0,q1,q2,q3⟩:=HB w' hs
    simp at hf
    simp [upB] at hd
    try (refine .inl ⟨_,w',?_,fun _=>qaa.refl _ _,sr,rfl⟩;go_simp;done)
   refine .inr ⟨116,#[.pointer (some ⟨P,0,none⟩),.int .i64 a,.bool yes],by go_simp,(H2.out w' (Q1H.out _ _ HQ1.out (hm0 rfl).undrew)).mono ?_⟩
   rintro e w3 ⟨rfl,hq,hs2⟩
   exact ⟨_,rfl,fun h=>absurd rfl h,hs2,rfl,hq⟩
  ·intro a0 w3 oo hoo hdf hsz hs hf hr
   cases hoo
   have r11:=hr 11 (by decide)
   simp [upB] at r11
   obtain ⟨r11v,hq2⟩:=r11
   obtain ⟨q0,q1,q2,q3⟩:=HB w3 hs
   have hs23:=hs.undrew
   have hG3:=hs23.heap HG2.out (fun e=>(O2H.out G e).2.1 rfl)
   have k3:w3.cell? ⟨G,3,none⟩=some (.slice (some ⟨g,0,none⟩) 1 c):=cq hG3 rfl
   have k8:w3.cell? ⟨G,8,none⟩=some (.slice none 0 0):=cq hG3 rfl
   obtain ⟨tm,df⟩:=a0
   simp only at hdf hsz hf r11v
   subst hdf
   obtain ⟨f3,hf3,rfl⟩:=qlj tm hsz
   have e0:=(hf3 0).symm.trans (hf 0 (by decide))
   have e5:=(hf3 5).symm.trans (hf 5 (by decide))
   have e7:=(hf3 7).symm.trans (hf 7 (by decide))
   have er:f3 38=.int .i64 k:=r11v
   have HE:=hid (show Q2 w3∧qaa (fun x=>O1 x∨O2 x) w w3 from ⟨hq2,((qaa.ofBelow hb01 nl).trans (hs12.mono fun x hx=>.inl hx)).trans (hs23.mono fun x hx=>.inr hx)⟩)
   clear hr hf hsz r11v HB hs hq2 q0 q1 q2 q3 g3 hG3 hf3
   simp only [e0,e5,e7,er]
   clear e0 e5 e7 er
   go_wp2_with fail
   rw [rounds_succ]
   go_wp2_with fail
   refine wp_loop_rounds 1 ?_
   rw [rounds_succ]
   go_wp2_with (go_at_call 112;refine (qbv k _).mono ?_;rintro e w4 ⟨rfl,hw4⟩;obtain rfl:=hw4.symm)
   go_ret
   exact ⟨rfl,HE.out⟩
theorem qax {P:Program} {ops:Array Oper} {Q:Exit→Act→World→Prop} {id:Nat} {a:Act} {w:World} (hm:P.follows .mixedOrders=true) (slot:Nat→Nat) (R:Nat→Value→World→Prop) (N:Nat) (keys:List Nat)
  (hok:qjX ops slot N keys=true)
  (ha:a.defers=[]) (hN:a.tmps.size=N)
  (hper:∀j v w w',R j v w→Below w.heap.size w w'→R j v w')
  (hstep:qdf P slot R (keys.map fun k=>(k,a.tmps.getD k undef)) { w with drawn:=w.drawn+1 } 0 ops.toList)
  (hend:∀a' w',a'.defers=[]→a'.tmps.size=N→Below w.heap.size { w with drawn:=w.drawn+1 } w'→(∀k∈keys,a'.tmps.getD k undef=a.tmps.getD k undef)→(∀j,j<ops.size→R j (a'.tmps.getD (slot j) undef) w')→Q .normal a' w') :
  (Code.region id ops true).wp P Q a w :=
 qbq hm slot R (keys.map fun k=>(k,a.tmps.getD k undef)) N keys hok (by rw [List.map_map];exact List.map_id keys) ha hN (fun p hp=>by obtain ⟨k,_,rfl⟩:=List.mem_map.1 hp;rfl) hper hstep
  (fun a' w' h1 h2 h3 h4 h5=>hend a' w' h1 h2 h3 (fun k hk=>h4 (k,a.tmps.getD k undef) (List.mem_map.2 ⟨k,hk,rfl⟩)) h5)
theorem qdr (t:Array Value) (h:t.size=169):∃f:Nat→Value,(∀k,t.getD k undef=f k)∧t=#[f 0,f 1,f 2,f 3,f 4,f 5,f 6,f 7,f 8,f 9,f 10,f 11,f 12,f 13,f 14,f 15,f 16,f 17,f 18,f 19,f 20,f 21,f 22,f 23,f 24,f 25,f 26,f 27,f 28,f 29,f 30,f 31,f 32,f 33,f 34,f 35,f 36,f 37,f 38,f 39,f 40,f 41,f 42,f 43,f 44,f 45,f 46,f 47,f 48,f 49,f 50,f 51,f 52,f 53,f 54,f 55,f 56,f 57,f 58,f 59,f 60,f 61,f 62,f 63,f 64,f 65,f 66,f 67,f 68,f 69,f 70,f 71,f 72,f 73,f 74,f 75,f 76,f 77,f 78,f 79,f 80,f 81,f 82,f 83,f 84,f 85,f 86,f 87,f 88,f 89,f 90,f 91,f 92,f 93,f 94,f 95,f 96,f 97,f 98,f 99,f 100,f 101,f 102,f 103,f 104,f 105,f 106,f 107,f 108,f 109,f 110,f 111,f 112,f 113,f 114,f 115,f 116,f 117,f 118,f 119,f 120,f 121,f 122,f 123,f 124,f 125,f 126,f 127,f 128,f 129,f 130,f 131,f 132,f 133,f 134,f 135,f 136,f 137,f 138,f 139,f 140,f 141,f 142,f 143,f 144,f 145,f 146,f 147,f 148,f 149,f 150,f 151,f 152,f 153,f 154,f 155,f 156,f 157,f 158,f 159,f 160,f 161,f 162,f 163,f 164,f 165,f 166,f 167,f 168]:=⟨fun k=>t.getD k undef,fun _=>rfl,qco t 169 h⟩
def C1V (no:Prop) (k:Int) (Q2:Nat→World→Prop) (x:Value) (w:World):Prop:=(no∧x=.pointer none)∨∃X,x=.pointer (some ⟨X,0,none⟩)∧k=0∧¬no∧Q2 X w
def C1W (w w':World) (P g' c':Nat) (no:Prop) (Q2:Nat→World→Prop):Prop :=
 (no∧w'.ownsRow w.heap.size 88 1 (.slice (some ⟨g',0,none⟩) 1 c') 1 [.pointer (some ⟨P,0,none⟩)])∨∃X,w'.ownsRow w.heap.size 88 1 (.slice (some ⟨g',0,none⟩) 1 c') 1 [.pointer (some ⟨X,0,none⟩)]∧Q2 X w'
def C1End (w:World) (G:Nat) (L:Seat) (s:Sta) (n key P:Nat) (ov:Value) (no:Prop) (R:Sta→Prop) (Q2:Nat→World→Prop) (w':World):Prop :=
 ∃s' g' c',R s'∧Bank w' L s'∧Gm w' G L.C n key (.slice (some ⟨g',0,none⟩) 1 c') s'.p.done ov∧qaa (fun b=>Mine L s b∨b=G) w w'∧C1W w w' P g' c' no Q2
def qfY (w:World) (G:Nat) (L:Seat) (s:Sta) (n key P:Nat) (ov:Value) (no:Prop) (R:Sta→Prop) (Q2:Nat→World→Prop) (e:Ending) (w':World):Prop:=e=.returned (.bool true)∧C1End w G L s n key P ov no R Q2 w'
structure qdP (w:World) (G:Nat) (L:Seat) (s:Sta) (n key g c P:Nat) (ov:Value) (no:Prop) (R:Sta→Prop) (Q2:Nat→World→Prop):Prop where
 hg:Gm w G L.C n key (.slice (some ⟨g,0,none⟩) 1 c) s.p.done ov
 hgb:L.base≤G
 hrow:w.ownsRow L.base 88 1 (.slice (some ⟨g,0,none⟩) 1 c) 1 [.pointer (some ⟨P,0,none⟩)]
 hB:Bank w L s
 hN:no→∀s',R s'→wrap64 (s'.p.done-s.p.done)=0
 hR:∀s',R s'→¬no→0<wrap64 (s'.p.done-s.p.done)
 qb:∀X w w',Q2 X w→Below w.heap.size w w'→Q2 X w'
 qg:∀X w w',Q2 X w→(∃cs,w.heap[G]?=some (.cells cs 87))→qaa (fun b=>b=G) w w'→Q2 X w'
section
variable {w:World} {G:Nat} {L:Seat} {s:Sta} {n key g c P:Nat} {ov:Value} {no:Prop} {R:Sta→Prop} {Q2:Nat→World→Prop}
theorem qdP.o1 (h:qdP w G L s n key g c P ov no R Q2):∀x,Mine L s x→x<w.heap.size∧x≠G∧x≠g:=fun x hx=>by
 refine ⟨h.hB.mine_lt hx,fun e=>h.hB.mine_not h.hg (by unfold GT;simp) (e ▸ hx),fun e=>?_⟩
 obtain ⟨cs,fz,h1⟩:=owns_block h.hrow (b:=g) rfl
 exact h.hB.mine_not h1 (by unfold GT;simp) (e ▸ hx)
theorem qdP.v1 (h:qdP w G L s n key g c P ov no R Q2) {k:Int}:∀x w w',C1V no k Q2 x w→Below w.heap.size w w'→C1V no k Q2 x w':=by
 rintro x w w' (h1 | ⟨X,h1,h2,h3,h4⟩) hb
 ·exact .inl h1
 ·exact .inr ⟨X,h1,h2,h3,h.qb X _ _ h4 hb⟩
theorem qdP.fin (h:qdP w G L s n key g c P ov no R Q2) {w2 w3 w5 w5':World} {s':Sta} {g4 c4:Nat} (hB:Bank w2 L s') (hr:R s') (hb23:Below w2.heap.size w2 w3) (hb35:Below w3.heap.size w3 w5) (hs:qaa (Mine L s) w w3) (hg5:Gm w5 G L.C n key (.slice (some ⟨g,0,none⟩) 1 c) s.p.done ov) (hsG:qaa (fun b=>b=G) w5 w5') (hgs:Gm w5' G L.C n key (.slice (some ⟨g4,0,none⟩) 1 c4) s.p.done ov) :
  Gm w5' G L.C n key (.slice (some ⟨g4,0,none⟩) 1 c4) s.p.done ov∧Bank w5' L s'∧∀(g' c':Nat) (w6:World) (o:Option Nat),Gm w6 G L.C n key (.slice (some ⟨g',0,none⟩) 1 c') s'.p.done ov→qaa (fun b=>b=G) w5' w6→w5.ownsRow w.heap.size 88 1 (.slice (some ⟨g',0,none⟩) 1 c') 1 [.pointer (some ⟨o.getD P,0,none⟩)]→(match o with | none=>no | some X=>∃w4,Below w4.heap.size w4 w5∧Q2 X w4)→C1End w G L s n key P ov no R Q2 w6:=by
 have hty:∀{w:World} {wv:Value} {d:Int},Gm w G L.C n key wv d ov→∀b,b=G→b<w.heap.size→Ty GT w L.base b:=fun hg b e _=>by rw [e];exact ⟨h.hgb,_,_,_,hg,by unfold GT;simp⟩
 have hB5:=(hB.below (hb23.trans (hb35.mono hb23.size))).keeps hsG (hty hg5)
 refine ⟨hgs,hB5,fun g' c' w6 o hg6 hs6 hrow ho=>?_⟩
 have h5:=qab hrow hsG (fun b hb e=>qaz hrow hg5 (by decide) (by rw [←e];exact hb))
 have h6:=qab h5 hs6 (fun b hb e=>qaz h5 hgs (by decide) (by rw [←e];exact hb))
 refine ⟨s',g',c',hr,hB5.keeps hs6 (hty hgs),hg6,(((hs.mono (own':=fun b=>Mine L s b∨b=G) fun b hb=>.inl hb).trans (qaa.ofBelow hb35 nl)).trans (hsG.mono fun b hb=>.inr hb)).trans (hs6.mono fun b hb=>.inr hb),?_⟩
 cases o with
 | none=>exact .inl ⟨ho,h6⟩
 | some X =>
  obtain ⟨w4,hb,hq⟩:=ho
  exact .inr ⟨X,h6,h.qg X _ _ (h.qg X _ _ (h.qb X _ _ hq hb) ⟨_,hg5⟩ hsG) ⟨_,hgs⟩ hs6⟩
end
def qgC (G C B0:Nat) (nm _vl:ByteArray) (_pm _pt _pl:Int) (_tp:ByteArray) (k:Int) (Q:World→Prop):Nat→Value→World→Prop
 | 0,v,_=>v=.pointer (some ⟨G,0,none⟩)
 | 1,v,_=>v=.pointer (some ⟨G,0,none⟩)
 | 2,v,_=>v=.pointer (some ⟨G,0,none⟩)
 | 3,v,_=>v=.pointer (some ⟨C,0,none⟩)
 | 4,v,_=>v=.pointer (some ⟨B0,3,none⟩)
 | 5,v,_=>v=.string nm
 | 6,v,w=>v=.int .i64 k∧Q w
 | _,_,_=>False
def qh2 (G g c P B0:Nat) (nm _vl:ByteArray) (_pm _pt _pl:Int) (_tp:ByteArray) (k:Int) (V:Value→World→Prop):Nat→Value→World→Prop
 | 0,v,_=>v=.pointer (some ⟨G,0,none⟩)
 | 1,v,_=>v=.pointer (some ⟨G,0,none⟩)
 | 2,v,_=>v=.pointer (some ⟨G,3,none⟩)
 | 3,v,_=>v=.slice (some ⟨g,0,none⟩) 1 c
 | 4,v,_=>v=.int .i64 0
 | 5,v,_=>v=.pointer (some ⟨g,0,none⟩)
 | 6,v,_=>v=.pointer (some ⟨P,0,none⟩)
 | 7,v,_=>v=.pointer (some ⟨B0,3,none⟩)
 | 8,v,_=>v=.string nm
 | 9,v,w=>∃x,v=.tuple #[x,.int .i64 k]∧V x w
 | 10,v,w=>∃x,v=.tuple #[x,.int .i64 k]∧V x w
 | 11,v,w=>V v w
 | 12,v,_=>v=.int .i64 k
 | 13,v,w=>V v w
 | 14,v,_=>v=.int .i64 k
 | _,_,_=>False
theorem change1_del {w:World} {L:Seat} {s:Sta} {G n key P g c:Nat} {ov:Value} (a b:Int) (nm vl:ByteArray) (pm pt pl:Int) (tp:ByteArray) (yes:Bool) (tt k:Int) (no:Prop) (R:Sta→Prop) (Q2:Nat→World→Prop) (hC:qdP w G L s n key g c P ov no R Q2)
  (HC:∀w1,Below w.heap.size w w1→Calls Tryz.prog 57 #[.pointer (some ⟨L.C,0,none⟩),.string nm] w1 fun e w2=>e=.returned (.int .i64 k)∧(∃s',Bank w2 L s'∧R s')∧qaa (Mine L s) w1 w2)
  (HR:∀w1,qaa (Mine L s) w w1→Calls Tryz.prog 160 #[.pointer (some ⟨P,0,none⟩),.string nm] w1 fun e w2=>∃x,e=.returned (.tuple #[x,.int .i64 k])∧C1V no k Q2 x w2∧Below w1.heap.size w1 w2) :
  Calls Tryz.prog 109 #[.pointer (some ⟨G,0,none⟩),.agg #[.int .i64 4,.int .i64 a,.int .i64 b,.string nm,.string vl,.int .i64 pm,.int .i64 pt,.int .i64 pl,.string tp,.bool yes,.int .i64 tt]] w fun e w'=>qfY w G L s n key P ov no R Q2 e w':=by
 obtain ⟨i0,hi,ti0,ti1,ti2⟩:=info_parts Tryz.infoPW
 have HCC:=hid hC
 have o1:=hC.o1
 have V1H:=hid (hC.v1 (k:=k))
 have Q1H:=hid (show ∀w w',(∃s',Bank w L s'∧R s')→qaa (fun _=>False) w w'→∃s',Bank w' L s'∧R s' from fun w w' ⟨s',h1,h2⟩ hs=>⟨s',h1.below hs.none_below,h2⟩)
 have hG:=cells_lt hC.hg
 have hgl:g<w.heap.size:=(hC.hrow.lt g rfl).2
 have HG:=hid hC.hg
 have HRW:=hid (show w.cell? ⟨g,0,none⟩=some (.pointer (some ⟨P,0,none⟩)) from hC.hrow.cellAt 0 (by decide))
 obtain ⟨Q1,hQ1⟩:∃Q1:World→Prop,Q1=fun w=>∃s',Bank w L s'∧R s':=⟨_,rfl⟩
 obtain ⟨V1,hV1⟩:∃V1,V1=C1V no k Q2:=⟨_,rfl⟩
 obtain ⟨O1,hO1⟩:∃O1,O1=Mine L s:=⟨_,rfl⟩
 have H1:=hid HC
 have H2:=hid HR
 change Hid (∀w w',(fun w=>∃s',Bank w L s'∧R s') w→qaa (fun _=>False) w w'→(fun w=>∃s',Bank w L s'∧R s') w') at Q1H
 change Hid (∀w1,Below w.heap.size w w1→Calls Tryz.prog 57 #[.pointer (some ⟨L.C,0,none⟩),.string nm] w1 fun e w2=>e=.returned (.int .i64 k)∧(fun w=>∃s',Bank w L s'∧R s') w2∧qaa (Mine L s) w1 w2) at H1
 rw [←hQ1] at Q1H H1
 rw [←hV1] at V1H H2
 rw [←hO1] at H1 H2 o1
 have O1H:=hid o1
 have HO1:=hid hO1
 have HQ1E:=hid hQ1
 have HV1E:=hid hV1
 obtain ⟨C,hC'⟩:∃C,C=L.C:=⟨_,rfl⟩
 rw [←hC'] at HG H1
 have HC0:=hid hC'
 clear HC HR o1 hO1 hQ1 hV1 hC' hC
 go_enter Tryz.func109,Tryz.ntmps109
 go_wp2_with fail
 obtain ⟨w1,hw1⟩:∃w1,w1=w.alloc (.cells #[.int .i64 4,.int .i64 a,.int .i64 b,.string nm,.string vl,.int .i64 pm,.int .i64 pt,.int .i64 pl,.string tp,.bool yes,.int .i64 tt] 91):=⟨_,rfl⟩
 obtain ⟨B0,hB0⟩:∃B0,B0=w.heap.size:=⟨_,rfl⟩
 have hb01:Below w.heap.size w w1:=by rw [hw1];exact (Below.refl _ _).alloc nl _
 have HB1:=hid (show w1.heap[B0]?=some (.cells #[.int .i64 4,.int .i64 a,.int .i64 b,.string nm,.string vl,.int .i64 pm,.int .i64 pt,.int .i64 pl,.string tp,.bool yes,.int .i64 tt] 91) from by rw [hw1,hB0];exact alloc_at _ _)
 rw [←hw1,←hB0]
 have HB0:=hid hB0
 have hB1l:=cells_lt HB1.out
 clear hw1 hB0
 have HA:∀w':World,qaa O1 { w1 with drawn:=w1.drawn+1 } w'→w'.cell? ⟨G,0,none⟩=some (.pointer (some ⟨C,0,none⟩))∧w'.cell? ⟨B0,3,none⟩=some (.string nm):=by
  intro w' hs
  have hs':=hs.undrew
  have hg':=hs'.heap ((hb01.block G hG).trans HG.out) (fun e=>(O1H.out G e).2.1 rfl)
  have hb':=hs'.heap HB1.out (fun e=>by have:=(O1H.out B0 e).1;have:=HB0.out;omega)
  exact ⟨cq hg' rfl,cq hb' rfl⟩
 refine qa3 (by kernel_rfl) (fun i=>i+41) (qgC G C B0 nm vl pm pt pl tp k Q1) O1 169 7 6 [0,3] (by kernel_rfl) (by kernel_rfl) rfl rfl (fun j v w w' h hs=>by unfold qgC at h ⊢;split at h<;>first | exact h | exact ⟨h.1,Q1H.out _ _ h.2 hs⟩) (fun j v w w' hj h _=>by unfold qgC at h ⊢;split at h<;>first | exact h | exact absurd rfl hj) ?_ ?_
 ·refine ⟨?_,?_,?_,?_,?_,?_,?_,trivial⟩
  all_goals
   intro a0 w' hs hm0 hf hd
   obtain ⟨q0,q1⟩:=HA w' hs
   simp at hf
   simp [qgC] at hd
   try (refine .inl ⟨_,w',?_,fun _=>qaa.refl _ _,sr,rfl⟩;go_simp;done)
  have hbw:Below w.heap.size w w':=hb01.trans ((hm0 rfl).undrew.none_below.mono hb01.size)
  refine .inr ⟨57,#[.pointer (some ⟨C,0,none⟩),.string nm],by go_simp,(H1.out w' hbw).mono ?_⟩
  rintro e w2 ⟨rfl,hq,hs2⟩
  exact ⟨_,rfl,fun h=>absurd rfl h,hs2,rfl,hq⟩
 ·intro a0 w2 oo hoo hdf hsz hs hf hr
  cases hoo
  have r8:=hr 6 (by decide)
  simp [qgC] at r8
  obtain ⟨r8v,hq1⟩:=r8
  have hs12:=hs.undrew
  obtain ⟨tm,df⟩:=a0
  simp only at hdf hsz hf r8v
  subst hdf
  obtain ⟨f2,hf2,rfl⟩:=qdr tm hsz
  have e0:=(hf2 0).symm.trans (hf 0 (by decide))
  have e3:=(hf2 3).symm.trans (hf 3 (by decide))
  have er:f2 47=.int .i64 k:=r8v
  have HQ1:=hid hq1
  clear hr hf hsz r8v HA hs hq1 hf2
  have hG2:=hs12.heap ((hb01.block G hG).trans HG.out) (fun e=>(O1H.out G e).2.1 rfl)
  have g3:w2.cell? ⟨G,3,none⟩=some (.slice (some ⟨g,0,none⟩) 1 c):=cq hG2 rfl
  have g7:w2.cell? ⟨G,7,none⟩=some (.bool false):=cq hG2 rfl
  have HG2:=hid hG2
  have hB2:=hs12.heap HB1.out (fun e=>by have:=(O1H.out B0 e).1;have:=HB0.out;omega)
  have b0:w2.cell? ⟨B0,0,none⟩=some (.int .i64 4):=cq hB2 rfl
  have HB2:=hid hB2
  have hz2:=hs12.size
  have hz1:=hb01.size
  have HR2:=hid (show w2.cell? ⟨g,0,none⟩=some (.pointer (some ⟨P,0,none⟩)) from (hs12.cell (a:=⟨g,0,none⟩) (by show g<w1.heap.size;omega) (fun e=>(O1H.out g e).2.2 rfl)).trans ((hb01.cell (by exact hgl)).trans HRW.out))
  have HS02:=hid (show qaa O1 w w2 from (qaa.ofBelow hb01 nl).trans hs12)
  clear hG2 hB2 hs12
  simp only [e0,e3,er]
  clear e0 e3 er
  go_wp2_with fail
  refine wp_loop_rounds 2 ?_
  rw [rounds_succ]
  go_wp2_with fail
  have HB:∀w':World,Below w2.heap.size { w2 with drawn:=w2.drawn+1 } w'→qaa O1 w w'∧w'.cell? ⟨G,3,none⟩=some (.slice (some ⟨g,0,none⟩) 1 c)∧w'.cell? ⟨g,0,none⟩=some (.pointer (some ⟨P,0,none⟩))∧w'.cell? ⟨B0,3,none⟩=some (.string nm):=by
   intro w' hb
   have hb2:=Below.undrew hb
   have hg':=(hb2.block G (cells_lt HG2.out)).trans HG2.out
   have hb':=(hb2.block B0 (cells_lt HB2.out)).trans HB2.out
   exact ⟨HS02.out.trans (qaa.ofBelow hb2 nl),cq hg' rfl,(hb2.cell (by show g<w2.heap.size;omega)).trans HR2.out,cq hb' rfl⟩
  refine qax (by kernel_rfl) (fun i=>if i<10 then i+111 else if i=10 then 110 else if i=11 then 121 else if i=12 then 122 else if i=13 then 10 else 11) (qh2 G g c P B0 nm vl pm pt pl tp k V1) 169 [0,3,5,7,8,9] (by kernel_rfl) rfl rfl (fun j v w w' h hb=>by unfold qh2 at h ⊢;split at h<;>first | exact h | (obtain ⟨x,h1,h2⟩:=h;exact ⟨x,h1,V1H.out _ _ _ h2 hb⟩)|exact V1H.out _ _ _ h hb) ?_ ?_
  ·refine ⟨?_,?_,?_,?_,?_,?_,?_,?_,?_,?_,?_,?_,?_,?_,?_,trivial⟩
   all_goals
    intro a0 w' hb hf hd
    obtain ⟨hsw,qg,qr,q1⟩:=HB w' hb
    simp at hf
    simp [qh2,Region.binds] at hd
    try (refine .inl ⟨_,w',?_,bl,rfl⟩;go_simp;done)
   ·refine .inr ⟨160,#[.pointer (some ⟨P,0,none⟩),.string nm],by go_simp,(H2.out w' hsw).mono ?_⟩
    rintro e w3 ⟨x,rfl,hv,hb3⟩
    exact ⟨_,rfl,hb3,x,rfl,hv⟩
   ·obtain ⟨x,hx,hv⟩:=hd
    exact .inl ⟨.tuple #[x,.int .i64 k],w',by go_simp,bl,x,rfl,hv⟩
   ·obtain ⟨x,hx,hv⟩:=hd
    exact .inl ⟨x,w',by go_simp,bl,hv⟩
   ·obtain ⟨x,hx,hv⟩:=hd
    exact .inl ⟨.int .i64 k,w',by go_simp,bl,rfl⟩
   ·exact .inl ⟨a0.tmps[121]?.getD undef,w',by go_simp,bl,by first | exact hd | exact hd.1⟩
  ·intro a0 w3 hdf hsz hb hf hr
   have r10:=hr 13 (by decide)
   have r11:=hr 14 (by decide)
   simp [qh2] at r10 r11
   obtain ⟨hsw,qg,qr,q1⟩:=HB w3 hb
   have hb23:=Below.undrew hb
   obtain ⟨tm,df⟩:=a0
   simp only at hdf hsz hf r10 r11
   subst hdf
   obtain ⟨f3,hf3,rfl⟩:=qdr tm hsz
   have e0:=(hf3 0).symm.trans (hf 0 (by decide))
   have e5:=(hf3 5).symm.trans (hf 5 (by decide))
   have e7:=(hf3 7).symm.trans (hf 7 (by decide))
   have e8:=(hf3 8).symm.trans (hf 8 (by decide))
   have e9:=(hf3 9).symm.trans (hf 9 (by decide))
   have e11:f3 11=.int .i64 k:=r11
   obtain ⟨x,hx⟩:∃x,x=f3 10:=⟨_,rfl⟩
   have HV:=hid (show V1 x w3 from by rw [hx];exact r10)
   have HG3:=hid ((hb23.block G (cells_lt HG2.out)).trans HG2.out)
   have k3:w3.cell? ⟨G,3,none⟩=some (.slice (some ⟨g,0,none⟩) 1 c):=cq HG3.out rfl
   have hzz:=hb23.size
   have HS03:=hid hsw
   clear hr hf hsz r11 HB hb qg q1 g3 g7 b0 hsw r10 hf3
   simp only [e0,e5,e7,e8,e9,e11,←hx]
   clear e0 e5 e7 e8 e9 e11 hx
   have hx:=HV.out
   rw [HV1E.out] at hx
   obtain ⟨y,rfl⟩:∃y,x=.pointer y:=by rcases hx with ⟨_,rfl⟩|⟨X,rfl,_⟩<;>exact ⟨_,rfl⟩
   have HX:=hid hx
   clear hx
   go_wp2_with (first
    | (go_at_call 112;refine (qbv k _).mono ?_;rintro e w9 ⟨rfl,hw9⟩;obtain rfl:=hw9.symm)
    | (at_builtin;refine wpList_append_lies _ rfl (.tmp 136) (.tmp 144) 81 rfl w3.heap.size 88 i0 (.pointer none) 1 8 Tryz.underlying81 hi ti0 ti1 ti2 rfl (by decide) (.slice none 0 0) 0 [] rfl (World.ownsRow_nil _ _ _ _) ⟨w3.heap.size,0,none⟩ 1 1 [.pointer (some ⟨P,0,none⟩)] rfl rfl (World.news_of_block (cs:=#[.pointer (some ⟨P,0,none⟩)]) (t:=88) (fr:=(0,0)) (heap_alloc_new w3 _)) (by simp [Value.oneCell']) (by decide) (by unfold maxLen;omega) (by omega) (by simp<;>omega) (w3.heap.size+1) (by simp) ?_;intro g4 c4 w4 hown4 hgrow4 hat4 _;have HO4:=hid hown4;have hb34:Below w3.heap.size w3 w4:=((Below.refl w3.heap.size w3).alloc nl _).grown hgrow4 (by simp<;>omega) (fun b hb=>by cases hb);clear hown4 hgrow4 hat4)
    | (at_builtin;refine wpList_append_lies _ rfl (.tmp 146) (.tmp 148) 81 rfl w4.heap.size 88 i0 (.pointer none) 1 8 Tryz.underlying81 hi ti0 ti1 ti2 rfl (by decide) (.slice none 0 0) 0 [] rfl (World.ownsRow_nil _ _ _ _) ⟨w4.heap.size,0,none⟩ 1 1 [.pointer y] rfl rfl (World.news_of_block (cs:=#[.pointer y]) (t:=88) (fr:=(0,0)) (heap_alloc_new w4 _)) (by simp [Value.oneCell']) (by decide) (by unfold maxLen;omega) (by omega) (by simp<;>omega) (w4.heap.size+1) (by simp) ?_;intro g5 c5 w5 hown5 hgrow5 hat5 _;have hb45:Below w4.heap.size w4 w5:=((Below.refl w4.heap.size w4).alloc nl _).grown hgrow5 (by simp<;>omega) (fun b hb=>by cases hb);have hb35:Below w3.heap.size w3 w5:=hb34.trans (hb45.mono hb34.size);have hG5:Gm w5 G C n key (.slice (some ⟨g,0,none⟩) 1 c) s.p.done ov:=(hb35.block G (cells_lt HG3.out)).trans HG3.out;have k53:w5.cell? ⟨G,3,none⟩=some (.slice (some ⟨g,0,none⟩) 1 c):=(cq hG5 rfl);have f53:w5.frozen? ⟨G,3,none⟩=false:=qam hG5;have HO5:=hid hown5;have hsG:qaa (fun b=>b=G) w5 (w5.setCell ⟨G,3,none⟩ (.slice (some ⟨g4,0,none⟩) 1 c4)):=qaa.setCell (own:=fun b=>b=G) (p:=⟨G,3,none⟩) sr rfl _;have HGS:=hid (show Gm (w5.setCell ⟨G,3,none⟩ (.slice (some ⟨g4,0,none⟩) 1 c4)) G C n key (.slice (some ⟨g4,0,none⟩) 1 c4) s.p.done ov from qan _ hG5);have HSG:=hid hsG;have n50:(w5.setCell ⟨G,3,none⟩ (.slice (some ⟨g4,0,none⟩) 1 c4)).cell? ⟨g5,0,none⟩=some (.pointer y):=(hsG.cell (a:=⟨g5,0,none⟩) (hown5.lt g5 rfl).2 (fun e=>qaz hown5 hG5 (by decide) (by rw [←e];rfl))).trans (hown5.cellAt 0 (by decide));have HG5:=hid hG5;clear hown5 hgrow5 hat5 hG5 hsG k3)
    | fail)
   obtain ⟨s',hbk2,hrs'⟩:∃s',Bank w2 L s'∧R s':=by have:=HQ1.out;rw [HQ1E.out] at this;exact this
   obtain ⟨hgs,hbk5,HFIN⟩:=HCC.out.fin hbk2 hrs' hb23 hb35 (by have h:=HS03.out;rw [HO1.out] at h;exact h) (by have h:=HG5.out;rw [HC0.out] at h;exact h) HSG.out (by have h:=HGS.out;rw [HC0.out] at h;exact h)
   have HBB:=hid (show Bank _ L s'∧R s' from ⟨hbk5,hrs'⟩)
   have HGG:=hid hgs
   have HFF:=hid HFIN
   clear hbk2 hrs' hgs hbk5 HFIN
   rcases HX.out with ⟨hno,hy⟩|⟨X,hy,rfl,hq2⟩<;>cases hy
   ·rw [rounds_succ]
    go_wp2_with fail
    refine (HGG.out.done_any HBB.out.1).mono ?_
    rintro e w6 ⟨rfl,hg6,hs6⟩
    have HE:=hid (HFF.out g4 c4 w6 none hg6 hs6 (qaf (qae HO4.out hb45 nl) (by omega)) hno)
    rw [HCC.out.hN hno s' HBB.out.2]
    clear hg6 hs6 HFF HGG
    go_wp2_with fail
    go_ret
    exact ⟨rfl,HE.out⟩
   ·rw [rounds_succ]
    go_wp2_with fail
    refine (HGG.out.changes_any HBB.out.1 (some ⟨g5,0,none⟩) 1 c5 (HCC.out.hR s' HBB.out.2 hq2.1)).mono ?_
    rintro e w6 ⟨rfl,hg6,hs6⟩
    have HE:=hid (HFF.out g5 c5 w6 (some X) hg6 hs6 (qaf HO5.out (by have:=hb34.size;omega)) ⟨_,hb35,hq2.2⟩)
    clear hg6 hs6 HFF HGG
    go_wp2_with fail
    go_ret
    exact ⟨rfl,HE.out⟩
theorem qfp (t:Array Value) (h:t.size=113):∃f:Nat→Value,(∀k,t.getD k undef=f k)∧t=#[f 0,f 1,f 2,f 3,f 4,f 5,f 6,f 7,f 8,f 9,f 10,f 11,f 12,f 13,f 14,f 15,f 16,f 17,f 18,f 19,f 20,f 21,f 22,f 23,f 24,f 25,f 26,f 27,f 28,f 29,f 30,f 31,f 32,f 33,f 34,f 35,f 36,f 37,f 38,f 39,f 40,f 41,f 42,f 43,f 44,f 45,f 46,f 47,f 48,f 49,f 50,f 51,f 52,f 53,f 54,f 55,f 56,f 57,f 58,f 59,f 60,f 61,f 62,f 63,f 64,f 65,f 66,f 67,f 68,f 69,f 70,f 71,f 72,f 73,f 74,f 75,f 76,f 77,f 78,f 79,f 80,f 81,f 82,f 83,f 84,f 85,f 86,f 87,f 88,f 89,f 90,f 91,f 92,f 93,f 94,f 95,f 96,f 97,f 98,f 99,f 100,f 101,f 102,f 103,f 104,f 105,f 106,f 107,f 108,f 109,f 110,f 111,f 112]:=⟨fun k=>t.getD k undef,fun _=>rfl,qco t 113 h⟩
def qh3 (G C B0:Nat) (_a:Int) (nm A:ByteArray) (k:Int):Nat→Value→World→Prop
 | 0,v,_=>v=.pointer (some ⟨G,0,none⟩)
 | 1,v,_=>v=.pointer (some ⟨G,0,none⟩)
 | 2,v,_=>v=.pointer (some ⟨G,0,none⟩)
 | 3,v,_=>v=.pointer (some ⟨C,0,none⟩)
 | 4,v,_=>v=.pointer (some ⟨B0,3,none⟩)
 | 5,v,_=>v=.string nm
 | 6,v,_=>v=.tuple #[.string A,.int .i64 k]
 | 7,v,_=>v=.tuple #[.string A,.int .i64 k]
 | 8,v,_=>v=.string A
 | 9,v,_=>v=.int .i64 k
 | 10,v,_=>v=.string A
 | 11,v,_=>v=.int .i64 k
 | _,_,_=>False
def qhE (G g c P B0:Nat) (_a:Int) (nm A:ByteArray) (k:Int):Nat→Value→World→Prop
 | 0,v,_=>v=.pointer (some ⟨G,0,none⟩)
 | 1,v,_=>v=.pointer (some ⟨G,0,none⟩)
 | 2,v,_=>v=.pointer (some ⟨G,3,none⟩)
 | 3,v,_=>v=.slice (some ⟨g,0,none⟩) 1 c
 | 4,v,_=>v=.int .i64 0
 | 5,v,_=>v=.pointer (some ⟨g,0,none⟩)
 | 6,v,_=>v=.pointer (some ⟨P,0,none⟩)
 | 7,v,_=>v=.pointer (some ⟨B0,3,none⟩)
 | 8,v,_=>v=.string nm
 | 9,v,_=>v=.tuple #[.string A,.int .i64 k]
 | 10,v,_=>v=.tuple #[.string A,.int .i64 k]
 | 11,v,_=>v=.string A
 | 12,v,_=>v=.int .i64 k
 | 13,v,_=>v=.string A
 | 14,v,_=>v=.int .i64 k
 | _,_,_=>False
theorem qkQ {w:World} {G C n key P g c base:Nat} {wr:Int} {ov:Value} (a b:Int) (nm vl:ByteArray) (pm pt pl:Int) (tp:ByteArray) (yes:Bool) (tt:Int) (A:ByteArray) (k:Int)
  (hg:Gm w G C n key (.slice (some ⟨g,0,none⟩) 1 c) wr ov) (hrow:w.ownsRow base 88 1 (.slice (some ⟨g,0,none⟩) 1 c) 1 [.pointer (some ⟨P,0,none⟩)])
  (HC:∀w1,Below w.heap.size w w1→Calls Tryz.prog 24 #[.pointer (some ⟨C,0,none⟩),.string nm] w1 fun e w2=>e=.returned (.tuple #[.string A,.int .i64 k])∧Below w1.heap.size w1 w2)
  (HR:∀w1,Below w.heap.size w w1→Calls Tryz.prog 113 #[.pointer (some ⟨P,0,none⟩),.string nm] w1 fun e w2=>e=.returned (.tuple #[.string A,.int .i64 k])∧Below w1.heap.size w1 w2) :
  Calls Tryz.prog 65 #[.pointer (some ⟨G,0,none⟩),.agg #[.int .i64 3,.int .i64 a,.int .i64 b,.string nm,.string vl,.int .i64 pm,.int .i64 pt,.int .i64 pl,.string tp,.bool yes,.int .i64 tt]] w fun e w'=>e=.returned (.bool true)∧∃g' c',Gm w' G C n key (.slice (some ⟨g',0,none⟩) 1 c') wr ov∧w'.ownsRow w.heap.size 88 1 (.slice (some ⟨g',0,none⟩) 1 c') 1 [.pointer (some ⟨P,0,none⟩)]∧qaa (fun b=>b=G) w w':=by
 obtain ⟨i0,hi,ti0,ti1,ti2⟩:=info_parts Tryz.infoPW
 have hG:=cells_lt hg
 have hgl:g<w.heap.size:=(hrow.lt g rfl).2
 have HRW:=hid (show w.cell? ⟨g,0,none⟩=some (.pointer (some ⟨P,0,none⟩)) from hrow.cellAt 0 (by decide))
 have HG:=hid hg
 have H1:=hid HC
 have H2:=hid HR
 have hAA:(A.toList == A.toList)=true:=by simp
 clear hg hrow HC HR
 go_enter Tryz.func65,Tryz.ntmps65
 go_wp2_with fail
 obtain ⟨w1,hw1⟩:∃w1,w1=w.alloc (.cells #[.int .i64 3,.int .i64 a,.int .i64 b,.string nm,.string vl,.int .i64 pm,.int .i64 pt,.int .i64 pl,.string tp,.bool yes,.int .i64 tt] 91):=⟨_,rfl⟩
 obtain ⟨B0,hB0⟩:∃B0,B0=w.heap.size:=⟨_,rfl⟩
 have hb01:Below w.heap.size w w1:=by rw [hw1];exact (Below.refl _ _).alloc nl _
 have HB1:=hid (show w1.heap[B0]?=some (.cells #[.int .i64 3,.int .i64 a,.int .i64 b,.string nm,.string vl,.int .i64 pm,.int .i64 pt,.int .i64 pl,.string tp,.bool yes,.int .i64 tt] 91) from by rw [hw1,hB0];exact alloc_at _ _)
 rw [←hw1,←hB0]
 have HB0:=hid hB0
 have hB1l:=cells_lt HB1.out
 clear hw1 hB0
 have HA:∀w':World,Below w1.heap.size { w1 with drawn:=w1.drawn+1 } w'→Below w.heap.size w w'∧w'.cell? ⟨G,0,none⟩=some (.pointer (some ⟨C,0,none⟩))∧w'.cell? ⟨B0,3,none⟩=some (.string nm):=by
  intro w' hb
  have hb1:=Below.undrew hb
  have hb0:=hb01.trans (hb1.mono hb01.size)
  have hg':=HG.out.below hb0
  have hb':=(hb1.block B0 hB1l).trans HB1.out
  exact ⟨hb0,cq hg' rfl,cq hb' rfl⟩
 refine qax (by kernel_rfl) (fun i=>if i<7 then i+15 else if i=7 then 14 else if i=8 then 22 else if i=9 then 23 else if i=10 then 5 else 6) (qh3 G C B0 a nm A k) 113 [0,3] (by kernel_rfl) rfl rfl (fun j v w w' h _=>by unfold qh3 at h ⊢;split at h<;>exact h) ?_ ?_
 ·refine ⟨?_,?_,?_,?_,?_,?_,?_,?_,?_,?_,?_,?_,trivial⟩
  all_goals
   intro a0 w' hb hf hd
   obtain ⟨hbw,q0,q1⟩:=HA w' hb
   simp at hf
   simp [qh3,Region.binds] at hd
   try (refine .inl ⟨_,w',?_,bl,rfl⟩;go_simp;done)
  refine .inr ⟨24,#[.pointer (some ⟨C,0,none⟩),.string nm],by go_simp,(H1.out w' hbw).mono ?_⟩
  rintro e w3 ⟨rfl,hb3⟩
  exact ⟨_,rfl,hb3,rfl⟩
 ·intro a0 w2 hdf hsz hb hf hr
  have r5:=hr 10 (by decide)
  have r6:=hr 11 (by decide)
  simp [qh3] at r5 r6
  obtain ⟨hb02,q0,q1⟩:=HA w2 hb
  have hb12:=Below.undrew hb
  obtain ⟨tm,df⟩:=a0
  simp only at hdf hsz hf r5 r6
  subst hdf
  obtain ⟨f2,hf2,rfl⟩:=qfp tm hsz
  have e0:=(hf2 0).symm.trans (hf 0 (by decide))
  have e3:=(hf2 3).symm.trans (hf 3 (by decide))
  have e5:f2 5=.string A:=r5
  have e6:f2 6=.int .i64 k:=r6
  have hG2:=HG.out.below hb02
  have g3:w2.cell? ⟨G,3,none⟩=some (.slice (some ⟨g,0,none⟩) 1 c):=cq hG2 rfl
  have g7:w2.cell? ⟨G,7,none⟩=some (.bool false):=cq hG2 rfl
  have HG2:=hid hG2
  have hB2:=(hb12.block B0 hB1l).trans HB1.out
  have b0:w2.cell? ⟨B0,0,none⟩=some (.int .i64 3):=cq hB2 rfl
  have HB2:=hid hB2
  have HR2:=hid (show w2.cell? ⟨g,0,none⟩=some (.pointer (some ⟨P,0,none⟩)) from (hb02.cell (by exact hgl)).trans HRW.out)
  have hz2:=hb02.size
  clear hr hf hsz r5 r6 HA hb q0 q1 hG2 hB2 hf2
  simp only [e0,e3,e5,e6]
  clear e0 e3 e5 e6
  go_wp2_with fail
  refine wp_loop_rounds 2 ?_
  rw [rounds_succ]
  go_wp2_with fail
  have HB:∀w':World,Below w2.heap.size { w2 with drawn:=w2.drawn+1 } w'→Below w.heap.size w w'∧w'.cell? ⟨G,3,none⟩=some (.slice (some ⟨g,0,none⟩) 1 c)∧w'.cell? ⟨g,0,none⟩=some (.pointer (some ⟨P,0,none⟩))∧w'.cell? ⟨B0,3,none⟩=some (.string nm):=by
   intro w' hb
   have hb2:=Below.undrew hb
   have hg':=HG2.out.below hb2
   have hb':=(hb2.block B0 (cells_lt HB2.out)).trans HB2.out
   exact ⟨hb02.trans (hb2.mono hb02.size),cq hg' rfl,(hb2.cell (by show g<w2.heap.size;omega)).trans HR2.out,cq hb' rfl⟩
  refine qax (by kernel_rfl) (fun i=>if i<10 then i+60 else if i=10 then 59 else if i=11 then 70 else if i=12 then 71 else if i=13 then 9 else 10) (qhE G g c P B0 a nm A k) 113 [0,3,5,6,7,8] (by kernel_rfl) rfl rfl (fun j v w w' h _=>by unfold qhE at h ⊢;split at h<;>exact h) ?_ ?_
  ·refine ⟨?_,?_,?_,?_,?_,?_,?_,?_,?_,?_,?_,?_,?_,?_,?_,trivial⟩
   all_goals
    intro a0 w' hb hf hd
    obtain ⟨hbw,qg,qr,q1⟩:=HB w' hb
    simp at hf
    simp [qhE,Region.binds] at hd
    try (refine .inl ⟨_,w',?_,bl,rfl⟩;go_simp;done)
   refine .inr ⟨113,#[.pointer (some ⟨P,0,none⟩),.string nm],by go_simp,(H2.out w' hbw).mono ?_⟩
   rintro e w3 ⟨rfl,hb3⟩
   exact ⟨_,rfl,hb3,rfl⟩
  ·intro a0 w3 hdf hsz hb hf hr
   have r9:=hr 13 (by decide)
   have r10:=hr 14 (by decide)
   simp [qhE] at r9 r10
   obtain ⟨hb03,k3,qr,q1⟩:=HB w3 hb
   have hb23:=Below.undrew hb
   obtain ⟨tm,df⟩:=a0
   simp only at hdf hsz hf r9 r10
   subst hdf
   obtain ⟨f3,hf3,rfl⟩:=qfp tm hsz
   have e0:=(hf3 0).symm.trans (hf 0 (by decide))
   have e5:=(hf3 5).symm.trans (hf 5 (by decide))
   have e6:=(hf3 6).symm.trans (hf 6 (by decide))
   have e7:=(hf3 7).symm.trans (hf 7 (by decide))
   have e8:=(hf3 8).symm.trans (hf 8 (by decide))
   have e9:f3 9=.string A:=r9
   have e10:f3 10=.int .i64 k:=r10
   have HG3:=hid (HG.out.below hb03)
   clear hr hf hsz r9 r10 HB hb q1 g3 g7 b0 hf3
   simp only [e0,e5,e6,e7,e8,e9,e10]
   clear e0 e5 e6 e7 e8 e9 e10
   go_wp2_with (first
    | (go_at_call 112;refine (qbv k _).mono ?_;rintro e w9 ⟨rfl,hw9⟩;obtain rfl:=hw9.symm)
    | (at_builtin;refine wpList_append_lies _ rfl (.tmp 96) (.tmp 104) 81 rfl w3.heap.size 88 i0 (.pointer none) 1 8 Tryz.underlying81 hi ti0 ti1 ti2 rfl (by decide) (.slice none 0 0) 0 [] rfl (World.ownsRow_nil _ _ _ _) ⟨w3.heap.size,0,none⟩ 1 1 [.pointer (some ⟨P,0,none⟩)] rfl rfl (World.news_of_block (cs:=#[.pointer (some ⟨P,0,none⟩)]) (t:=88) (fr:=(0,0)) (heap_alloc_new w3 _)) (by simp [Value.oneCell']) (by decide) (by unfold maxLen;omega) (by omega) (by simp<;>omega) (w3.heap.size+1) (by simp) ?_;intro g4 c4 w4 hown4 hgrow4 hat4 _;have HO4:=hid hown4;have hb34:Below w3.heap.size w3 w4:=((Below.refl w3.heap.size w3).alloc nl _).grown hgrow4 (by simp<;>omega) (fun b hb=>by cases hb);have hg4:=HG3.out.below hb34;have k43:w4.cell? ⟨G,3,none⟩=some (.slice (some ⟨g,0,none⟩) 1 c):=(cq hg4 rfl);have f43:w4.frozen? ⟨G,3,none⟩=false:=qam hg4;have HG4:=hid hg4;clear hown4 hgrow4 hat4 hg4 k3)
    | fail)
   rw [rounds_succ]
   go_wp2_with fail
   go_ret
   have hsG:qaa (fun b=>b=G) w4 (w4.setCell ⟨G,3,none⟩ (.slice (some ⟨g4,0,none⟩) 1 c4)):=qaa.setCell (own:=fun b=>b=G) (p:=⟨G,3,none⟩) sr rfl _
   have h4:=qaf HO4.out hb03.size
   exact ⟨rfl,g4,c4,qan _ HG4.out,qab h4 hsG (fun b hb e=>qaz h4 HG4.out (by decide) (by rw [←e];exact hb)),(qaa.ofBelow (hb03.trans (hb34.mono hb03.size)) nl).trans hsG⟩
def qdN (G C B0:Nat) (a:Int) (nm A:ByteArray) (k:Int):Nat→Value→World→Prop
 | 0,v,_=>v=.pointer (some ⟨G,0,none⟩)
 | 1,v,_=>v=.pointer (some ⟨G,0,none⟩)
 | 2,v,_=>v=.pointer (some ⟨G,0,none⟩)
 | 3,v,_=>v=.pointer (some ⟨C,0,none⟩)
 | 4,v,_=>v=.pointer (some ⟨B0,1,none⟩)
 | 5,v,_=>v=.int .i64 a
 | 6,v,_=>v=.pointer (some ⟨B0,3,none⟩)
 | 7,v,_=>v=.string nm
 | 8,v,_=>v=.tuple #[.string A,.int .i64 k]
 | 9,v,_=>v=.tuple #[.string A,.int .i64 k]
 | 10,v,_=>v=.string A
 | 11,v,_=>v=.int .i64 k
 | 12,v,_=>v=.string A
 | 13,v,_=>v=.int .i64 k
 | _,_,_=>False
def qdI (G g c P B0:Nat) (a:Int) (nm A:ByteArray) (k:Int):Nat→Value→World→Prop
 | 0,v,_=>v=.pointer (some ⟨G,0,none⟩)
 | 1,v,_=>v=.pointer (some ⟨G,0,none⟩)
 | 2,v,_=>v=.pointer (some ⟨G,3,none⟩)
 | 3,v,_=>v=.slice (some ⟨g,0,none⟩) 1 c
 | 4,v,_=>v=.int .i64 0
 | 5,v,_=>v=.pointer (some ⟨g,0,none⟩)
 | 6,v,_=>v=.pointer (some ⟨P,0,none⟩)
 | 7,v,_=>v=.pointer (some ⟨B0,1,none⟩)
 | 8,v,_=>v=.int .i64 a
 | 9,v,_=>v=.pointer (some ⟨B0,3,none⟩)
 | 10,v,_=>v=.string nm
 | 11,v,_=>v=.tuple #[.string A,.int .i64 k]
 | 12,v,_=>v=.tuple #[.string A,.int .i64 k]
 | 13,v,_=>v=.string A
 | 14,v,_=>v=.int .i64 k
 | 15,v,_=>v=.string A
 | 16,v,_=>v=.int .i64 k
 | _,_,_=>False
theorem qiI {w:World} {G C n key P g c base:Nat} {wr:Int} {ov:Value} (a b:Int) (nm vl:ByteArray) (pm pt pl:Int) (tp:ByteArray) (yes:Bool) (tt:Int) (A:ByteArray) (k:Int)
  (hg:Gm w G C n key (.slice (some ⟨g,0,none⟩) 1 c) wr ov) (hrow:w.ownsRow base 88 1 (.slice (some ⟨g,0,none⟩) 1 c) 1 [.pointer (some ⟨P,0,none⟩)])
  (HC:∀w1,Below w.heap.size w w1→Calls Tryz.prog 22 #[.pointer (some ⟨C,0,none⟩),.int .i64 a,.string nm] w1 fun e w2=>e=.returned (.tuple #[.string A,.int .i64 k])∧Below w1.heap.size w1 w2)
  (HR:∀w1,Below w.heap.size w w1→Calls Tryz.prog 114 #[.pointer (some ⟨P,0,none⟩),.int .i64 a,.string nm] w1 fun e w2=>e=.returned (.tuple #[.string A,.int .i64 k])∧Below w1.heap.size w1 w2) :
  Calls Tryz.prog 65 #[.pointer (some ⟨G,0,none⟩),.agg #[.int .i64 7,.int .i64 a,.int .i64 b,.string nm,.string vl,.int .i64 pm,.int .i64 pt,.int .i64 pl,.string tp,.bool yes,.int .i64 tt]] w fun e w'=>e=.returned (.bool true)∧∃g' c',Gm w' G C n key (.slice (some ⟨g',0,none⟩) 1 c') wr ov∧w'.ownsRow w.heap.size 88 1 (.slice (some ⟨g',0,none⟩) 1 c') 1 [.pointer (some ⟨P,0,none⟩)]∧qaa (fun b=>b=G) w w':=by
 obtain ⟨i0,hi,ti0,ti1,ti2⟩:=info_parts Tryz.infoPW
 have hG:=cells_lt hg
 have hgl:g<w.heap.size:=(hrow.lt g rfl).2
 have HRW:=hid (show w.cell? ⟨g,0,none⟩=some (.pointer (some ⟨P,0,none⟩)) from hrow.cellAt 0 (by decide))
 have HG:=hid hg
 have H1:=hid HC
 have H2:=hid HR
 have hAA:(A.toList == A.toList)=true:=by simp
 clear hg hrow HC HR
 go_enter Tryz.func65,Tryz.ntmps65
 go_wp2_with fail
 obtain ⟨w1,hw1⟩:∃w1,w1=w.alloc (.cells #[.int .i64 7,.int .i64 a,.int .i64 b,.string nm,.string vl,.int .i64 pm,.int .i64 pt,.int .i64 pl,.string tp,.bool yes,.int .i64 tt] 91):=⟨_,rfl⟩
 obtain ⟨B0,hB0⟩:∃B0,B0=w.heap.size:=⟨_,rfl⟩
 have hb01:Below w.heap.size w w1:=by rw [hw1];exact (Below.refl _ _).alloc nl _
 have HB1:=hid (show w1.heap[B0]?=some (.cells #[.int .i64 7,.int .i64 a,.int .i64 b,.string nm,.string vl,.int .i64 pm,.int .i64 pt,.int .i64 pl,.string tp,.bool yes,.int .i64 tt] 91) from by rw [hw1,hB0];exact alloc_at _ _)
 rw [←hw1,←hB0]
 have HB0:=hid hB0
 have hB1l:=cells_lt HB1.out
 clear hw1 hB0
 have HA:∀w':World,Below w1.heap.size { w1 with drawn:=w1.drawn+1 } w'→Below w.heap.size w w'∧w'.cell? ⟨G,0,none⟩=some (.pointer (some ⟨C,0,none⟩))∧w'.cell? ⟨B0,1,none⟩=some (.int .i64 a)∧w'.cell? ⟨B0,3,none⟩=some (.string nm):=by
  intro w' hb
  have hb1:=Below.undrew hb
  have hb0:=hb01.trans (hb1.mono hb01.size)
  have hg':=HG.out.below hb0
  have hb':=(hb1.block B0 hB1l).trans HB1.out
  exact ⟨hb0,cq hg' rfl,cq hb' rfl,cq hb' rfl⟩
 refine qax (by kernel_rfl) (fun i=>if i<9 then i+25 else if i=9 then 24 else if i=10 then 34 else if i=11 then 35 else if i=12 then 5 else 6) (qdN G C B0 a nm A k) 113 [0,3] (by kernel_rfl) rfl rfl (fun j v w w' h _=>by unfold qdN at h ⊢;split at h<;>exact h) ?_ ?_
 ·refine ⟨?_,?_,?_,?_,?_,?_,?_,?_,?_,?_,?_,?_,?_,?_,trivial⟩
  all_goals
   intro a0 w' hb hf hd
   obtain ⟨hbw,q0,q1,q2⟩:=HA w' hb
   simp at hf
   simp [qdN,Region.binds] at hd
   try (refine .inl ⟨_,w',?_,bl,rfl⟩;go_simp;done)
  refine .inr ⟨22,#[.pointer (some ⟨C,0,none⟩),.int .i64 a,.string nm],by go_simp,(H1.out w' hbw).mono ?_⟩
  rintro e w3 ⟨rfl,hb3⟩
  exact ⟨_,rfl,hb3,rfl⟩
 ·intro a0 w2 hdf hsz hb hf hr
  have r5:=hr 12 (by decide)
  have r6:=hr 13 (by decide)
  simp [qdN] at r5 r6
  obtain ⟨hb02,q0,q1,q2⟩:=HA w2 hb
  have hb12:=Below.undrew hb
  obtain ⟨tm,df⟩:=a0
  simp only at hdf hsz hf r5 r6
  subst hdf
  obtain ⟨f2,hf2,rfl⟩:=qfp tm hsz
  have e0:=(hf2 0).symm.trans (hf 0 (by decide))
  have e3:=(hf2 3).symm.trans (hf 3 (by decide))
  have e5:f2 5=.string A:=r5
  have e6:f2 6=.int .i64 k:=r6
  have hG2:=HG.out.below hb02
  have g3:w2.cell? ⟨G,3,none⟩=some (.slice (some ⟨g,0,none⟩) 1 c):=cq hG2 rfl
  have g7:w2.cell? ⟨G,7,none⟩=some (.bool false):=cq hG2 rfl
  have HG2:=hid hG2
  have hB2:=(hb12.block B0 hB1l).trans HB1.out
  have b0:w2.cell? ⟨B0,0,none⟩=some (.int .i64 7):=cq hB2 rfl
  have HB2:=hid hB2
  have HR2:=hid (show w2.cell? ⟨g,0,none⟩=some (.pointer (some ⟨P,0,none⟩)) from (hb02.cell (by exact hgl)).trans HRW.out)
  have hz2:=hb02.size
  clear hr hf hsz r5 r6 HA hb q0 q1 q2 hG2 hB2 hf2
  simp only [e0,e3,e5,e6]
  clear e0 e3 e5 e6
  go_wp2_with fail
  refine wp_loop_rounds 2 ?_
  rw [rounds_succ]
  go_wp2_with fail
  have HB:∀w':World,Below w2.heap.size { w2 with drawn:=w2.drawn+1 } w'→Below w.heap.size w w'∧w'.cell? ⟨G,3,none⟩=some (.slice (some ⟨g,0,none⟩) 1 c)∧w'.cell? ⟨g,0,none⟩=some (.pointer (some ⟨P,0,none⟩))∧w'.cell? ⟨B0,1,none⟩=some (.int .i64 a)∧w'.cell? ⟨B0,3,none⟩=some (.string nm):=by
   intro w' hb
   have hb2:=Below.undrew hb
   have hg':=HG2.out.below hb2
   have hb':=(hb2.block B0 (cells_lt HB2.out)).trans HB2.out
   exact ⟨hb02.trans (hb2.mono hb02.size),cq hg' rfl,(hb2.cell (by show g<w2.heap.size;omega)).trans HR2.out,cq hb' rfl,cq hb' rfl⟩
  refine qax (by kernel_rfl) (fun i=>if i<12 then i+73 else if i=12 then 72 else if i=13 then 85 else if i=14 then 86 else if i=15 then 9 else 10) (qdI G g c P B0 a nm A k) 113 [0,3,5,6,7,8] (by kernel_rfl) rfl rfl (fun j v w w' h _=>by unfold qdI at h ⊢;split at h<;>exact h) ?_ ?_
  ·refine ⟨?_,?_,?_,?_,?_,?_,?_,?_,?_,?_,?_,?_,?_,?_,?_,?_,?_,trivial⟩
   all_goals
    intro a0 w' hb hf hd
    obtain ⟨hbw,qg,qr,q1,q2⟩:=HB w' hb
    simp at hf
    simp [qdI,Region.binds] at hd
    try (refine .inl ⟨_,w',?_,bl,rfl⟩;go_simp;done)
   refine .inr ⟨114,#[.pointer (some ⟨P,0,none⟩),.int .i64 a,.string nm],by go_simp,(H2.out w' hbw).mono ?_⟩
   rintro e w3 ⟨rfl,hb3⟩
   exact ⟨_,rfl,hb3,rfl⟩
  ·intro a0 w3 hdf hsz hb hf hr
   have r9:=hr 15 (by decide)
   have r10:=hr 16 (by decide)
   simp [qdI] at r9 r10
   obtain ⟨hb03,k3,qr,q1,q2⟩:=HB w3 hb
   have hb23:=Below.undrew hb
   obtain ⟨tm,df⟩:=a0
   simp only at hdf hsz hf r9 r10
   subst hdf
   obtain ⟨f3,hf3,rfl⟩:=qfp tm hsz
   have e0:=(hf3 0).symm.trans (hf 0 (by decide))
   have e5:=(hf3 5).symm.trans (hf 5 (by decide))
   have e6:=(hf3 6).symm.trans (hf 6 (by decide))
   have e7:=(hf3 7).symm.trans (hf 7 (by decide))
   have e8:=(hf3 8).symm.trans (hf 8 (by decide))
   have e9:f3 9=.string A:=r9
   have e10:f3 10=.int .i64 k:=r10
   have HG3:=hid (HG.out.below hb03)
   clear hr hf hsz r9 r10 HB hb q1 q2 g3 g7 b0 hf3
   simp only [e0,e5,e6,e7,e8,e9,e10]
   clear e0 e5 e6 e7 e8 e9 e10
   go_wp2_with (first
    | (go_at_call 112;refine (qbv k _).mono ?_;rintro e w9 ⟨rfl,hw9⟩;obtain rfl:=hw9.symm)
    | (at_builtin;refine wpList_append_lies _ rfl (.tmp 96) (.tmp 104) 81 rfl w3.heap.size 88 i0 (.pointer none) 1 8 Tryz.underlying81 hi ti0 ti1 ti2 rfl (by decide) (.slice none 0 0) 0 [] rfl (World.ownsRow_nil _ _ _ _) ⟨w3.heap.size,0,none⟩ 1 1 [.pointer (some ⟨P,0,none⟩)] rfl rfl (World.news_of_block (cs:=#[.pointer (some ⟨P,0,none⟩)]) (t:=88) (fr:=(0,0)) (heap_alloc_new w3 _)) (by simp [Value.oneCell']) (by decide) (by unfold maxLen;omega) (by omega) (by simp<;>omega) (w3.heap.size+1) (by simp) ?_;intro g4 c4 w4 hown4 hgrow4 hat4 _;have HO4:=hid hown4;have hb34:Below w3.heap.size w3 w4:=((Below.refl w3.heap.size w3).alloc nl _).grown hgrow4 (by simp<;>omega) (fun b hb=>by cases hb);have hg4:=HG3.out.below hb34;have k43:w4.cell? ⟨G,3,none⟩=some (.slice (some ⟨g,0,none⟩) 1 c):=(cq hg4 rfl);have f43:w4.frozen? ⟨G,3,none⟩=false:=qam hg4;have HG4:=hid hg4;clear hown4 hgrow4 hat4 hg4 k3)
    | fail)
   rw [rounds_succ]
   go_wp2_with fail
   go_ret
   have hsG:qaa (fun b=>b=G) w4 (w4.setCell ⟨G,3,none⟩ (.slice (some ⟨g4,0,none⟩) 1 c4)):=qaa.setCell (own:=fun b=>b=G) (p:=⟨G,3,none⟩) sr rfl _
   have h4:=qaf HO4.out hb03.size
   exact ⟨rfl,g4,c4,qan _ HG4.out,qab h4 hsG (fun b hb e=>qaz h4 HG4.out (by decide) (by rw [←e];exact hb)),(qaa.ofBelow (hb03.trans (hb34.mono hb03.size)) nl).trans hsG⟩
theorem arrF76 (t:Array Value) (h:t.size=76):∃f:Nat→Value,(∀k,t.getD k undef=f k)∧t=#[f 0,f 1,f 2,f 3,f 4,f 5,f 6,f 7,f 8,f 9,f 10,f 11,f 12,f 13,f 14,f 15,f 16,f 17,f 18,f 19,f 20,f 21,f 22,f 23,f 24,f 25,f 26,f 27,f 28,f 29,f 30,f 31,f 32,f 33,f 34,f 35,f 36,f 37,f 38,f 39,f 40,f 41,f 42,f 43,f 44,f 45,f 46,f 47,f 48,f 49,f 50,f 51,f 52,f 53,f 54,f 55,f 56,f 57,f 58,f 59,f 60,f 61,f 62,f 63,f 64,f 65,f 66,f 67,f 68,f 69,f 70,f 71,f 72,f 73,f 74,f 75]:=⟨fun k=>t.getD k undef,fun _=>rfl,qco t 76 h⟩
def gsA (G C B0:Nat) (a b:Int) (nm:ByteArray) (u:UInt8) (k:Int) (Q:World→Prop):Nat→Value→World→Prop
 | 0,v,_=>v=.pointer (some ⟨G,0,none⟩)
 | 1,v,_=>v=.pointer (some ⟨G,0,none⟩)
 | 2,v,_=>v=.pointer (some ⟨G,0,none⟩)
 | 3,v,_=>v=.pointer (some ⟨C,0,none⟩)
 | 4,v,_=>v=.pointer (some ⟨B0,1,none⟩)
 | 5,v,_=>v=.int .i64 a
 | 6,v,_=>v=.pointer (some ⟨B0,3,none⟩)
 | 7,v,_=>v=.string nm
 | 8,v,_=>v=.pointer (some ⟨B0,2,none⟩)
 | 9,v,_=>v=.int .i64 b
 | 10,v,_=>v=.int .u8 u.toNat
 | 11,v,w=>v=.int .i64 k∧Q w
 | _,_,_=>False
theorem qjF (G C B0:Nat) (a b:Int) (nm:ByteArray) (u:UInt8) (k:Int) (Q:World→Prop) (hQ:∀w w',Q w→qaa (fun _=>False) w w'→Q w') (j:Nat) (v:Value) (w w':World) (h:gsA G C B0 a b nm u k Q j v w) (hs:qaa (fun _=>False) w w'):gsA G C B0 a b nm u k Q j v w':=by
 unfold gsA at h ⊢
 split at h<;>first | exact h | exact ⟨h.1,hQ _ _ h.2 hs⟩
theorem qiE (G C B0:Nat) (a b:Int) (nm:ByteArray) (u:UInt8) (k:Int) (Q:World→Prop) (j:Nat) (v:Value) (w w':World) (hj:j≠11) (h:gsA G C B0 a b nm u k Q j v w):gsA G C B0 a b nm u k Q j v w':=by
 unfold gsA at h ⊢
 split at h<;>first | exact h | exact absurd rfl hj
theorem qgX {w:World} {G C n key P g c base:Nat} {wr:Int} {ov:Value} (kind a b:Int) (nm vl:ByteArray) (pm pt pl:Int) (tp:ByteArray) (yes:Bool) (tt:Int) (k:Int) (O1:Nat→Prop) (Q1:UInt8→World→Prop) (M:Nat→World→World→Prop) (Q2:UInt8→Nat→World→Prop)
  (hg:Gm w G C n key (.slice (some ⟨g,0,none⟩) 1 c) wr ov) (hrow:w.ownsRow base 88 1 (.slice (some ⟨g,0,none⟩) 1 c) 1 [.pointer (some ⟨P,0,none⟩)])
  (o1:∀x,O1 x→x<w.heap.size∧x≠G∧x≠g)
  (hQ1:∀u w w',Q1 u w→Below w.heap.size w w'→Q1 u w') (hQ2:∀u X w w',Q2 u X w→Below w.heap.size w w'→Q2 u X w')
  (hQ1g:∀u w w',Q1 u w→(∃cs,w.heap[G]?=some (.cells cs 87))→qaa (fun b=>b=G) w w'→Q1 u w') (hQ2g:∀u X w w',Q2 u X w→(∃cs,w.heap[G]?=some (.cells cs 87))→qaa (fun b=>b=G) w w'→Q2 u X w')
  (HC:∀(u:UInt8) w1,Below w.heap.size w w1→Calls Tryz.prog 23 #[.pointer (some ⟨C,0,none⟩),.int .i64 a,.string nm,.int .i64 b,.int .u8 u.toNat] w1 fun e w2=>e=.returned (.int .i64 k)∧Q1 u w2∧qaa O1 w1 w2)
  (HP:∀w1,qaa O1 w w1→Calls Tryz.prog 117 #[.pointer (some ⟨P,0,none⟩)] w1 fun e w2=>∃X,e=.returned (.pointer (some ⟨X,0,none⟩))∧M X w1 w2∧Below w1.heap.size w1 w2)
  (HS:∀(u:UInt8) X w1 w2,qaa O1 w w1→M X w1 w2→Calls Tryz.prog 118 #[.pointer (some ⟨X,0,none⟩),.int .i64 a,.string nm,.int .i64 b,.int .u8 u.toNat] w2 fun e w3=>e=.returned (.int .i64 k)∧Q2 u X w3∧Below w1.heap.size w2 w3) :
  Calls Tryz.prog 68 #[.pointer (some ⟨G,0,none⟩),.agg #[.int .i64 kind,.int .i64 a,.int .i64 b,.string nm,.string vl,.int .i64 pm,.int .i64 pt,.int .i64 pl,.string tp,.bool yes,.int .i64 tt]] w fun e w'=>e=.returned (.bool true)∧∃u X g' c',Q1 u w'∧Q2 u X w'∧Gm w' G C n key (.slice (some ⟨g',0,none⟩) 1 c') wr ov∧w'.ownsRow w.heap.size 88 1 (.slice (some ⟨g',0,none⟩) 1 c') 1 [.pointer (some ⟨X,0,none⟩)]∧qaa (fun b=>O1 b∨b=G) w w':=by
 obtain ⟨i0,hi,ti0,ti1,ti2⟩:=info_parts Tryz.infoPW
 have hG:=cells_lt hg
 have hgl:g<w.heap.size:=(hrow.lt g rfl).2
 have HRW:=hid (show w.cell? ⟨g,0,none⟩=some (.pointer (some ⟨P,0,none⟩)) from hrow.cellAt 0 (by decide))
 have HG:=hid hg
 have H1:=hid HC
 have H2:=hid HP
 have H3:=hid HS
 have O1H:=hid o1
 have Q1H:=hid hQ1
 have Q2H:=hid hQ2
 have Q1G:=hid hQ1g
 have Q2G:=hid hQ2g
 clear hg hrow HC HP HS o1 hQ1 hQ2 hQ1g hQ2g
 go_enter Tryz.func68,Tryz.ntmps68
 go_wp2_with fail
 obtain ⟨w1,hw1⟩:∃w1,w1=w.alloc (.cells #[.int .i64 kind,.int .i64 a,.int .i64 b,.string nm,.string vl,.int .i64 pm,.int .i64 pt,.int .i64 pl,.string tp,.bool yes,.int .i64 tt] 91):=⟨_,rfl⟩
 obtain ⟨B0,hB0⟩:∃B0,B0=w.heap.size:=⟨_,rfl⟩
 have hb01:Below w.heap.size w w1:=by rw [hw1];exact (Below.refl _ _).alloc nl _
 have HB1:=hid (show w1.heap[B0]?=some (.cells #[.int .i64 kind,.int .i64 a,.int .i64 b,.string nm,.string vl,.int .i64 pm,.int .i64 pt,.int .i64 pl,.string tp,.bool yes,.int .i64 tt] 91) from by rw [hw1,hB0];exact alloc_at _ _)
 rw [←hw1,←hB0]
 have HB0:=hid hB0
 have hB1l:=cells_lt HB1.out
 clear hw1 hB0
 obtain ⟨u,hu⟩:∃u:UInt8,(bits BinOp.and IntKind.i64 (wrap64 (tt.tdiv 2)) 255 % 256:Int)=(u.toNat:Int):=by
  generalize bits BinOp.and IntKind.i64 (wrap64 (tt.tdiv 2)) 255=z
  refine ⟨UInt8.ofNat (z % 256).toNat,?_⟩
  have h1:0≤z % 256:=Int.emod_nonneg _ (by decide)
  have h2:z % 256<256:=Int.emod_lt_of_pos _ (by decide)
  rw [UInt8.toNat_ofNat_of_lt' (show (z % 256).toNat<UInt8.size by show _<256;omega)]
  omega
 simp only [hu]
 clear hu
 have HA:∀w':World,qaa O1 { w1 with drawn:=w1.drawn+1 } w'→w'.cell? ⟨G,0,none⟩=some (.pointer (some ⟨C,0,none⟩))∧w'.cell? ⟨B0,1,none⟩=some (.int .i64 a)∧w'.cell? ⟨B0,3,none⟩=some (.string nm)∧w'.cell? ⟨B0,2,none⟩=some (.int .i64 b):=by
  intro w' hs
  have hs':=hs.undrew
  have hg':=hs'.heap ((hb01.block G hG).trans HG.out) (fun e=>(O1H.out G e).2.1 rfl)
  have hb':=hs'.heap HB1.out (fun e=>by have:=(O1H.out B0 e).1;have:=HB0.out;omega)
  exact ⟨cq hg' rfl,cq hb' rfl,cq hb' rfl,cq hb' rfl⟩
 refine qa3 (by kernel_rfl) (fun i=>i+16) (gsA G C B0 a b nm u k (Q1 u)) O1 76 12 11 [0,3,5] (by kernel_rfl) (by kernel_rfl) rfl rfl (qjF G C B0 a b nm u k (Q1 u) (fun w w' h hs=>Q1H.out u w w' h hs.none_below)) (fun j v w w' hj h _=>qiE G C B0 a b nm u k (Q1 u) j v w w' hj h) ?_ ?_
 ·refine ⟨?_,?_,?_,?_,?_,?_,?_,?_,?_,?_,?_,?_,trivial⟩
  all_goals
   intro a0 w' hs hm0 hf hd
   obtain ⟨q0,q1,q2,q3⟩:=HA w' hs
   simp at hf
   simp [gsA] at hd
   try (refine .inl ⟨_,w',?_,fun _=>qaa.refl _ _,sr,rfl⟩;go_simp;done)
  have hbw:Below w.heap.size w w':=hb01.trans ((hm0 rfl).undrew.none_below.mono hb01.size)
  refine .inr ⟨23,#[.pointer (some ⟨C,0,none⟩),.int .i64 a,.string nm,.int .i64 b,.int .u8 u.toNat],by go_simp,(H1.out u w' hbw).mono ?_⟩
  rintro e w2 ⟨rfl,hq,hs2⟩
  exact ⟨_,rfl,fun h=>absurd rfl h,hs2,rfl,hq⟩
 ·intro a0 w2 oo hoo hdf hsz hs hf hr
  cases hoo
  have r8:=hr 11 (by decide)
  simp [gsA] at r8
  obtain ⟨r8v,hq1⟩:=r8
  have hs12:=hs.undrew
  obtain ⟨tm,df⟩:=a0
  simp only at hdf hsz hf r8v
  subst hdf
  obtain ⟨f2,hf2,rfl⟩:=arrF76 tm hsz
  have e0:=(hf2 0).symm.trans (hf 0 (by decide))
  have e3:=(hf2 3).symm.trans (hf 3 (by decide))
  have e5:=(hf2 5).symm.trans (hf 5 (by decide))
  have er:f2 27=.int .i64 k:=r8v
  have HQ1:=hid hq1
  clear hr hf hsz r8v HA hs hq1 hf2
  have hG2:Gm w2 G C n key (.slice (some ⟨g,0,none⟩) 1 c) wr ov:=hs12.heap ((hb01.block G hG).trans HG.out) (fun e=>(O1H.out G e).2.1 rfl)
  have g3:w2.cell? ⟨G,3,none⟩=some (.slice (some ⟨g,0,none⟩) 1 c):=cq hG2 rfl
  have g7:w2.cell? ⟨G,7,none⟩=some (.bool false):=cq hG2 rfl
  have HG2:=hid hG2
  have hB2:=hs12.heap HB1.out (fun e=>by have:=(O1H.out B0 e).1;have:=HB0.out;omega)
  have HB2:=hid hB2
  have hz2:=hs12.size
  have hz1:=hb01.size
  have r0:w2.cell? ⟨g,0,none⟩=some (.pointer (some ⟨P,0,none⟩)):=(hs12.cell (a:=⟨g,0,none⟩) (by show g<w1.heap.size;omega) (fun e=>(O1H.out g e).2.2 rfl)).trans ((hb01.cell (by exact hgl)).trans HRW.out)
  have HS02:=hid (show qaa O1 w w2 from (qaa.ofBelow hb01 nl).trans hs12)
  clear hG2 hB2 hs12
  simp only [e0,e3,e5,er]
  clear e0 e3 e5 er
  go_wp2_with fail
  refine wp_loop_rounds 2 ?_
  rw [rounds_succ]
  go_wp2_with fail
  refine (H2.out w2 HS02.out).mono ?_
  rintro e w3 ⟨X,rfl,hm,hb23⟩
  have HSP:=hid (H3.out u X w2 w3 HS02.out hm)
  have hB3:=(hb23.block B0 (cells_lt HB2.out)).trans HB2.out
  have x1:w3.cell? ⟨B0,1,none⟩=some (.int .i64 a):=cq hB3 rfl
  have x3:w3.cell? ⟨B0,3,none⟩=some (.string nm):=cq hB3 rfl
  have x2:w3.cell? ⟨B0,2,none⟩=some (.int .i64 b):=cq hB3 rfl
  clear hm hB3 g3 g7 r0
  go_wp2_with fail
  refine HSP.out.mono ?_
  rintro e w4 ⟨rfl,hq2,hb34'⟩
  have hb24:Below w2.heap.size w2 w4:=hb23.trans hb34'
  have HQ2:=hid hq2
  have HG4:=hid (HG2.out.below hb24)
  have hz4:=hb24.size
  clear hq2 HSP x1 x3 x2
  go_wp2_with (first
   | (go_at_call 112;refine (qbv k _).mono ?_;rintro e w9 ⟨rfl,hw9⟩;obtain rfl:=hw9.symm)
   | (at_builtin;refine wpList_append_lies _ rfl (.tmp 65) (.tmp 67) 81 rfl w4.heap.size 88 i0 (.pointer none) 1 8 Tryz.underlying81 hi ti0 ti1 ti2 rfl (by decide) (.slice none 0 0) 0 [] rfl (World.ownsRow_nil _ _ _ _) ⟨w4.heap.size,0,none⟩ 1 1 [.pointer (some ⟨X,0,none⟩)] rfl rfl (World.news_of_block (cs:=#[.pointer (some ⟨X,0,none⟩)]) (t:=88) (fr:=(0,0)) (heap_alloc_new w4 _)) (by simp [Value.oneCell']) (by decide) (by unfold maxLen;omega) (by omega) (by simp<;>omega) (w4.heap.size+1) (by simp) ?_;intro g5 c5 w5 hown5 hgrow5 hat5 _;have HO5:=hid hown5;have hb45:Below w4.heap.size w4 w5:=((Below.refl w4.heap.size w4).alloc nl _).grown hgrow5 (by simp<;>omega) (fun b hb=>by cases hb);have hg5:=HG4.out.below hb45;have k53:w5.cell? ⟨G,3,none⟩=some (.slice (some ⟨g,0,none⟩) 1 c):=(cq hg5 rfl);have f53:w5.frozen? ⟨G,3,none⟩=false:=qam hg5;have HG5:=hid hg5;clear hown5 hgrow5 hat5 hg5)
   | fail)
  rw [rounds_succ]
  go_wp2_with fail
  go_ret
  have hsG:qaa (fun b=>b=G) w5 (w5.setCell ⟨G,3,none⟩ (.slice (some ⟨g5,0,none⟩) 1 c5)):=qaa.setCell (own:=fun b=>b=G) (p:=⟨G,3,none⟩) sr rfl _
  have h5:=qaf HO5.out (show w.heap.size≤w4.heap.size by omega)
  have hb25:Below w2.heap.size w2 w5:=hb24.trans (hb45.mono hb24.size)
  exact ⟨rfl,u,X,g5,c5,Q1G.out u _ _ (Q1H.out u _ _ HQ1.out hb25) ⟨_,HG5.out⟩ hsG,Q2G.out u X _ _ (Q2H.out u X _ _ HQ2.out hb45) ⟨_,HG5.out⟩ hsG,qan _ HG5.out,qab h5 hsG (fun b hb e=>qaz h5 HG5.out (by decide) (by rw [←e];exact hb)),((HS02.out.mono fun b hb=>.inl hb).trans (qaa.ofBelow hb25 nl)).trans (hsG.mono fun b hb=>.inr hb)⟩
end Go.Proofs.YtcegdgmbponapaaGreatDoor