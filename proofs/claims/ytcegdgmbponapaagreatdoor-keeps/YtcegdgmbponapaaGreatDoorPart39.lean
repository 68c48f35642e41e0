import Derived.Test.YtcegdgmbponapaaGreatDoorPart38
set_option maxRecDepth 100000
set_option maxHeartbeats 4000000
namespace Go.Proofs.YtcegdgmbponapaaGreatDoor
open Go.RowKit
attribute [local go_sem ↓] Go.wp_at_zero Go.wp_at_succ
theorem qck (t:Array Value) (h:t.size=110):∃f:Nat→Value,(∀k,t.getD k undef=f k)∧t=#[f 0,f 1,f 2,f 3,f 4,f 5,f 6,f 7,f 8,f 9,f 10,f 11,f 12,f 13,f 14,f 15,f 16,f 17,f 18,f 19,f 20,f 21,f 22,f 23,f 24,f 25,f 26,f 27,f 28,f 29,f 30,f 31,f 32,f 33,f 34,f 35,f 36,f 37,f 38,f 39,f 40,f 41,f 42,f 43,f 44,f 45,f 46,f 47,f 48,f 49,f 50,f 51,f 52,f 53,f 54,f 55,f 56,f 57,f 58,f 59,f 60,f 61,f 62,f 63,f 64,f 65,f 66,f 67,f 68,f 69,f 70,f 71,f 72,f 73,f 74,f 75,f 76,f 77,f 78,f 79,f 80,f 81,f 82,f 83,f 84,f 85,f 86,f 87,f 88,f 89,f 90,f 91,f 92,f 93,f 94,f 95,f 96,f 97,f 98,f 99,f 100,f 101,f 102,f 103,f 104,f 105,f 106,f 107,f 108,f 109]:=⟨fun k=>t.getD k undef,fun _=>rfl,qco t 110 h⟩
def puA (P _B:Nat) (m t l:Int) (n:Nat) (r:Bool):Nat→Value→World→Prop
 | 0,v,_=>v=.agg #[.int .i64 m,.int .i64 t,.int .i64 l]
 | 1,v,_=>v=.pointer (some ⟨P,0,none⟩)
 | 2,v,_=>v=.pointer (some ⟨P,0,none⟩)
 | 3,v,_=>v=.pointer (some ⟨P,0,none⟩)
 | 4,v,_=>v=.int .i64 n
 | 5,v,_=>v=.bool r
 | 6,v,_=>v=.bool r
 | _,_,_=>False
theorem qbI (P B:Nat) (m t l:Int) (n:Nat) (r:Bool) (j:Nat) (v:Value) (w w':World) (h:puA P B m t l n r j v w) (_:Below w.heap.size w w'):puA P B m t l n r j v w':=by
 unfold puA at h ⊢
 split at h<;>exact h
section
variable {w:World} {P n key:Nat} {dn:Nat→Bool} {dv:Value} {xs:List RObj}
theorem Wd.putting_name (nm vl tape:ByteArray) (m t l:Int) (w:World) (P:Nat) (hnm:nm.size<1∨12<nm.size) (hmx:nm.size≤9223372036854775807) :
  Calls Tryz.prog 159 #[.pointer (some ⟨P,0,none⟩),.string nm,.string vl,.agg #[.int .i64 m,.int .i64 t,.int .i64 l],.string tape] w fun e w'=>e=.returned (.tuple #[.pointer none,.int .i64 2])∧Below w.heap.size w w':=by
 have hba:=(Below.refl w.heap.size w).alloc nl (.cells #[.int .i64 m,.int .i64 t,.int .i64 l] 29)
 by_cases h1:nm.size<1
 ·have h1':(nm.size:Int)<1:=by omega
  clear hnm
  go_enter Tryz.func159,Tryz.ntmps159
  go_wp2_with fail
  go_ret2
  exact ⟨rfl,hba⟩
 ·have h1':¬(nm.size:Int)<1:=by omega
  have h2:(12:Int)<(nm.size:Int):=by omega
  clear hnm
  go_enter Tryz.func159,Tryz.ntmps159
  go_wp2_with fail
  go_ret2
  exact ⟨rfl,hba⟩
theorem Wd.putting_plan (h:Wd w P n key dn dv xs) (nm vl tape:ByteArray) (m t l:Int) (h1:1≤nm.size) (h12:nm.size≤12) (hm:I64 m) (ht:I64 t) (hl:I64 l) (hbad:¬(1≤(n:Int)∧(n:Int)≤8∧Fits m t l n)) :
  Calls Tryz.prog 159 #[.pointer (some ⟨P,0,none⟩),.string nm,.string vl,.agg #[.int .i64 m,.int .i64 t,.int .i64 l],.string tape] w fun e w'=>e=.returned (.tuple #[.pointer none,.int .i64 3])∧Below w.heap.size w w':=by
 have HPLAN:=hid (fun w'=>qhv m t l n w' hm ht hl (by unfold I64;have:=h.n8;omega) hbad)
 have hn1:=h.n1
 have hn8:=h.n8
 have hl10:=h.len
 have HW:=hid h
 obtain ⟨oa,oc,hp1,hrd⟩:=h.hp
 have hPl:=cells_lt hp1
 have HP:=hid hp1
 clear hp1 hrd h
 have h1':¬(nm.size:Int)<1:=by omega
 have h12':¬(12:Int)<(nm.size:Int):=by omega
 go_enter Tryz.func159,Tryz.ntmps159
 go_wp2_with fail
 obtain ⟨w1,hw1⟩:∃w1,w1=w.alloc (.cells #[.int .i64 m,.int .i64 t,.int .i64 l] 29):=⟨_,rfl⟩
 have hb1:Below w.heap.size w w1:=by rw [hw1];exact (Below.refl _ _).alloc nl _
 have hB1:w1.heap[w.heap.size]?=some (.cells #[.int .i64 m,.int .i64 t,.int .i64 l] 29):=by rw [hw1];exact alloc_at _ _
 have HB1:=hid hB1
 have HP1:=hid ((hb1.block P hPl).trans HP.out)
 rw [←hw1]
 clear hw1 hB1
 obtain ⟨B,hB⟩:∃B,B=w.heap.size:=⟨_,rfl⟩
 rw [←hB] at HB1 ⊢
 have HBE:=hid hB
 clear hB
 have HFX:∀a:Act,(∀p∈[((0:Nat),Value.pointer (some ⟨P,0,none⟩)),(1,.string nm),(2,.string vl),(4,.string tape),(8,.pointer (some ⟨B,0,none⟩)),(10,.pointer none),(11,.int .i64 0)],a.tmps.getD p.1 undef=p.2)→a.tmps[0]?.getD undef=.pointer (some ⟨P,0,none⟩)∧a.tmps[8]?.getD undef=.pointer (some ⟨B,0,none⟩):=by
  intro a h
  have h0:=h (0,.pointer (some ⟨P,0,none⟩)) (by simp)
  have h8:=h (8,.pointer (some ⟨B,0,none⟩)) (by simp)
  exact ⟨by simpa using h0,by simpa using h8⟩
 have HC:∀w':World,Below w1.heap.size { w1 with drawn:=w1.drawn+1 } w'→w'.cell? ⟨P,0,none⟩=some (.int .i64 n)∧w'.cell? ⟨B,0,none⟩=some (.int .i64 m)∧w'.cell? ⟨B,1,none⟩=some (.int .i64 t)∧w'.cell? ⟨B,2,none⟩=some (.int .i64 l):=by
  intro w' hb
  have hp:=(hb.block P (cells_lt HP1.out)).trans HP1.out
  have hq:=(hb.block B (cells_lt HB1.out)).trans HB1.out
  exact ⟨cq hp rfl,cq hq rfl,cq hq rfl,cq hq rfl⟩
 refine qau (by kernel_rfl) (fun i=>if i=6 then 12 else i+28) (puA P B m t l n false) [(0,.pointer (some ⟨P,0,none⟩)),(1,.string nm),(2,.string vl),(4,.string tape),(8,.pointer (some ⟨B,0,none⟩)),(10,.pointer none),(11,.int .i64 0)] 110 [0,1,2,4,8,10,11] (by kernel_rfl) rfl rfl rfl ?_ (qbI P B m t l n false) ?_ ?_
 ·simp
 ·refine ⟨?_,?_,?_,?_,?_,?_,?_,trivial⟩
  all_goals
   intro a w' hb hf hd
   obtain ⟨f0,f8⟩:=HFX a hf
   obtain ⟨p0,b0,b1,b2⟩:=HC w' hb
   simp [puA] at hd
   try (refine .inl ⟨_,w',?_,bl,rfl⟩;go_simp;done)
  ·refine .inr ⟨200,#[.agg #[.int .i64 m,.int .i64 t,.int .i64 l],.int .i64 n],by go_simp,(HPLAN.out w').mono ?_⟩
   rintro e w'' ⟨rfl,hb2⟩
   exact ⟨_,rfl,hb2,rfl⟩
 ·intro a w2 hdf hsz hb hf hr
  have r6:=hr 6 (by decide)
  simp [puA] at r6
  have hb12:Below w1.heap.size w1 w2:=(Below.drew bl).trans hb
  have hb02:Below w.heap.size w w2:=hb1.trans (hb12.mono hb1.size)
  obtain ⟨tm,df⟩:=a
  simp only at hdf hsz hf r6
  subst hdf
  obtain ⟨f,hfk,rfl⟩:=qck tm hsz
  have e0:f 0=.pointer (some ⟨P,0,none⟩):=(hfk 0).symm.trans (hf (0,_) (by simp))
  have e1:f 1=.string nm:=(hfk 1).symm.trans (hf (1,_) (by simp))
  have e2:f 2=.string vl:=(hfk 2).symm.trans (hf (2,_) (by simp))
  have e4:f 4=.string tape:=(hfk 4).symm.trans (hf (4,_) (by simp))
  have e8:f 8=.pointer (some ⟨B,0,none⟩):=(hfk 8).symm.trans (hf (8,_) (by simp))
  have e10:f 10=.pointer none:=(hfk 10).symm.trans (hf (10,_) (by simp))
  have e11:f 11=.int .i64 0:=(hfk 11).symm.trans (hf (11,_) (by simp))
  have e12:f 12=.bool false:=by simpa using r6
  have HB2:=hid ((hb12.block B (cells_lt HB1.out)).trans HB1.out)
  simp only [e0,e1,e2,e4,e8,e10,e11,e12]
  clear hr hsz hf hfk e0 e1 e2 e4 e8 e10 e11 e12 r6 HFX HC hb
  go_wp2_with fail
  go_ret2
  exact ⟨rfl,hb02⟩
theorem Wd.putting_big (h:Wd w P n key dn dv xs) (nm vl tape:ByteArray) (mode t l:Nat) (h1:1≤nm.size) (h12:nm.size≤12) (hpl:qaj mode t l n) (hv:60<vl.size) (hvm:vl.size≤9223372036854775807) :
  Calls Tryz.prog 159 #[.pointer (some ⟨P,0,none⟩),.string nm,.string vl,.agg #[.int .i64 mode,.int .i64 t,.int .i64 l],.string tape] w fun e w'=>e=.returned (.tuple #[.pointer none,.int .i64 4])∧Below w.heap.size w w':=by
 have HPLAN:=hid (fun w'=>qbC mode t l n w' hpl)
 have hn1:=h.n1
 have hn8:=h.n8
 have hl10:=h.len
 have HW:=hid h
 obtain ⟨oa,oc,hp1,hrd⟩:=h.hp
 have hPl:=cells_lt hp1
 have HP:=hid hp1
 clear hp1 hrd h
 have h1':¬(nm.size:Int)<1:=by omega
 have h12':¬(12:Int)<(nm.size:Int):=by omega
 go_enter Tryz.func159,Tryz.ntmps159
 go_wp2_with fail
 obtain ⟨w1,hw1⟩:∃w1,w1=w.alloc (.cells #[.int .i64 mode,.int .i64 t,.int .i64 l] 29):=⟨_,rfl⟩
 have hb1:Below w.heap.size w w1:=by rw [hw1];exact (Below.refl _ _).alloc nl _
 have hB1:w1.heap[w.heap.size]?=some (.cells #[.int .i64 mode,.int .i64 t,.int .i64 l] 29):=by rw [hw1];exact alloc_at _ _
 have HB1:=hid hB1
 have HP1:=hid ((hb1.block P hPl).trans HP.out)
 rw [←hw1]
 clear hw1 hB1
 obtain ⟨B,hB⟩:∃B,B=w.heap.size:=⟨_,rfl⟩
 rw [←hB] at HB1 ⊢
 have HBE:=hid hB
 clear hB
 have HFX:∀a:Act,(∀p∈[((0:Nat),Value.pointer (some ⟨P,0,none⟩)),(1,.string nm),(2,.string vl),(4,.string tape),(8,.pointer (some ⟨B,0,none⟩)),(10,.pointer none),(11,.int .i64 0)],a.tmps.getD p.1 undef=p.2)→a.tmps[0]?.getD undef=.pointer (some ⟨P,0,none⟩)∧a.tmps[8]?.getD undef=.pointer (some ⟨B,0,none⟩):=by
  intro a h
  have h0:=h (0,.pointer (some ⟨P,0,none⟩)) (by simp)
  have h8:=h (8,.pointer (some ⟨B,0,none⟩)) (by simp)
  exact ⟨by simpa using h0,by simpa using h8⟩
 have HC:∀w':World,Below w1.heap.size { w1 with drawn:=w1.drawn+1 } w'→w'.cell? ⟨P,0,none⟩=some (.int .i64 n)∧w'.cell? ⟨B,0,none⟩=some (.int .i64 mode)∧w'.cell? ⟨B,1,none⟩=some (.int .i64 t)∧w'.cell? ⟨B,2,none⟩=some (.int .i64 l):=by
  intro w' hb
  have hp:=(hb.block P (cells_lt HP1.out)).trans HP1.out
  have hq:=(hb.block B (cells_lt HB1.out)).trans HB1.out
  exact ⟨cq hp rfl,cq hq rfl,cq hq rfl,cq hq rfl⟩
 refine qau (by kernel_rfl) (fun i=>if i=6 then 12 else i+28) (puA P B mode t l n true) [(0,.pointer (some ⟨P,0,none⟩)),(1,.string nm),(2,.string vl),(4,.string tape),(8,.pointer (some ⟨B,0,none⟩)),(10,.pointer none),(11,.int .i64 0)] 110 [0,1,2,4,8,10,11] (by kernel_rfl) rfl rfl rfl ?_ (qbI P B mode t l n true) ?_ ?_
 ·simp
 ·refine ⟨?_,?_,?_,?_,?_,?_,?_,trivial⟩
  all_goals
   intro a w' hb hf hd
   obtain ⟨f0,f8⟩:=HFX a hf
   obtain ⟨p0,b0,b1,b2⟩:=HC w' hb
   simp [puA] at hd
   try (refine .inl ⟨_,w',?_,bl,rfl⟩;go_simp;done)
  ·refine .inr ⟨200,#[.agg #[.int .i64 mode,.int .i64 t,.int .i64 l],.int .i64 n],by go_simp,(HPLAN.out w').mono ?_⟩
   rintro e w'' ⟨rfl,hb2⟩
   exact ⟨_,rfl,hb2,rfl⟩
 ·intro a w2 hdf hsz hb hf hr
  have r6:=hr 6 (by decide)
  simp [puA] at r6
  have hb12:Below w1.heap.size w1 w2:=(Below.drew bl).trans hb
  have hb02:Below w.heap.size w w2:=hb1.trans (hb12.mono hb1.size)
  obtain ⟨tm,df⟩:=a
  simp only at hdf hsz hf r6
  subst hdf
  obtain ⟨f,hfk,rfl⟩:=qck tm hsz
  have e0:f 0=.pointer (some ⟨P,0,none⟩):=(hfk 0).symm.trans (hf (0,_) (by simp))
  have e1:f 1=.string nm:=(hfk 1).symm.trans (hf (1,_) (by simp))
  have e2:f 2=.string vl:=(hfk 2).symm.trans (hf (2,_) (by simp))
  have e4:f 4=.string tape:=(hfk 4).symm.trans (hf (4,_) (by simp))
  have e8:f 8=.pointer (some ⟨B,0,none⟩):=(hfk 8).symm.trans (hf (8,_) (by simp))
  have e10:f 10=.pointer none:=(hfk 10).symm.trans (hf (10,_) (by simp))
  have e11:f 11=.int .i64 0:=(hfk 11).symm.trans (hf (11,_) (by simp))
  have e12:f 12=.bool true:=by simpa using r6
  have HB2:=hid ((hb12.block B (cells_lt HB1.out)).trans HB1.out)
  simp only [e0,e1,e2,e4,e8,e10,e11,e12]
  clear hr hsz hf hfk e0 e1 e2 e4 e8 e10 e11 e12 r6 HFX HC hb
  have hv':(60:Int)<(vl.size:Int):=by omega
  go_wp2_with fail
  go_ret2
  exact ⟨rfl,hb02⟩
theorem Wd.putting_twice (h:Wd w P n key dn dv xs) (nm vl tape:ByteArray) (mode t l:Nat) (h1:1≤nm.size) (h12:nm.size≤12) (hpl:qaj mode t l n) (hv:vl.size≤60) (k:Nat) (hk:k<xs.length) (hnm:(xs[k]!).ob.name=nm) (hbef:∀j,j<xs.length→(xs[j]!).ob.name=nm→j=k) :
  Calls Tryz.prog 159 #[.pointer (some ⟨P,0,none⟩),.string nm,.string vl,.agg #[.int .i64 mode,.int .i64 t,.int .i64 l],.string tape] w fun e w'=>e=.returned (.tuple #[.pointer none,.int .i64 5])∧Below w.heap.size w w':=by
 have HPLAN:=hid (fun w'=>qbC mode t l n w' hpl)
 have hn1:=h.n1
 have hn8:=h.n8
 have hl10:=h.len
 have HW:=hid h
 obtain ⟨oa,oc,hp1,hrd⟩:=h.hp
 have hPl:=cells_lt hp1
 have HP:=hid hp1
 clear hp1 hrd h
 have h1':¬(nm.size:Int)<1:=by omega
 have h12':¬(12:Int)<(nm.size:Int):=by omega
 go_enter Tryz.func159,Tryz.ntmps159
 go_wp2_with fail
 obtain ⟨w1,hw1⟩:∃w1,w1=w.alloc (.cells #[.int .i64 mode,.int .i64 t,.int .i64 l] 29):=⟨_,rfl⟩
 have hb1:Below w.heap.size w w1:=by rw [hw1];exact (Below.refl _ _).alloc nl _
 have hB1:w1.heap[w.heap.size]?=some (.cells #[.int .i64 mode,.int .i64 t,.int .i64 l] 29):=by rw [hw1];exact alloc_at _ _
 have HB1:=hid hB1
 have HP1:=hid ((hb1.block P hPl).trans HP.out)
 rw [←hw1]
 clear hw1 hB1
 obtain ⟨B,hB⟩:∃B,B=w.heap.size:=⟨_,rfl⟩
 rw [←hB] at HB1 ⊢
 have HBE:=hid hB
 clear hB
 have HFX:∀a:Act,(∀p∈[((0:Nat),Value.pointer (some ⟨P,0,none⟩)),(1,.string nm),(2,.string vl),(4,.string tape),(8,.pointer (some ⟨B,0,none⟩)),(10,.pointer none),(11,.int .i64 0)],a.tmps.getD p.1 undef=p.2)→a.tmps[0]?.getD undef=.pointer (some ⟨P,0,none⟩)∧a.tmps[8]?.getD undef=.pointer (some ⟨B,0,none⟩):=by
  intro a h
  have h0:=h (0,.pointer (some ⟨P,0,none⟩)) (by simp)
  have h8:=h (8,.pointer (some ⟨B,0,none⟩)) (by simp)
  exact ⟨by simpa using h0,by simpa using h8⟩
 have HC:∀w':World,Below w1.heap.size { w1 with drawn:=w1.drawn+1 } w'→w'.cell? ⟨P,0,none⟩=some (.int .i64 n)∧w'.cell? ⟨B,0,none⟩=some (.int .i64 mode)∧w'.cell? ⟨B,1,none⟩=some (.int .i64 t)∧w'.cell? ⟨B,2,none⟩=some (.int .i64 l):=by
  intro w' hb
  have hp:=(hb.block P (cells_lt HP1.out)).trans HP1.out
  have hq:=(hb.block B (cells_lt HB1.out)).trans HB1.out
  exact ⟨cq hp rfl,cq hq rfl,cq hq rfl,cq hq rfl⟩
 refine qau (by kernel_rfl) (fun i=>if i=6 then 12 else i+28) (puA P B mode t l n true) [(0,.pointer (some ⟨P,0,none⟩)),(1,.string nm),(2,.string vl),(4,.string tape),(8,.pointer (some ⟨B,0,none⟩)),(10,.pointer none),(11,.int .i64 0)] 110 [0,1,2,4,8,10,11] (by kernel_rfl) rfl rfl rfl ?_ (qbI P B mode t l n true) ?_ ?_
 ·simp
 ·refine ⟨?_,?_,?_,?_,?_,?_,?_,trivial⟩
  all_goals
   intro a w' hb hf hd
   obtain ⟨f0,f8⟩:=HFX a hf
   obtain ⟨p0,b0,b1,b2⟩:=HC w' hb
   simp [puA] at hd
   try (refine .inl ⟨_,w',?_,bl,rfl⟩;go_simp;done)
  ·refine .inr ⟨200,#[.agg #[.int .i64 mode,.int .i64 t,.int .i64 l],.int .i64 n],by go_simp,(HPLAN.out w').mono ?_⟩
   rintro e w'' ⟨rfl,hb2⟩
   exact ⟨_,rfl,hb2,rfl⟩
 ·intro a w2 hdf hsz hb hf hr
  have r6:=hr 6 (by decide)
  simp [puA] at r6
  have hb12:Below w1.heap.size w1 w2:=(Below.drew bl).trans hb
  have hb02:Below w.heap.size w w2:=hb1.trans (hb12.mono hb1.size)
  obtain ⟨tm,df⟩:=a
  simp only at hdf hsz hf r6
  subst hdf
  obtain ⟨f,hfk,rfl⟩:=qck tm hsz
  have e0:f 0=.pointer (some ⟨P,0,none⟩):=(hfk 0).symm.trans (hf (0,_) (by simp))
  have e1:f 1=.string nm:=(hfk 1).symm.trans (hf (1,_) (by simp))
  have e2:f 2=.string vl:=(hfk 2).symm.trans (hf (2,_) (by simp))
  have e4:f 4=.string tape:=(hfk 4).symm.trans (hf (4,_) (by simp))
  have e8:f 8=.pointer (some ⟨B,0,none⟩):=(hfk 8).symm.trans (hf (8,_) (by simp))
  have e10:f 10=.pointer none:=(hfk 10).symm.trans (hf (10,_) (by simp))
  have e11:f 11=.int .i64 0:=(hfk 11).symm.trans (hf (11,_) (by simp))
  have e12:f 12=.bool true:=by simpa using r6
  have HB2:=hid ((hb12.block B (cells_lt HB1.out)).trans HB1.out)
  simp only [e0,e1,e2,e4,e8,e10,e11,e12]
  clear hr hsz hf hfk e0 e1 e2 e4 e8 e10 e11 e12 r6 HFX HC hb
  have hv':¬(60:Int)<(vl.size:Int):=by omega
  have HFIND:=hid (fun w' (hb:Below w.heap.size w w')=>(HW.out.below hb nl).find_any nm k (fun hno=>absurd hnm (hno k hk)) (fun j hj e _=>by rw [hbef j hj e]))
  have hk10:k<10:=by omega
  clear hnm hbef hk
  go_wp2_with fail
  refine (HFIND.out w2 hb02).mono ?_
  rintro e w3 ⟨rfl,hw3⟩
  obtain rfl:=hw3.symm
  go_wp2_with fail
  go_ret2
  exact ⟨rfl,hb02⟩
theorem Wd.putting_full (h:Wd w P n key dn dv xs) (nm vl tape:ByteArray) (mode t l:Nat) (h1:1≤nm.size) (h12:nm.size≤12) (hpl:qaj mode t l n) (hv:vl.size≤60) (hno:∀j,j<xs.length→(xs[j]!).ob.name≠nm) (hfull:10≤xs.length) :
  Calls Tryz.prog 159 #[.pointer (some ⟨P,0,none⟩),.string nm,.string vl,.agg #[.int .i64 mode,.int .i64 t,.int .i64 l],.string tape] w fun e w'=>e=.returned (.tuple #[.pointer none,.int .i64 6])∧Below w.heap.size w w':=by
 have HPLAN:=hid (fun w'=>qbC mode t l n w' hpl)
 have hn1:=h.n1
 have hn8:=h.n8
 have hl10:=h.len
 have HW:=hid h
 obtain ⟨oa,oc,hp1,hrd⟩:=h.hp
 have hPl:=cells_lt hp1
 have HP:=hid hp1
 clear hp1 hrd h
 have h1':¬(nm.size:Int)<1:=by omega
 have h12':¬(12:Int)<(nm.size:Int):=by omega
 go_enter Tryz.func159,Tryz.ntmps159
 go_wp2_with fail
 obtain ⟨w1,hw1⟩:∃w1,w1=w.alloc (.cells #[.int .i64 mode,.int .i64 t,.int .i64 l] 29):=⟨_,rfl⟩
 have hb1:Below w.heap.size w w1:=by rw [hw1];exact (Below.refl _ _).alloc nl _
 have hB1:w1.heap[w.heap.size]?=some (.cells #[.int .i64 mode,.int .i64 t,.int .i64 l] 29):=by rw [hw1];exact alloc_at _ _
 have HB1:=hid hB1
 have HP1:=hid ((hb1.block P hPl).trans HP.out)
 rw [←hw1]
 clear hw1 hB1
 obtain ⟨B,hB⟩:∃B,B=w.heap.size:=⟨_,rfl⟩
 rw [←hB] at HB1 ⊢
 have HBE:=hid hB
 clear hB
 have HFX:∀a:Act,(∀p∈[((0:Nat),Value.pointer (some ⟨P,0,none⟩)),(1,.string nm),(2,.string vl),(4,.string tape),(8,.pointer (some ⟨B,0,none⟩)),(10,.pointer none),(11,.int .i64 0)],a.tmps.getD p.1 undef=p.2)→a.tmps[0]?.getD undef=.pointer (some ⟨P,0,none⟩)∧a.tmps[8]?.getD undef=.pointer (some ⟨B,0,none⟩):=by
  intro a h
  have h0:=h (0,.pointer (some ⟨P,0,none⟩)) (by simp)
  have h8:=h (8,.pointer (some ⟨B,0,none⟩)) (by simp)
  exact ⟨by simpa using h0,by simpa using h8⟩
 have HC:∀w':World,Below w1.heap.size { w1 with drawn:=w1.drawn+1 } w'→w'.cell? ⟨P,0,none⟩=some (.int .i64 n)∧w'.cell? ⟨B,0,none⟩=some (.int .i64 mode)∧w'.cell? ⟨B,1,none⟩=some (.int .i64 t)∧w'.cell? ⟨B,2,none⟩=some (.int .i64 l):=by
  intro w' hb
  have hp:=(hb.block P (cells_lt HP1.out)).trans HP1.out
  have hq:=(hb.block B (cells_lt HB1.out)).trans HB1.out
  exact ⟨cq hp rfl,cq hq rfl,cq hq rfl,cq hq rfl⟩
 refine qau (by kernel_rfl) (fun i=>if i=6 then 12 else i+28) (puA P B mode t l n true) [(0,.pointer (some ⟨P,0,none⟩)),(1,.string nm),(2,.string vl),(4,.string tape),(8,.pointer (some ⟨B,0,none⟩)),(10,.pointer none),(11,.int .i64 0)] 110 [0,1,2,4,8,10,11] (by kernel_rfl) rfl rfl rfl ?_ (qbI P B mode t l n true) ?_ ?_
 ·simp
 ·refine ⟨?_,?_,?_,?_,?_,?_,?_,trivial⟩
  all_goals
   intro a w' hb hf hd
   obtain ⟨f0,f8⟩:=HFX a hf
   obtain ⟨p0,b0,b1,b2⟩:=HC w' hb
   simp [puA] at hd
   try (refine .inl ⟨_,w',?_,bl,rfl⟩;go_simp;done)
  ·refine .inr ⟨200,#[.agg #[.int .i64 mode,.int .i64 t,.int .i64 l],.int .i64 n],by go_simp,(HPLAN.out w').mono ?_⟩
   rintro e w'' ⟨rfl,hb2⟩
   exact ⟨_,rfl,hb2,rfl⟩
 ·intro a w2 hdf hsz hb hf hr
  have r6:=hr 6 (by decide)
  simp [puA] at r6
  have hb12:Below w1.heap.size w1 w2:=(Below.drew bl).trans hb
  have hb02:Below w.heap.size w w2:=hb1.trans (hb12.mono hb1.size)
  obtain ⟨tm,df⟩:=a
  simp only at hdf hsz hf r6
  subst hdf
  obtain ⟨f,hfk,rfl⟩:=qck tm hsz
  have e0:f 0=.pointer (some ⟨P,0,none⟩):=(hfk 0).symm.trans (hf (0,_) (by simp))
  have e1:f 1=.string nm:=(hfk 1).symm.trans (hf (1,_) (by simp))
  have e2:f 2=.string vl:=(hfk 2).symm.trans (hf (2,_) (by simp))
  have e4:f 4=.string tape:=(hfk 4).symm.trans (hf (4,_) (by simp))
  have e8:f 8=.pointer (some ⟨B,0,none⟩):=(hfk 8).symm.trans (hf (8,_) (by simp))
  have e10:f 10=.pointer none:=(hfk 10).symm.trans (hf (10,_) (by simp))
  have e11:f 11=.int .i64 0:=(hfk 11).symm.trans (hf (11,_) (by simp))
  have e12:f 12=.bool true:=by simpa using r6
  have HB2:=hid ((hb12.block B (cells_lt HB1.out)).trans HB1.out)
  simp only [e0,e1,e2,e4,e8,e10,e11,e12]
  clear hr hsz hf hfk e0 e1 e2 e4 e8 e10 e11 e12 r6 HFX HC hb
  have hv':¬(60:Int)<(vl.size:Int):=by omega
  have HFIND:=hid (fun w' (hb:Below w.heap.size w w')=>(HW.out.below hb nl).find_any nm (-1) (fun _=>rfl) (fun k hk e _=>absurd e (hno k hk)))
  have hP2:=(hb02.block P hPl).trans HP.out
  have p3:w2.cell? ⟨P,3,none⟩=some (.slice oa xs.length oc):=cq hP2 rfl
  clear hno hP2
  have hfull':(10:Int)≤(xs.length:Int):=by omega
  generalize xs.length=q at *
  go_wp2_with fail
  refine (HFIND.out w2 hb02).mono ?_
  rintro e w3 ⟨rfl,hw3⟩
  obtain rfl:=hw3.symm
  go_wp2_with fail
  go_ret2
  exact ⟨rfl,hb02⟩
theorem Wd.putting_tape (h:Wd w P n key dn dv xs) (nm vl tape:ByteArray) (mode t l:Nat) (h1:1≤nm.size) (h12:nm.size≤12) (hpl:qaj mode t l n) (hv:vl.size≤60) (hno:∀j,j<xs.length→(xs[j]!).ob.name≠nm) (hfew:xs.length<10) (htp:tape.size<Cof.tsize mode t*Cof.ngroups mode t l vl.size) :
  Calls Tryz.prog 159 #[.pointer (some ⟨P,0,none⟩),.string nm,.string vl,.agg #[.int .i64 mode,.int .i64 t,.int .i64 l],.string tape] w fun e w'=>e=.returned (.tuple #[.pointer none,.int .i64 7])∧Below w.heap.size w w':=by
 have HPLAN:=hid (fun w'=>qbC mode t l n w' hpl)
 have hn1:=h.n1
 have hn8:=h.n8
 have hl10:=h.len
 have HW:=hid h
 obtain ⟨oa,oc,hp1,hrd⟩:=h.hp
 have hPl:=cells_lt hp1
 have HP:=hid hp1
 clear hp1 hrd h
 have h1':¬(nm.size:Int)<1:=by omega
 have h12':¬(12:Int)<(nm.size:Int):=by omega
 go_enter Tryz.func159,Tryz.ntmps159
 go_wp2_with fail
 obtain ⟨w1,hw1⟩:∃w1,w1=w.alloc (.cells #[.int .i64 mode,.int .i64 t,.int .i64 l] 29):=⟨_,rfl⟩
 have hb1:Below w.heap.size w w1:=by rw [hw1];exact (Below.refl _ _).alloc nl _
 have hB1:w1.heap[w.heap.size]?=some (.cells #[.int .i64 mode,.int .i64 t,.int .i64 l] 29):=by rw [hw1];exact alloc_at _ _
 have HB1:=hid hB1
 have HP1:=hid ((hb1.block P hPl).trans HP.out)
 rw [←hw1]
 clear hw1 hB1
 obtain ⟨B,hB⟩:∃B,B=w.heap.size:=⟨_,rfl⟩
 rw [←hB] at HB1 ⊢
 have HBE:=hid hB
 clear hB
 have HFX:∀a:Act,(∀p∈[((0:Nat),Value.pointer (some ⟨P,0,none⟩)),(1,.string nm),(2,.string vl),(4,.string tape),(8,.pointer (some ⟨B,0,none⟩)),(10,.pointer none),(11,.int .i64 0)],a.tmps.getD p.1 undef=p.2)→a.tmps[0]?.getD undef=.pointer (some ⟨P,0,none⟩)∧a.tmps[8]?.getD undef=.pointer (some ⟨B,0,none⟩):=by
  intro a h
  have h0:=h (0,.pointer (some ⟨P,0,none⟩)) (by simp)
  have h8:=h (8,.pointer (some ⟨B,0,none⟩)) (by simp)
  exact ⟨by simpa using h0,by simpa using h8⟩
 have HC:∀w':World,Below w1.heap.size { w1 with drawn:=w1.drawn+1 } w'→w'.cell? ⟨P,0,none⟩=some (.int .i64 n)∧w'.cell? ⟨B,0,none⟩=some (.int .i64 mode)∧w'.cell? ⟨B,1,none⟩=some (.int .i64 t)∧w'.cell? ⟨B,2,none⟩=some (.int .i64 l):=by
  intro w' hb
  have hp:=(hb.block P (cells_lt HP1.out)).trans HP1.out
  have hq:=(hb.block B (cells_lt HB1.out)).trans HB1.out
  exact ⟨cq hp rfl,cq hq rfl,cq hq rfl,cq hq rfl⟩
 refine qau (by kernel_rfl) (fun i=>if i=6 then 12 else i+28) (puA P B mode t l n true) [(0,.pointer (some ⟨P,0,none⟩)),(1,.string nm),(2,.string vl),(4,.string tape),(8,.pointer (some ⟨B,0,none⟩)),(10,.pointer none),(11,.int .i64 0)] 110 [0,1,2,4,8,10,11] (by kernel_rfl) rfl rfl rfl ?_ (qbI P B mode t l n true) ?_ ?_
 ·simp
 ·refine ⟨?_,?_,?_,?_,?_,?_,?_,trivial⟩
  all_goals
   intro a w' hb hf hd
   obtain ⟨f0,f8⟩:=HFX a hf
   obtain ⟨p0,b0,b1,b2⟩:=HC w' hb
   simp [puA] at hd
   try (refine .inl ⟨_,w',?_,bl,rfl⟩;go_simp;done)
  ·refine .inr ⟨200,#[.agg #[.int .i64 mode,.int .i64 t,.int .i64 l],.int .i64 n],by go_simp,(HPLAN.out w').mono ?_⟩
   rintro e w'' ⟨rfl,hb2⟩
   exact ⟨_,rfl,hb2,rfl⟩
 ·intro a w2 hdf hsz hb hf hr
  have r6:=hr 6 (by decide)
  simp [puA] at r6
  have hb12:Below w1.heap.size w1 w2:=(Below.drew bl).trans hb
  have hb02:Below w.heap.size w w2:=hb1.trans (hb12.mono hb1.size)
  obtain ⟨tm,df⟩:=a
  simp only at hdf hsz hf r6
  subst hdf
  obtain ⟨f,hfk,rfl⟩:=qck tm hsz
  have e0:f 0=.pointer (some ⟨P,0,none⟩):=(hfk 0).symm.trans (hf (0,_) (by simp))
  have e1:f 1=.string nm:=(hfk 1).symm.trans (hf (1,_) (by simp))
  have e2:f 2=.string vl:=(hfk 2).symm.trans (hf (2,_) (by simp))
  have e4:f 4=.string tape:=(hfk 4).symm.trans (hf (4,_) (by simp))
  have e8:f 8=.pointer (some ⟨B,0,none⟩):=(hfk 8).symm.trans (hf (8,_) (by simp))
  have e10:f 10=.pointer none:=(hfk 10).symm.trans (hf (10,_) (by simp))
  have e11:f 11=.int .i64 0:=(hfk 11).symm.trans (hf (11,_) (by simp))
  have e12:f 12=.bool true:=by simpa using r6
  have HB2:=hid ((hb12.block B (cells_lt HB1.out)).trans HB1.out)
  simp only [e0,e1,e2,e4,e8,e10,e11,e12]
  clear hr hsz hf hfk e0 e1 e2 e4 e8 e10 e11 e12 r6 HFX HC hb
  have hv':¬(60:Int)<(vl.size:Int):=by omega
  have HFIND:=hid (fun w' (hb:Below w.heap.size w w')=>(HW.out.below hb nl).find_any nm (-1) (fun _=>rfl) (fun k hk e _=>absurd e (hno k hk)))
  have hP2:=(hb02.block P hPl).trans HP.out
  have p3:w2.cell? ⟨P,3,none⟩=some (.slice oa xs.length oc):=cq hP2 rfl
  clear hno hP2
  have hfew':¬(10:Int)≤(xs.length:Int):=by omega
  have HTP:=hid (fun w'=>qca mode t l n vl.size w' hpl hv)
  have b0:w2.cell? ⟨B,0,none⟩=some (.int .i64 mode):=cq HB2.out rfl
  have b1:w2.cell? ⟨B,1,none⟩=some (.int .i64 t):=cq HB2.out rfl
  have b2:w2.cell? ⟨B,2,none⟩=some (.int .i64 l):=cq HB2.out rfl
  obtain ⟨T,hT⟩:∃T,T=Cof.tsize mode t*Cof.ngroups mode t l vl.size:=⟨_,rfl⟩
  rw [←hT] at HTP htp
  have htp':(tape.size:Int)<(T:Int):=by omega
  clear hT
  generalize xs.length=q at *
  go_wp2_with fail
  refine (HFIND.out w2 hb02).mono ?_
  rintro e w3 ⟨rfl,hw3⟩
  obtain rfl:=hw3.symm
  go_wp2_with fail
  refine (HTP.out _).mono ?_
  rintro e w4 ⟨rfl,hb4⟩
  have hb04:=hb02.trans (hb4.mono hb02.size)
  go_wp2_with fail
  go_ret2
  exact ⟨rfl,hb04⟩
theorem Wd.putting_down (h:Wd w P n key dn dv xs) (nm vl tape:ByteArray) (mode t l:Nat) (h1:1≤nm.size) (h12:nm.size≤12) (hpl:qaj mode t l n) (hv:vl.size≤60) (hno:∀j,j<xs.length→(xs[j]!).ob.name≠nm) (hfew:xs.length<10) (htp:Cof.tsize mode t*Cof.ngroups mode t l vl.size≤tape.size) (_htm:tape.size≤9223372036854775807) (hd:∃i,i<n∧dn i=true) :
  Calls Tryz.prog 159 #[.pointer (some ⟨P,0,none⟩),.string nm,.string vl,.agg #[.int .i64 mode,.int .i64 t,.int .i64 l],.string tape] w fun e w'=>e=.returned (.tuple #[.pointer none,.int .i64 8])∧Below w.heap.size w w':=by
 have HPLAN:=hid (fun w'=>qbC mode t l n w' hpl)
 have hn1:=h.n1
 have hn8:=h.n8
 have hl10:=h.len
 have HW:=hid h
 obtain ⟨oa,oc,hp1,hrd⟩:=h.hp
 have hPl:=cells_lt hp1
 have HP:=hid hp1
 clear hp1 hrd h
 have h1':¬(nm.size:Int)<1:=by omega
 have h12':¬(12:Int)<(nm.size:Int):=by omega
 go_enter Tryz.func159,Tryz.ntmps159
 go_wp2_with fail
 obtain ⟨w1,hw1⟩:∃w1,w1=w.alloc (.cells #[.int .i64 mode,.int .i64 t,.int .i64 l] 29):=⟨_,rfl⟩
 have hb1:Below w.heap.size w w1:=by rw [hw1];exact (Below.refl _ _).alloc nl _
 have hB1:w1.heap[w.heap.size]?=some (.cells #[.int .i64 mode,.int .i64 t,.int .i64 l] 29):=by rw [hw1];exact alloc_at _ _
 have HB1:=hid hB1
 have HP1:=hid ((hb1.block P hPl).trans HP.out)
 rw [←hw1]
 clear hw1 hB1
 obtain ⟨B,hB⟩:∃B,B=w.heap.size:=⟨_,rfl⟩
 rw [←hB] at HB1 ⊢
 have HBE:=hid hB
 clear hB
 have HFX:∀a:Act,(∀p∈[((0:Nat),Value.pointer (some ⟨P,0,none⟩)),(1,.string nm),(2,.string vl),(4,.string tape),(8,.pointer (some ⟨B,0,none⟩)),(10,.pointer none),(11,.int .i64 0)],a.tmps.getD p.1 undef=p.2)→a.tmps[0]?.getD undef=.pointer (some ⟨P,0,none⟩)∧a.tmps[8]?.getD undef=.pointer (some ⟨B,0,none⟩):=by
  intro a h
  have h0:=h (0,.pointer (some ⟨P,0,none⟩)) (by simp)
  have h8:=h (8,.pointer (some ⟨B,0,none⟩)) (by simp)
  exact ⟨by simpa using h0,by simpa using h8⟩
 have HC:∀w':World,Below w1.heap.size { w1 with drawn:=w1.drawn+1 } w'→w'.cell? ⟨P,0,none⟩=some (.int .i64 n)∧w'.cell? ⟨B,0,none⟩=some (.int .i64 mode)∧w'.cell? ⟨B,1,none⟩=some (.int .i64 t)∧w'.cell? ⟨B,2,none⟩=some (.int .i64 l):=by
  intro w' hb
  have hp:=(hb.block P (cells_lt HP1.out)).trans HP1.out
  have hq:=(hb.block B (cells_lt HB1.out)).trans HB1.out
  exact ⟨cq hp rfl,cq hq rfl,cq hq rfl,cq hq rfl⟩
 refine qau (by kernel_rfl) (fun i=>if i=6 then 12 else i+28) (puA P B mode t l n true) [(0,.pointer (some ⟨P,0,none⟩)),(1,.string nm),(2,.string vl),(4,.string tape),(8,.pointer (some ⟨B,0,none⟩)),(10,.pointer none),(11,.int .i64 0)] 110 [0,1,2,4,8,10,11] (by kernel_rfl) rfl rfl rfl ?_ (qbI P B mode t l n true) ?_ ?_
 ·simp
 ·refine ⟨?_,?_,?_,?_,?_,?_,?_,trivial⟩
  all_goals
   intro a w' hb hf hd
   obtain ⟨f0,f8⟩:=HFX a hf
   obtain ⟨p0,b0,b1,b2⟩:=HC w' hb
   simp [puA] at hd
   try (refine .inl ⟨_,w',?_,bl,rfl⟩;go_simp;done)
  ·refine .inr ⟨200,#[.agg #[.int .i64 mode,.int .i64 t,.int .i64 l],.int .i64 n],by go_simp,(HPLAN.out w').mono ?_⟩
   rintro e w'' ⟨rfl,hb2⟩
   exact ⟨_,rfl,hb2,rfl⟩
 ·intro a w2 hdf hsz hb hf hr
  have r6:=hr 6 (by decide)
  simp [puA] at r6
  have hb12:Below w1.heap.size w1 w2:=(Below.drew bl).trans hb
  have hb02:Below w.heap.size w w2:=hb1.trans (hb12.mono hb1.size)
  obtain ⟨tm,df⟩:=a
  simp only at hdf hsz hf r6
  subst hdf
  obtain ⟨f,hfk,rfl⟩:=qck tm hsz
  have e0:f 0=.pointer (some ⟨P,0,none⟩):=(hfk 0).symm.trans (hf (0,_) (by simp))
  have e1:f 1=.string nm:=(hfk 1).symm.trans (hf (1,_) (by simp))
  have e2:f 2=.string vl:=(hfk 2).symm.trans (hf (2,_) (by simp))
  have e4:f 4=.string tape:=(hfk 4).symm.trans (hf (4,_) (by simp))
  have e8:f 8=.pointer (some ⟨B,0,none⟩):=(hfk 8).symm.trans (hf (8,_) (by simp))
  have e10:f 10=.pointer none:=(hfk 10).symm.trans (hf (10,_) (by simp))
  have e11:f 11=.int .i64 0:=(hfk 11).symm.trans (hf (11,_) (by simp))
  have e12:f 12=.bool true:=by simpa using r6
  have HB2:=hid ((hb12.block B (cells_lt HB1.out)).trans HB1.out)
  simp only [e0,e1,e2,e4,e8,e10,e11,e12]
  clear hr hsz hf hfk e0 e1 e2 e4 e8 e10 e11 e12 r6 HFX HC hb
  have hv':¬(60:Int)<(vl.size:Int):=by omega
  have HFIND:=hid (fun w' (hb:Below w.heap.size w w')=>(HW.out.below hb nl).find_any nm (-1) (fun _=>rfl) (fun k hk e _=>absurd e (hno k hk)))
  have hP2:=(hb02.block P hPl).trans HP.out
  have p3:w2.cell? ⟨P,3,none⟩=some (.slice oa xs.length oc):=cq hP2 rfl
  clear hno hP2
  have hfew':¬(10:Int)≤(xs.length:Int):=by omega
  have HTP:=hid (fun w'=>qca mode t l n vl.size w' hpl hv)
  have b0:w2.cell? ⟨B,0,none⟩=some (.int .i64 mode):=cq HB2.out rfl
  have b1:w2.cell? ⟨B,1,none⟩=some (.int .i64 t):=cq HB2.out rfl
  have b2:w2.cell? ⟨B,2,none⟩=some (.int .i64 l):=cq HB2.out rfl
  obtain ⟨T,hT⟩:∃T,T=Cof.tsize mode t*Cof.ngroups mode t l vl.size:=⟨_,rfl⟩
  rw [←hT] at HTP htp
  have htp':¬(tape.size:Int)<(T:Int):=by omega
  have HUP:=hid (fun w' (hb:Below w.heap.size w w')=>(HW.out.below hb nl).allUp_any false (fun _ _ _=>rfl) (fun hall=>by obtain ⟨i,hi,e⟩:=hd;rw [hall i hi] at e;cases e))
  clear hT hd
  generalize xs.length=q at *
  go_wp2_with fail
  refine (HFIND.out w2 hb02).mono ?_
  rintro e w3 ⟨rfl,hw3⟩
  obtain rfl:=hw3.symm
  go_wp2_with fail
  refine (HTP.out _).mono ?_
  rintro e w4 ⟨rfl,hb4⟩
  have hb04:=hb02.trans (hb4.mono hb02.size)
  go_wp2_with fail
  refine (HUP.out w4 hb04).mono ?_
  rintro e w5 ⟨rfl,hw5⟩
  obtain rfl:=hw5.symm
  go_wp2_with fail
  go_ret2
  exact ⟨rfl,hb04⟩
end
def puB (P _B:Nat) (mode t l n:Nat) (vl tape:ByteArray) (base:Nat) (L:List Value):Nat→Value→World→Prop
 | 0,v,_=>v=.string vl
 | 1,v,_=>v=.agg #[.int .i64 mode,.int .i64 t,.int .i64 l]
 | 2,v,_=>v=.pointer (some ⟨P,0,none⟩)
 | 3,v,_=>v=.pointer (some ⟨P,0,none⟩)
 | 4,v,_=>v=.pointer (some ⟨P,0,none⟩)
 | 5,v,_=>v=.int .i64 n
 | 6,v,_=>v=.string tape
 | 7,v,w=>w.ownsRow base 9 1 v n L
 | 8,v,w=>w.ownsRow base 9 1 v n L
 | _,_,_=>False
theorem qk0 (P B:Nat) (mode t l n:Nat) (vl tape:ByteArray) (base:Nat) (L:List Value) (j:Nat) (v:Value) (w w':World) (h:puB P B mode t l n vl tape base L j v w) (hb:Below w.heap.size w w'):puB P B mode t l n vl tape base L j v w':=by
 unfold puB at h ⊢
 split at h<;>first | exact h | exact qae h hb nl
def puC (P Y rg n rc k:Nat) (oc:Array Value) (pc sh:ByteArray):Nat→Value→World→Prop
 | 0,v,_=>v=.pointer (some ⟨P,0,none⟩)
 | 1,v,_=>v=.pointer (some ⟨Y,0,none⟩)
 | 2,v,_=>v=.agg oc
 | 3,v,_=>v=.int .i64 k
 | 4,v,_=>v=.slice (some ⟨rg,0,none⟩) n rc
 | 5,v,_=>v=.int .i64 k
 | 6,v,_=>v=.pointer (some ⟨rg,k,none⟩)
 | 7,v,_=>v=.string pc
 | 8,v,_=>v=.string sh
 | 9,v,_=>v=.string sh
 | _,_,_=>False
theorem qkg (P Y rg n rc k:Nat) (oc:Array Value) (pc sh:ByteArray) (j:Nat) (v:Value) (w w':World) (h:puC P Y rg n rc k oc pc sh j v w) (_:Below w.heap.size w w'):puC P Y rg n rc k oc pc sh j v w':=by
 unfold puC at h ⊢
 split at h<;>exact h
structure PuJ (w4 w5 w6 wr:World) (Y rg n rc mode t l k:Nat) (nm vl:ByteArray) (L:List Value) (SH:List ByteArray) (sv:Value):Prop where
 hY:wr.heap[Y]?=some (.cells #[.string nm,.int .i64 mode,.int .i64 t,.int .i64 l,.int .i64 vl.size,.int .i64 0,sv] 198)
 sh:wr.ownsRow w6.heap.size 9 1 sv k ((SH.take k).map .string)
 row:wr.ownsRow w5.heap.size 9 1 (.slice (some ⟨rg,0,none⟩) n rc) n L
 bel:Below w4.heap.size w4 wr
 ge:w6.heap.size≤wr.heap.size
def qiR (w:World) (n key:Nat) (dn:Nat→Bool) (nm vl tape:ByteArray) (mode t l:Nat) (xs:List RObj) (e:Ending) (w':World):Prop:=∃X dv' y ys,e=.returned (.tuple #[.pointer (some ⟨X,0,none⟩),.int .i64 0])∧Wd w' X n key dn dv' (plc y ys)∧y.ob=(⟨nm,mode,t,l,vl.size,0⟩:Ob)∧y.sh=(List.range n).map (fun i=>(⟨(qaR key (⟨nm,mode,t,l,vl.size,0⟩:Ob) n i ((Cof.split vl.data.toList mode t l n tape.data.toList).getD i [])).toArray⟩:ByteArray))∧ys.length=xs.length∧(∀j,j<xs.length→(ys[j]!).ob=(xs[j]!).ob∧(ys[j]!).sh=(xs[j]!).sh)∧Below w.heap.size w w'∧∀b,dv'.ownBlock=some b→w.heap.size≤b
def puD (X _Y:Nat) (ov:Value) (cs:Array Value) (base m:Nat) (L:List Value):Nat→Value→World→Prop
 | 0,v,_=>v=.pointer (some ⟨X,0,none⟩)
 | 1,v,_=>v=.pointer (some ⟨X,0,none⟩)
 | 2,v,_=>v=.pointer (some ⟨X,0,none⟩)
 | 3,v,_=>v=.pointer (some ⟨X,3,none⟩)
 | 4,v,_=>v=ov
 | 5,v,_=>v=.agg cs
 | 6,v,w=>w.ownsRow base 198 7 v m L
 | 7,v,_=>v=.pointer (some ⟨X,0,none⟩)
 | 8,v,_=>v=.pointer (some ⟨X,3,none⟩)
 | _,_,_=>False
theorem qj2 (X Y:Nat) (ov:Value) (cs:Array Value) (base m:Nat) (L:List Value) (j:Nat) (v:Value) (w w':World) (h:puD X Y ov cs base m L j v w) (hb:Below w.heap.size w w'):puD X Y ov cs base m L j v w':=by
 unfold puD at h ⊢
 split at h<;>first | exact h | exact qab (own:=fun _=>False) h (qaa.ofBelow hb nl) (fun _ _ h=>h)
theorem qlP (y:RObj) (xs:List RObj) (z:RObj) (h:z∈plc y xs):z=y∨z∈xs:=by
 have key:∀(xs:List RObj) (st:List RObj × Bool),z∈(xs.foldl (qbi y) st).1→z∈st.1∨z=y∨z∈xs:=by
  intro xs
  induction xs with
  | nil=>intro st h;exact .inl h
  | cons x xs ih =>
   intro st h
   rw [List.foldl_cons] at h
   rcases ih _ h with h | h | h
   ·unfold qbi at h
    split at h
    ·simp at h
     rcases h with h | h | h
     ·exact .inl h
     ·exact .inr (.inl h)
     ·exact .inr (.inr (by simp [h]))
    ·simp at h
     rcases h with h | h
     ·exact .inl h
     ·exact .inr (.inr (by simp [h]))
   ·exact .inr (.inl h)
   ·exact .inr (.inr (by simp [h]))
 unfold plc at h
 split at h
 ·rcases key xs _ h with h | h | h
  ·cases h
  ·exact .inl h
  ·exact .inr h
 ·rw [List.mem_append,List.mem_singleton] at h
  rcases h with h | h
  ·rcases key xs _ h with h | h | h
   ·cases h
   ·exact .inl h
   ·exact .inr h
  ·exact .inl h
theorem qeQ (y:RObj) (xs:List RObj):(plc y xs).length=xs.length+1:=by
 have:=qdy y xs
 unfold plc
 cases hb:(qbK y xs).2 with
 | true=>rw [hb] at this;simp at this ⊢;exact this
 | false=>rw [hb] at this;simp at this ⊢;exact this
theorem put_wd {wr w8 w9:World} {P X n key B:Nat} {dn:Nat→Bool} {dv0 dv:Value} {xs:List RObj} {ov ov':Value} {ys:List RObj} (hc:CpJ w8 wr X n key B dn dv xs xs.length ov ys) (h0:Wd wr P n key dn dv0 xs) (hb:Below w8.heap.size w8 w9) (y:RObj)
  (hy:y.sh.length=n∧w8.ownsRow 0 9 1 (.slice y.sa n y.sc) n (y.sh.map .string)) (ho:w9.ownsRow w8.heap.size 198 7 ov' (xs.length+1) (qat n (plc y ys))) (hl:xs.length<10):Wd (w9.setCell ⟨X,3,none⟩ ov') X n key dn dv (plc y ys):=by
 have hw:=(hc.wd h0).below hb nl
 have hX9:=(hb.block X (cells_lt hc.hX)).trans hc.hX
 have hsX:qaa (fun b=>b=X) w9 (w9.setCell ⟨X,3,none⟩ ov'):=qaa.setCell (own:=fun b=>b=X) (p:=⟨X,3,none⟩) sr rfl _
 have keep:∀{e:TypeId} {b0 size m:Nat} {v:Value} {l:List Value},e≠130→w9.ownsRow b0 e size v m l→(w9.setCell ⟨X,3,none⟩ ov').ownsRow b0 e size v m l:=fun h1 ho=>qab ho hsX (fun b hb e=>by rw [e] at hb;exact qaz ho hX9 h1 hb)
 refine ⟨⟨ov',qan ov' hX9,?_⟩,keep (by decide) hw.down,fun z hz=>?_,hw.n1,hw.n8,?_,hw.hk⟩
 ·rw [qeQ,hc.len]
  exact qaf (keep (by decide) ho) (Nat.zero_le _)
 ·rcases qlP y ys z hz with rfl | hz
  ·exact ⟨hy.1,keep (by decide) (qae hy.2 hb nl)⟩
  ·exact ⟨(hw.shs z hz).1,keep (by decide) (hw.shs z hz).2⟩
 ·rw [qeQ,hc.len]
  omega
theorem PuJ.nY {w4 w5 w6 wr:World} {Y rg n rc mode t l k:Nat} {nm vl:ByteArray} {L:List Value} {SH:List ByteArray} {sv:Value} (h:PuJ w4 w5 w6 wr Y rg n rc mode t l k nm vl L SH sv) (hY:Y<w6.heap.size):¬sv.ownBlock=some Y:=fun e=>by
 have:=(h.sh.lt Y e).1
 omega
theorem PuJ.next {w4 w5 w6 wr w7 w8:World} {Y rg n rc mode t l k:Nat} {nm vl:ByteArray} {L:List Value} {SH:List ByteArray} {sv sv':Value} {S:ByteArray} {L7:List Value} {o:Obj} (h:PuJ w4 w5 w6 wr Y rg n rc mode t l k nm vl L SH sv) (hY:w4.heap.size≤Y) (hb:Below wr.heap.size wr w7) (h46:w4.heap.size≤w6.heap.size) (hYl:Y<w6.heap.size) (hrg:rg<w6.heap.size)
  (hs:qaa (fun b=>sv.ownBlock=some b) (w7.alloc o) w8) (ho:w8.ownsRow w6.heap.size 9 1 sv' (k+1) (L7++[.string S])) (hL:(SH.take (k+1)).map Value.string=L7++[.string S]):PuJ w4 w5 w6 (w8.setCell ⟨Y,6,none⟩ sv') Y rg n rc mode t l (k+1) nm vl L SH sv':=by
 have hba:Below wr.heap.size wr (w7.alloc o):=hb.alloc hb.size _
 have hY7:=(hba.block Y (cells_lt h.hY)).trans h.hY
 have hYn:¬sv.ownBlock=some Y:=h.nY hYl
 have hY8:=hs.heap hY7 hYn
 have hsY:qaa (fun b=>b=Y) w8 (w8.setCell ⟨Y,6,none⟩ sv'):=qaa.setCell (own:=fun b=>b=Y) (p:=⟨Y,6,none⟩) sr rfl _
 have hrow8:=qab (qae h.row hba nl) hs (fun b hb hs2=>by
  cases hb
  have:w6.heap.size≤rg:=(h.sh.lt _ hs2).1
  omega)
 refine ⟨qan sv' hY8,?_,?_,?_,?_⟩
 ·rw [hL]
  exact qab ho hsY (fun b hb e=>by rw [e] at hb;exact qaz ho hY8 (by decide) hb)
 ·exact qab hrow8 hsY (fun b hb e=>by rw [e] at hb;exact qaz hrow8 hY8 (by decide) hb)
 ·have h1:=h.bel.trans (hba.mono h.bel.size)
  have h2:=h1.trans (hs.below w4.heap.size h1.size (fun b hb=>Nat.le_trans h46 (h.sh.lt b hb).1))
  exact h2.trans (hsY.below w4.heap.size h2.size (fun b hb=>by rw [hb];exact hY))
 ·have h1:=h.ge
  have h2:=hba.size
  have h3:=hs.size
  have h4:=hsY.size
  omega
section
variable {w:World} {P n key:Nat} {dn:Nat→Bool} {dv:Value} {xs:List RObj}
theorem Wd.putting_ok (h:Wd w P n key dn dv xs) (nm vl tape:ByteArray) (mode t l:Nat) (h1:1≤nm.size) (h12:nm.size≤12) (hpl:qaj mode t l n) (hv:vl.size≤60) (hno:∀j,j<xs.length→(xs[j]!).ob.name≠nm) (hfew:xs.length<10) (htp:Cof.tsize mode t*Cof.ngroups mode t l vl.size≤tape.size) (_htm:tape.size≤9223372036854775807) (hup:∀i,i<n→dn i=false) :
  Calls Tryz.prog 159 #[.pointer (some ⟨P,0,none⟩),.string nm,.string vl,.agg #[.int .i64 mode,.int .i64 t,.int .i64 l],.string tape] w fun e w'=>qiR w n key dn nm vl tape mode t l xs e w':=by
 have HPLAN:=hid (fun w'=>qbC mode t l n w' hpl)
 have hn1:=h.n1
 have hn8:=h.n8
 have hl10:=h.len
 have HW:=hid h
 obtain ⟨oa,oc,hp1,hrd⟩:=h.hp
 have hPl:=cells_lt hp1
 have HP:=hid hp1
 clear hp1 hrd h
 have h1':¬(nm.size:Int)<1:=by omega
 have h12':¬(12:Int)<(nm.size:Int):=by omega
 go_enter Tryz.func159,Tryz.ntmps159
 go_wp2_with fail
 obtain ⟨w1,hw1⟩:∃w1,w1=w.alloc (.cells #[.int .i64 mode,.int .i64 t,.int .i64 l] 29):=⟨_,rfl⟩
 have hb1:Below w.heap.size w w1:=by rw [hw1];exact (Below.refl _ _).alloc nl _
 have hB1:w1.heap[w.heap.size]?=some (.cells #[.int .i64 mode,.int .i64 t,.int .i64 l] 29):=by rw [hw1];exact alloc_at _ _
 have HB1:=hid hB1
 have HP1:=hid ((hb1.block P hPl).trans HP.out)
 rw [←hw1]
 clear hw1 hB1
 obtain ⟨B,hB⟩:∃B,B=w.heap.size:=⟨_,rfl⟩
 rw [←hB] at HB1 ⊢
 have HBE:=hid hB
 clear hB
 have HFX:∀a:Act,(∀p∈[((0:Nat),Value.pointer (some ⟨P,0,none⟩)),(1,.string nm),(2,.string vl),(4,.string tape),(8,.pointer (some ⟨B,0,none⟩)),(10,.pointer none),(11,.int .i64 0)],a.tmps.getD p.1 undef=p.2)→a.tmps[0]?.getD undef=.pointer (some ⟨P,0,none⟩)∧a.tmps[8]?.getD undef=.pointer (some ⟨B,0,none⟩):=by
  intro a h
  have h0:=h (0,.pointer (some ⟨P,0,none⟩)) (by simp)
  have h8:=h (8,.pointer (some ⟨B,0,none⟩)) (by simp)
  exact ⟨by simpa using h0,by simpa using h8⟩
 have HC:∀w':World,Below w1.heap.size { w1 with drawn:=w1.drawn+1 } w'→w'.cell? ⟨P,0,none⟩=some (.int .i64 n)∧w'.cell? ⟨B,0,none⟩=some (.int .i64 mode)∧w'.cell? ⟨B,1,none⟩=some (.int .i64 t)∧w'.cell? ⟨B,2,none⟩=some (.int .i64 l):=by
  intro w' hb
  have hp:=(hb.block P (cells_lt HP1.out)).trans HP1.out
  have hq:=(hb.block B (cells_lt HB1.out)).trans HB1.out
  exact ⟨cq hp rfl,cq hq rfl,cq hq rfl,cq hq rfl⟩
 refine qau (by kernel_rfl) (fun i=>if i=6 then 12 else i+28) (puA P B mode t l n true) [(0,.pointer (some ⟨P,0,none⟩)),(1,.string nm),(2,.string vl),(4,.string tape),(8,.pointer (some ⟨B,0,none⟩)),(10,.pointer none),(11,.int .i64 0)] 110 [0,1,2,4,8,10,11] (by kernel_rfl) rfl rfl rfl ?_ (qbI P B mode t l n true) ?_ ?_
 ·simp
 ·refine ⟨?_,?_,?_,?_,?_,?_,?_,trivial⟩
  all_goals
   intro a w' hb hf hd
   obtain ⟨f0,f8⟩:=HFX a hf
   obtain ⟨p0,b0,b1,b2⟩:=HC w' hb
   simp [puA] at hd
   try (refine .inl ⟨_,w',?_,bl,rfl⟩;go_simp;done)
  ·refine .inr ⟨200,#[.agg #[.int .i64 mode,.int .i64 t,.int .i64 l],.int .i64 n],by go_simp,(HPLAN.out w').mono ?_⟩
   rintro e w'' ⟨rfl,hb2⟩
   exact ⟨_,rfl,hb2,rfl⟩
 ·intro a w2 hdf hsz hb hf hr
  have r6:=hr 6 (by decide)
  simp [puA] at r6
  have hb12:Below w1.heap.size w1 w2:=(Below.drew bl).trans hb
  have hb02:Below w.heap.size w w2:=hb1.trans (hb12.mono hb1.size)
  obtain ⟨tm,df⟩:=a
  simp only at hdf hsz hf r6
  subst hdf
  obtain ⟨f,hfk,rfl⟩:=qck tm hsz
  have e0:f 0=.pointer (some ⟨P,0,none⟩):=(hfk 0).symm.trans (hf (0,_) (by simp))
  have e1:f 1=.string nm:=(hfk 1).symm.trans (hf (1,_) (by simp))
  have e2:f 2=.string vl:=(hfk 2).symm.trans (hf (2,_) (by simp))
  have e4:f 4=.string tape:=(hfk 4).symm.trans (hf (4,_) (by simp))
  have e8:f 8=.pointer (some ⟨B,0,none⟩):=(hfk 8).symm.trans (hf (8,_) (by simp))
  have e10:f 10=.pointer none:=(hfk 10).symm.trans (hf (10,_) (by simp))
  have e11:f 11=.int .i64 0:=(hfk 11).symm.trans (hf (11,_) (by simp))
  have e12:f 12=.bool true:=by simpa using r6
  have HB2:=hid ((hb12.block B (cells_lt HB1.out)).trans HB1.out)
  simp only [e0,e1,e2,e4,e8,e10,e11,e12]
  clear hr hsz hf hfk e0 e1 e2 e4 e8 e10 e11 e12 r6 HFX HC hb
  have hv':¬(60:Int)<(vl.size:Int):=by omega
  have HFIND:=hid (fun w' (hb:Below w.heap.size w w')=>(HW.out.below hb nl).find_any nm (-1) (fun _=>rfl) (fun k hk e _=>absurd e (hno k hk)))
  have hP2:=(hb02.block P hPl).trans HP.out
  have p3:w2.cell? ⟨P,3,none⟩=some (.slice oa xs.length oc):=cq hP2 rfl
  clear hno hP2
  have hfew':¬(10:Int)≤(xs.length:Int):=by omega
  have HTP:=hid (fun w'=>qca mode t l n vl.size w' hpl hv)
  have b0:w2.cell? ⟨B,0,none⟩=some (.int .i64 mode):=cq HB2.out rfl
  have b1:w2.cell? ⟨B,1,none⟩=some (.int .i64 t):=cq HB2.out rfl
  have b2:w2.cell? ⟨B,2,none⟩=some (.int .i64 l):=cq HB2.out rfl
  obtain ⟨T,hT⟩:∃T,T=Cof.tsize mode t*Cof.ngroups mode t l vl.size:=⟨_,rfl⟩
  rw [←hT] at HTP htp
  have htp':¬(tape.size:Int)<(T:Int):=by omega
  have HUP:=hid (fun w' (hb:Below w.heap.size w w')=>(HW.out.below hb nl).allUp_any true (fun i hi e=>by rw [hup i hi] at e;cases e) (fun _=>rfl))
  have HPIE:=hid (fun w'=>qdQ mode t l n vl tape w' hpl hv (by rw [←hT];exact htp))
  have HT:=hid hT
  clear hT hup
  have hl10':xs.length≤10:=hl10
  go_wp2_with fail
  refine (HFIND.out w2 hb02).mono ?_
  rintro e w3 ⟨rfl,hw3⟩
  obtain rfl:=hw3.symm
  go_wp2_with fail
  refine (HTP.out _).mono ?_
  rintro e w4 ⟨rfl,hb4⟩
  have hb04:=hb02.trans (hb4.mono hb02.size)
  go_wp2_with fail
  refine (HUP.out w4 hb04).mono ?_
  rintro e w5 ⟨rfl,hw5⟩
  obtain rfl:=hw5.symm
  have hB4:w4.heap[B]?=_:=(hb4.block B (cells_lt HB2.out)).trans HB2.out
  have HB4:=hid hB4
  have d0:w4.cell? ⟨B,0,none⟩=some (.int .i64 mode):=cq hB4 rfl
  have d1:w4.cell? ⟨B,1,none⟩=some (.int .i64 t):=cq hB4 rfl
  have d2:w4.cell? ⟨B,2,none⟩=some (.int .i64 l):=cq hB4 rfl
  clear b0 b1 b2 p3 HTP HFIND HUP hB4
  go_wp2_with fail
  obtain ⟨Y,hY⟩:∃Y,Y=w4.heap.size:=⟨_,rfl⟩
  obtain ⟨w5,hw5⟩:∃w5,w5=w4.alloc (.cells #[.string nm,.int .i64 mode,.int .i64 t,.int .i64 l,.int .i64 vl.size,.int .i64 0,.slice none 0 0] 198):=⟨_,rfl⟩
  have hb45:Below w4.heap.size w4 w5:=by rw [hw5];exact (Below.refl _ _).alloc nl _
  have HY5:=hid (show w5.heap[Y]?=some (.cells #[.string nm,.int .i64 mode,.int .i64 t,.int .i64 l,.int .i64 vl.size,.int .i64 0,.slice none 0 0] 198) from by rw [hw5,hY];exact alloc_at _ _)
  have HB5:=hid ((hb45.block B (cells_lt HB4.out)).trans HB4.out)
  have hb05:=hb04.trans (hb45.mono hb04.size)
  have HP5:=hid ((hb05.block P hPl).trans HP.out)
  rw [←hw5,←hY]
  have HYE:=hid hY
  clear hw5 hY d0 d1 d2
  have HFX:∀a:Act,(∀p∈[((0:Nat),Value.pointer (some ⟨P,0,none⟩)),(1,.string nm),(2,.string vl),(4,.string tape),(8,.pointer (some ⟨B,0,none⟩)),(10,.pointer none),(11,.int .i64 0),(12,.bool true),(13,.int .i64 (-1)),(14,.bool true),(15,.pointer (some ⟨Y,0,none⟩))],a.tmps.getD p.1 undef=p.2)→a.tmps[0]?.getD undef=.pointer (some ⟨P,0,none⟩)∧a.tmps[2]?.getD undef=.string vl∧a.tmps[4]?.getD undef=.string tape∧a.tmps[8]?.getD undef=.pointer (some ⟨B,0,none⟩):=by
   intro a h
   have h0:=h (0,.pointer (some ⟨P,0,none⟩)) (by simp)
   have h2:=h (2,.string vl) (by simp)
   have h4:=h (4,.string tape) (by simp)
   have h8:=h (8,.pointer (some ⟨B,0,none⟩)) (by simp)
   exact ⟨by simpa using h0,by simpa using h2,by simpa using h4,by simpa using h8⟩
  have HC:∀w':World,Below w5.heap.size { w5 with drawn:=w5.drawn+1 } w'→w'.cell? ⟨P,0,none⟩=some (.int .i64 n)∧w'.cell? ⟨B,0,none⟩=some (.int .i64 mode)∧w'.cell? ⟨B,1,none⟩=some (.int .i64 t)∧w'.cell? ⟨B,2,none⟩=some (.int .i64 l):=by
   intro w' hb
   have hp:=(hb.block P (cells_lt HP5.out)).trans HP5.out
   have hq:=(hb.block B (cells_lt HB5.out)).trans HB5.out
   exact ⟨cq hp rfl,cq hq rfl,cq hq rfl,cq hq rfl⟩
  obtain ⟨rows,hrows⟩:∃rows,rows=Cof.split vl.data.toList mode t l n tape.data.toList:=⟨_,rfl⟩
  have HROWS:=hid hrows
  rw [←hrows] at HPIE
  clear hrows
  refine qau (by kernel_rfl) (fun i=>if i=8 then 16 else i+67) (puB P B mode t l n vl tape w5.heap.size (strs rows)) [(0,.pointer (some ⟨P,0,none⟩)),(1,.string nm),(2,.string vl),(4,.string tape),(8,.pointer (some ⟨B,0,none⟩)),(10,.pointer none),(11,.int .i64 0),(12,.bool true),(13,.int .i64 (-1)),(14,.bool true),(15,.pointer (some ⟨Y,0,none⟩))] 110 [0,1,2,4,8,10,11,12,13,14,15] (by kernel_rfl) rfl rfl rfl ?_ (qk0 P B mode t l n vl tape w5.heap.size (strs rows)) ?_ ?_
  ·simp
  ·refine ⟨?_,?_,?_,?_,?_,?_,?_,?_,?_,trivial⟩
   all_goals
    intro a w' hb hf hd
    obtain ⟨f0,f2,f4,f8⟩:=HFX a hf
    obtain ⟨p0,b0,b1,b2⟩:=HC w' hb
    simp [puB] at hd
    try (refine .inl ⟨_,w',?_,bl,rfl⟩;go_simp;done)
   ·refine .inr ⟨202,#[.string vl,.agg #[.int .i64 mode,.int .i64 t,.int .i64 l],.int .i64 n,.string tape],by go_simp,(HPIE.out w').mono ?_⟩
    rintro e w'' ⟨r,rfl,hown,hb2⟩
    exact ⟨_,rfl,hb2,qaf hown (by have:=hb.size;exact this)⟩
   ·exact .inl ⟨a.tmps[74]?.getD undef,w',by go_simp,bl,hd.1⟩
  ·intro a w6 hdf hsz hb hf hr
   have r8:=hr 8 (by decide)
   simp [puB] at r8
   have hb56:Below w5.heap.size w5 w6:=(Below.drew bl).trans hb
   have hb06:Below w.heap.size w w6:=hb05.trans (hb56.mono hb05.size)
   obtain ⟨rv,hrv⟩:∃rv,rv=a.tmps.getD 16 undef:=⟨_,rfl⟩
   have hro:w6.ownsRow w5.heap.size 9 1 rv n (strs rows):=by rw [hrv];simpa using r8
   obtain ⟨rg,rc,hrg,_,_⟩:=hro.form hn1
   obtain ⟨tm,df⟩:=a
   simp only at hdf hsz hf r8 hrv
   subst hdf
   obtain ⟨g,hgk,rfl⟩:=qck tm hsz
   have e0:g 0=.pointer (some ⟨P,0,none⟩):=(hgk 0).symm.trans (hf (0,_) (by simp))
   have e1:g 1=.string nm:=(hgk 1).symm.trans (hf (1,_) (by simp))
   have e2:g 2=.string vl:=(hgk 2).symm.trans (hf (2,_) (by simp))
   have e4:g 4=.string tape:=(hgk 4).symm.trans (hf (4,_) (by simp))
   have e8:g 8=.pointer (some ⟨B,0,none⟩):=(hgk 8).symm.trans (hf (8,_) (by simp))
   have e10:g 10=.pointer none:=(hgk 10).symm.trans (hf (10,_) (by simp))
   have e11:g 11=.int .i64 0:=(hgk 11).symm.trans (hf (11,_) (by simp))
   have e12:g 12=.bool true:=(hgk 12).symm.trans (hf (12,_) (by simp))
   have e13:g 13=.int .i64 (-1):=(hgk 13).symm.trans (hf (13,_) (by simp))
   have e14:g 14=.bool true:=(hgk 14).symm.trans (hf (14,_) (by simp))
   have e15:g 15=.pointer (some ⟨Y,0,none⟩):=(hgk 15).symm.trans (hf (15,_) (by simp))
   have e16:g 16=.slice (some ⟨rg,0,none⟩) n rc:=(hgk 16).symm.trans (hrv.symm.trans hrg)
   simp only [e0,e1,e2,e4,e8,e10,e11,e12,e13,e14,e15,e16]
   have HRO:=hid (show w6.ownsRow w5.heap.size 9 1 (.slice (some ⟨rg,0,none⟩) n rc) n (strs rows) from by rw [←hrg];exact hro)
   have HY6:=hid ((hb56.block Y (cells_lt HY5.out)).trans HY5.out)
   clear hr hsz hf hgk e0 e1 e2 e4 e8 e10 e11 e12 e13 e14 e15 e16 r8 HFX HC hb hrv hro hrg
   go_wp2_with fail
   obtain ⟨SH,hSH⟩:∃SH,SH=(List.range n).map fun i=>(⟨(qaR key (⟨nm,mode,t,l,vl.size,0⟩:Ob) n i (rows.getD i [])).toArray⟩:ByteArray):=⟨_,rfl⟩
   have hSHl:SH.length=n:=by rw [hSH];simp
   have hSHat:∀i,i<n→SH[i]! = ⟨(qaR key (⟨nm,mode,t,l,vl.size,0⟩:Ob) n i (rows.getD i [])).toArray⟩:=fun i hi=>by rw [hSH,getElem!_pos _ i (by simpa using hi)];simp
   have HRES:=hid (show SH=(List.range n).map (fun i=>(⟨(qaR key (⟨nm,mode,t,l,vl.size,0⟩:Ob) n i ((Cof.split vl.data.toList mode t l n tape.data.toList).getD i [])).toArray⟩:ByteArray)) by rw [hSH,HROWS.out])
   have HSHL:=hid hSHl
   clear hSH hSHl
   have hrgl:=(HRO.out.lt rg rfl).2
   have hYl:=cells_lt HY5.out
   have hYl6:=cells_lt HY6.out
   have hb46:Below w4.heap.size w4 w6:=hb45.trans (hb56.mono hb45.size)
   have HOOK:=hid (show ObOk n (⟨nm,mode,t,l,vl.size,0⟩:Ob) from ⟨hpl,hv,Nat.zero_le _,h1,h12⟩)
   obtain ⟨iS,hiS,hs0',hs1,hs2⟩:=info_parts Tryz.infoS
   have HRL:=hid (show rows.length=n from by rw [HROWS.out];exact qbm _ _ _ _ _ _)
   have HPLN:=hid (show ∀i,i<n→(rows.getD i []).length≤60 from fun i hi=>by
    rw [HROWS.out,qbJ hpl _ _ i hi (by simpa using (show Cof.tsize mode t*Cof.ngroups mode t l vl.size≤tape.size from by rw [←HT.out];exact htp))]
    have:=qao hpl vl.size hv
    simpa using this)
   have HSHC:=hid (fun (i:Nat) (hi:i<n) (w':World) (hb:Below w.heap.size w w')=>qfb P n key _ _ (⟨nm,mode,t,l,vl.size,0⟩:Ob) i (rows.getD i []) w' ((hb.block P hPl).trans HP.out) HOOK.out hi (HPLN.out i hi) HW.out.hk)
   have HJ0:=hid (show PuJ w4 w5 w6 w6 Y rg n rc mode t l 0 nm vl (strs rows) SH (.slice none 0 0) from ⟨HY6.out,World.ownsRow_nil _ _ _ _,HRO.out,hb46,Nat.le_refl _⟩)
   go_loopw [17,18] (fun u s wr=>∃(k:Nat) (sv:Value),u=.int .i64 k∧k≤n∧PuJ w4 w5 w6 wr Y rg n rc mode t l k nm vl (strs rows) SH sv) (fun u _ _=>n-(intOf u).toNat)
   case atStart=>exact ⟨0,_,rfl,Nat.zero_le _,HJ0.out⟩
   case round =>
    obtain ⟨k,sv,rfl,hkn,hj⟩:=hrel
    have HJ:=hid hj
    have hb0r:=hb04.trans (hj.bel.mono hb04.size)
    have hPr:=(hb0r.block P hPl).trans HP.out
    have p0:wr.cell? ⟨P,0,none⟩=some (.int .i64 n):=cq hPr rfl
    have HPR:=hid hPr
    clear hj hPr
    by_cases hlt:k<n
    ·have hlt':(k:Int)<(n:Int):=by omega
     go_wp2_with fail
     have HFX:∀a:Act,(∀p∈[((0:Nat),Value.pointer (some ⟨P,0,none⟩)),(1,.string nm),(2,.string vl),(3,g 3),(4,.string tape),(5,g 5),(6,g 6),(7,g 7),(8,.pointer (some ⟨B,0,none⟩)),(9,g 9),(10,.pointer none),(11,.int .i64 0),(12,.bool true),(13,.int .i64 (-1)),(14,.bool true),(15,.pointer (some ⟨Y,0,none⟩)),(16,.slice (some ⟨rg,0,none⟩) n rc),(17,.int .i64 k),(19,g 19),(20,g 20),(21,g 21),(22,g 22),(23,g 23),(24,g 24),(25,g 25),(26,g 26),(27,g 27),(28,g 28),(29,g 29),(30,g 30),(31,g 31),(32,g 32),(33,g 33),(34,g 34),(35,g 35),(36,g 36),(37,g 37),(38,g 38),(39,g 39),(40,g 40),(41,g 41),(42,g 42),(43,g 43),(44,g 44),(45,g 45),(46,g 46),(47,g 47),(48,g 48),(49,g 49),(50,g 50),(51,g 51),(52,g 52),(53,g 53),(54,g 54),(55,g 55),(56,g 56),(57,g 57),(58,g 58),(59,g 59),(60,g 60),(61,g 61),(62,g 62),(63,g 63),(64,g 64),(65,g 65),(66,g 66),(67,g 67),(68,g 68),(69,g 69),(70,g 70),(71,g 71),(72,g 72),(73,g 73),(74,g 74),(98,g 98),(99,g 99),(100,g 100),(101,g 101),(102,g 102),(103,g 103),(104,g 104),(105,g 105),(106,g 106),(107,g 107),(108,g 108),(109,g 109)],a.tmps.getD p.1 undef=p.2)→a.tmps[0]?.getD undef=.pointer (some ⟨P,0,none⟩)∧a.tmps[15]?.getD undef=.pointer (some ⟨Y,0,none⟩)∧a.tmps[16]?.getD undef=.slice (some ⟨rg,0,none⟩) n rc∧a.tmps[17]?.getD undef=.int .i64 k:=by
      intro a h
      have h0:=h (0,.pointer (some ⟨P,0,none⟩)) (by simp)
      have h15:=h (15,.pointer (some ⟨Y,0,none⟩)) (by simp)
      have h16:=h (16,.slice (some ⟨rg,0,none⟩) n rc) (by simp)
      have h17:=h (17,.int .i64 k) (by simp)
      exact ⟨by simpa using h0,by simpa using h15,by simpa using h16,by simpa using h17⟩
     obtain ⟨pc,hpc⟩:∃pc:ByteArray,pc=⟨(rows.getD k []).toArray⟩:=⟨_,rfl⟩
     obtain ⟨S,hS⟩:∃S,S=SH[k]! := ⟨_,rfl⟩
     have HSN:=hid (show (SH.take (k+1)).map Value.string=(SH.take k).map Value.string++[.string S] by
      have hkl:k<SH.length:=by rw [HSHL.out];exact hlt
      rw [List.take_succ_eq_append_getElem hkl,List.map_append,hS,getElem!_pos SH k hkl]
      rfl)
     have hrk:wr.cell? ⟨rg,k,none⟩=some (.string pc):=by
      rw [HJ.out.row.cellAt k (by omega),hpc]
      simp only [strs,str,List.getElem?_map,List.getElem?_eq_getElem (show k<rows.length by rw [HRL.out];exact hlt),Option.map_some]
      rw [List.getD_eq_getElem?_getD,List.getElem?_eq_getElem (show k<rows.length by rw [HRL.out];exact hlt)]
      rfl
     have hrgr:=(HJ.out.row.lt rg rfl).2
     have hYr:=cells_lt HJ.out.hY
     have HSC:=hid (show ∀w',Below w.heap.size w w'→Calls Tryz.prog 203 #[.pointer (some ⟨P,0,none⟩),.agg #[.string nm,.int .i64 mode,.int .i64 t,.int .i64 l,.int .i64 vl.size,.int .i64 0],.int .i64 k,.string pc] w' (fun e w''=>e=.returned (.string S)∧Below w'.heap.size w' w'') from fun w' hb=>by
      rw [hpc,hS,hSHat k hlt]
      exact HSHC.out k hlt w' hb)
     have HC:∀w':World,Below wr.heap.size { wr with drawn:=wr.drawn+1 } w'→w'.cell? ⟨rg,k,none⟩=some (.string pc)∧w'.heap[Y]?=some (.cells #[.string nm,.int .i64 mode,.int .i64 t,.int .i64 l,.int .i64 vl.size,.int .i64 0,sv] 198):=by
      intro w' hb
      exact ⟨(hb.cell (by exact hrgr)).trans hrk,(hb.block Y hYr).trans HJ.out.hY⟩
     clear hpc hS
     refine qau (by kernel_rfl) (fun i=>if i=9 then 18 else i+83) (puC P Y rg n rc k #[.string nm,.int .i64 mode,.int .i64 t,.int .i64 l,.int .i64 vl.size,.int .i64 0] pc S) [(0,.pointer (some ⟨P,0,none⟩)),(1,.string nm),(2,.string vl),(3,g 3),(4,.string tape),(5,g 5),(6,g 6),(7,g 7),(8,.pointer (some ⟨B,0,none⟩)),(9,g 9),(10,.pointer none),(11,.int .i64 0),(12,.bool true),(13,.int .i64 (-1)),(14,.bool true),(15,.pointer (some ⟨Y,0,none⟩)),(16,.slice (some ⟨rg,0,none⟩) n rc),(17,.int .i64 k),(19,g 19),(20,g 20),(21,g 21),(22,g 22),(23,g 23),(24,g 24),(25,g 25),(26,g 26),(27,g 27),(28,g 28),(29,g 29),(30,g 30),(31,g 31),(32,g 32),(33,g 33),(34,g 34),(35,g 35),(36,g 36),(37,g 37),(38,g 38),(39,g 39),(40,g 40),(41,g 41),(42,g 42),(43,g 43),(44,g 44),(45,g 45),(46,g 46),(47,g 47),(48,g 48),(49,g 49),(50,g 50),(51,g 51),(52,g 52),(53,g 53),(54,g 54),(55,g 55),(56,g 56),(57,g 57),(58,g 58),(59,g 59),(60,g 60),(61,g 61),(62,g 62),(63,g 63),(64,g 64),(65,g 65),(66,g 66),(67,g 67),(68,g 68),(69,g 69),(70,g 70),(71,g 71),(72,g 72),(73,g 73),(74,g 74),(98,g 98),(99,g 99),(100,g 100),(101,g 101),(102,g 102),(103,g 103),(104,g 104),(105,g 105),(106,g 106),(107,g 107),(108,g 108),(109,g 109)] 110 [0,1,2,3,4,5,6,7,8,9,10,11,12,13,14,15,16,17,19,20,21,22,23,24,25,26,27,28,29,30,31,32,33,34,35,36,37,38,39,40,41,42,43,44,45,46,47,48,49,50,51,52,53,54,55,56,57,58,59,60,61,62,63,64,65,66,67,68,69,70,71,72,73,74,98,99,100,101,102,103,104,105,106,107,108,109] (by kernel_rfl) rfl rfl rfl ?_ (qkg P Y rg n rc k _ pc S) ?_ ?_
     ·simp
     ·refine ⟨?_,?_,?_,?_,?_,?_,?_,?_,?_,?_,trivial⟩
      all_goals
       intro a w' hb hf hd
       obtain ⟨f0,f15,f16,f17⟩:=HFX a hf
       obtain ⟨rk,hYc⟩:=HC w' hb
       have y0:=cells_at (k:=0) hYc
       have y1:=cells_at (k:=1) hYc
       have y2:=cells_at (k:=2) hYc
       have y3:=cells_at (k:=3) hYc
       have y4:=cells_at (k:=4) hYc
       have y5:=cells_at (k:=5) hYc
       simp [puC] at hd
       try (refine .inl ⟨_,w',?_,bl,rfl⟩;go_simp;done)
      ·refine .inr ⟨203,#[.pointer (some ⟨P,0,none⟩),.agg #[.string nm,.int .i64 mode,.int .i64 t,.int .i64 l,.int .i64 vl.size,.int .i64 0],.int .i64 k,.string pc],by go_simp,(HSC.out w' (hb0r.trans ((Below.drew bl).trans (hb.mono hb0r.size)))).mono ?_⟩
       rintro e w'' ⟨rfl,hb2⟩
       exact ⟨_,rfl,hb2,rfl⟩
     ·intro a w7 hdf hsz hb hf hr
      have r9:=hr 9 (by decide)
      simp only [puC] at r9
      have hb67:Below wr.heap.size wr w7:=(Below.drew bl).trans hb
      obtain ⟨tm,df⟩:=a
      simp only at hdf hsz hf r9
      subst hdf
      obtain ⟨q7,hqk,rfl⟩:=qck tm hsz
      have e0:q7 0=.pointer (some ⟨P,0,none⟩):=(hqk 0).symm.trans (hf (0,_) (by simp))
      have e1:q7 1=.string nm:=(hqk 1).symm.trans (hf (1,_) (by simp))
      have e2:q7 2=.string vl:=(hqk 2).symm.trans (hf (2,_) (by simp))
      have e3:q7 3=g 3:=(hqk 3).symm.trans (hf (3,_) (by simp))
      have e4:q7 4=.string tape:=(hqk 4).symm.trans (hf (4,_) (by simp))
      have e5:q7 5=g 5:=(hqk 5).symm.trans (hf (5,_) (by simp))
      have e6:q7 6=g 6:=(hqk 6).symm.trans (hf (6,_) (by simp))
      have e7:q7 7=g 7:=(hqk 7).symm.trans (hf (7,_) (by simp))
      have e8:q7 8=.pointer (some ⟨B,0,none⟩):=(hqk 8).symm.trans (hf (8,_) (by simp))
      have e9:q7 9=g 9:=(hqk 9).symm.trans (hf (9,_) (by simp))
      have e10:q7 10=.pointer none:=(hqk 10).symm.trans (hf (10,_) (by simp))
      have e11:q7 11=.int .i64 0:=(hqk 11).symm.trans (hf (11,_) (by simp))
      have e12:q7 12=.bool true:=(hqk 12).symm.trans (hf (12,_) (by simp))
      have e13:q7 13=.int .i64 (-1):=(hqk 13).symm.trans (hf (13,_) (by simp))
      have e14:q7 14=.bool true:=(hqk 14).symm.trans (hf (14,_) (by simp))
      have e15:q7 15=.pointer (some ⟨Y,0,none⟩):=(hqk 15).symm.trans (hf (15,_) (by simp))
      have e16:q7 16=.slice (some ⟨rg,0,none⟩) n rc:=(hqk 16).symm.trans (hf (16,_) (by simp))
      have e17:q7 17=.int .i64 k:=(hqk 17).symm.trans (hf (17,_) (by simp))
      have e19:q7 19=g 19:=(hqk 19).symm.trans (hf (19,_) (by simp))
      have e20:q7 20=g 20:=(hqk 20).symm.trans (hf (20,_) (by simp))
      have e21:q7 21=g 21:=(hqk 21).symm.trans (hf (21,_) (by simp))
      have e22:q7 22=g 22:=(hqk 22).symm.trans (hf (22,_) (by simp))
      have e23:q7 23=g 23:=(hqk 23).symm.trans (hf (23,_) (by simp))
      have e24:q7 24=g 24:=(hqk 24).symm.trans (hf (24,_) (by simp))
      have e25:q7 25=g 25:=(hqk 25).symm.trans (hf (25,_) (by simp))
      have e26:q7 26=g 26:=(hqk 26).symm.trans (hf (26,_) (by simp))
      have e27:q7 27=g 27:=(hqk 27).symm.trans (hf (27,_) (by simp))
      have e28:q7 28=g 28:=(hqk 28).symm.trans (hf (28,_) (by simp))
      have e29:q7 29=g 29:=(hqk 29).symm.trans (hf (29,_) (by simp))
      have e30:q7 30=g 30:=(hqk 30).symm.trans (hf (30,_) (by simp))
      have e31:q7 31=g 31:=(hqk 31).symm.trans (hf (31,_) (by simp))
      have e32:q7 32=g 32:=(hqk 32).symm.trans (hf (32,_) (by simp))
      have e33:q7 33=g 33:=(hqk 33).symm.trans (hf (33,_) (by simp))
      have e34:q7 34=g 34:=(hqk 34).symm.trans (hf (34,_) (by simp))
      have e35:q7 35=g 35:=(hqk 35).symm.trans (hf (35,_) (by simp))
      have e36:q7 36=g 36:=(hqk 36).symm.trans (hf (36,_) (by simp))
      have e37:q7 37=g 37:=(hqk 37).symm.trans (hf (37,_) (by simp))
      have e38:q7 38=g 38:=(hqk 38).symm.trans (hf (38,_) (by simp))
      have e39:q7 39=g 39:=(hqk 39).symm.trans (hf (39,_) (by simp))
      have e40:q7 40=g 40:=(hqk 40).symm.trans (hf (40,_) (by simp))
      have e41:q7 41=g 41:=(hqk 41).symm.trans (hf (41,_) (by simp))
      have e42:q7 42=g 42:=(hqk 42).symm.trans (hf (42,_) (by simp))
      have e43:q7 43=g 43:=(hqk 43).symm.trans (hf (43,_) (by simp))
      have e44:q7 44=g 44:=(hqk 44).symm.trans (hf (44,_) (by simp))
      have e45:q7 45=g 45:=(hqk 45).symm.trans (hf (45,_) (by simp))
      have e46:q7 46=g 46:=(hqk 46).symm.trans (hf (46,_) (by simp))
      have e47:q7 47=g 47:=(hqk 47).symm.trans (hf (47,_) (by simp))
      have e48:q7 48=g 48:=(hqk 48).symm.trans (hf (48,_) (by simp))
      have e49:q7 49=g 49:=(hqk 49).symm.trans (hf (49,_) (by simp))
      have e50:q7 50=g 50:=(hqk 50).symm.trans (hf (50,_) (by simp))
      have e51:q7 51=g 51:=(hqk 51).symm.trans (hf (51,_) (by simp))
      have e52:q7 52=g 52:=(hqk 52).symm.trans (hf (52,_) (by simp))
      have e53:q7 53=g 53:=(hqk 53).symm.trans (hf (53,_) (by simp))
      have e54:q7 54=g 54:=(hqk 54).symm.trans (hf (54,_) (by simp))
      have e55:q7 55=g 55:=(hqk 55).symm.trans (hf (55,_) (by simp))
      have e56:q7 56=g 56:=(hqk 56).symm.trans (hf (56,_) (by simp))
      have e57:q7 57=g 57:=(hqk 57).symm.trans (hf (57,_) (by simp))
      have e58:q7 58=g 58:=(hqk 58).symm.trans (hf (58,_) (by simp))
      have e59:q7 59=g 59:=(hqk 59).symm.trans (hf (59,_) (by simp))
      have e60:q7 60=g 60:=(hqk 60).symm.trans (hf (60,_) (by simp))
      have e61:q7 61=g 61:=(hqk 61).symm.trans (hf (61,_) (by simp))
      have e62:q7 62=g 62:=(hqk 62).symm.trans (hf (62,_) (by simp))
      have e63:q7 63=g 63:=(hqk 63).symm.trans (hf (63,_) (by simp))
      have e64:q7 64=g 64:=(hqk 64).symm.trans (hf (64,_) (by simp))
      have e65:q7 65=g 65:=(hqk 65).symm.trans (hf (65,_) (by simp))
      have e66:q7 66=g 66:=(hqk 66).symm.trans (hf (66,_) (by simp))
      have e67:q7 67=g 67:=(hqk 67).symm.trans (hf (67,_) (by simp))
      have e68:q7 68=g 68:=(hqk 68).symm.trans (hf (68,_) (by simp))
      have e69:q7 69=g 69:=(hqk 69).symm.trans (hf (69,_) (by simp))
      have e70:q7 70=g 70:=(hqk 70).symm.trans (hf (70,_) (by simp))
      have e71:q7 71=g 71:=(hqk 71).symm.trans (hf (71,_) (by simp))
      have e72:q7 72=g 72:=(hqk 72).symm.trans (hf (72,_) (by simp))
      have e73:q7 73=g 73:=(hqk 73).symm.trans (hf (73,_) (by simp))
      have e74:q7 74=g 74:=(hqk 74).symm.trans (hf (74,_) (by simp))
      have e98:q7 98=g 98:=(hqk 98).symm.trans (hf (98,_) (by simp))
      have e99:q7 99=g 99:=(hqk 99).symm.trans (hf (99,_) (by simp))
      have e100:q7 100=g 100:=(hqk 100).symm.trans (hf (100,_) (by simp))
      have e101:q7 101=g 101:=(hqk 101).symm.trans (hf (101,_) (by simp))
      have e102:q7 102=g 102:=(hqk 102).symm.trans (hf (102,_) (by simp))
      have e103:q7 103=g 103:=(hqk 103).symm.trans (hf (103,_) (by simp))
      have e104:q7 104=g 104:=(hqk 104).symm.trans (hf (104,_) (by simp))
      have e105:q7 105=g 105:=(hqk 105).symm.trans (hf (105,_) (by simp))
      have e106:q7 106=g 106:=(hqk 106).symm.trans (hf (106,_) (by simp))
      have e107:q7 107=g 107:=(hqk 107).symm.trans (hf (107,_) (by simp))
      have e108:q7 108=g 108:=(hqk 108).symm.trans (hf (108,_) (by simp))
      have e109:q7 109=g 109:=(hqk 109).symm.trans (hf (109,_) (by simp))
      have e18:q7 18=.string S:=(hqk 18).symm.trans r9
      simp only [e0,e1,e2,e3,e4,e5,e6,e7,e8,e9,e10,e11,e12,e13,e14,e15,e16,e17,e19,e20,e21,e22,e23,e24,e25,e26,e27,e28,e29,e30,e31,e32,e33,e34,e35,e36,e37,e38,e39,e40,e41,e42,e43,e44,e45,e46,e47,e48,e49,e50,e51,e52,e53,e54,e55,e56,e57,e58,e59,e60,e61,e62,e63,e64,e65,e66,e67,e68,e69,e70,e71,e72,e73,e74,e98,e99,e100,e101,e102,e103,e104,e105,e106,e107,e108,e109,e18]
      clear e0 e1 e2 e3 e4 e5 e6 e7 e8 e9 e10 e11 e12 e13 e14 e15 e16 e17 e19 e20 e21 e22 e23 e24 e25 e26 e27 e28 e29 e30 e31 e32 e33 e34 e35 e36 e37 e38 e39 e40 e41 e42 e43 e44 e45 e46 e47 e48 e49 e50 e51 e52 e53 e54 e55 e56 e57 e58 e59 e60 e61 e62 e63 e64 e65 e66 e67 e68 e69 e70 e71 e72 e73 e74 e98 e99 e100 e101 e102 e103 e104 e105 e106 e107 e108 e109 e18
      clear hr hsz hf hqk r9 HFX HC hb hrk
      have hY7:=(hb67.block Y hYr).trans HJ.out.hY
      have y6:w7.cell? ⟨Y,6,none⟩=some sv:=cq hY7 rfl
      have HY7:=hid hY7
      have HS7:=hid (qae HJ.out.sh hb67 nl)
      have HR7:=hid (qae HJ.out.row hb67 nl)
      have hge7:w6.heap.size≤w7.heap.size:=Nat.le_trans HJ.out.ge hb67.size
      clear hY7
      obtain ⟨L7,hL7⟩:∃L7,L7=(SH.take k).map Value.string:=⟨_,rfl⟩
      rw [←hL7] at HS7 HSN
      clear hL7
      go_wp2_with (first | (at_builtin;refine wpList_append_lies _ rfl (.tmp 93) (.tmp 95) 30 rfl w6.heap.size 9 iS (.string ByteArray.empty) 1 16 Tryz.underlying30 hiS hs0' hs1 hs2 rfl (by decide) sv _ L7 rfl (HS7.out.alloc _) ⟨w7.heap.size,0,none⟩ 1 1 [.string S] rfl rfl (World.news_of_block (cs:=#[.string S]) (t:=9) (fr:=(0,0)) (heap_alloc_new w7 _)) (by simp [Value.oneCell']) (by decide) (by unfold maxLen;omega) (by omega) (by simp<;>omega) (w7.heap.size+1) (by simp) ?_;intro g8 c8 w8 hown8 hgrow8 hat8 _;have HO8:=hid hown8;have hsp8:=qa5 hgrow8;have HNX:=hid (HJ.out.next (by have:=HYE.out;omega) hb67 hb46.size hYl6 hrgl hsp8 HO8.out HSN.out);have hY8:=hsp8.heap (b:=Y) ((Below.alloc (Below.refl w7.heap.size w7) nl _).block Y (cells_lt HY7.out) |>.trans HY7.out) (HJ.out.nY hYl6);have y68:w8.cell? ⟨Y,6,none⟩=some sv:=(cq hY8 rfl);have yf8:w8.frozen? ⟨Y,6,none⟩=false:=qam hY8;clear hown8 hgrow8 hat8 hsp8 hY8)|fail)
      go_roundw
      case rel=>exact ⟨k+1,_,by go_num,hlt,HNX.out⟩
      case measure=>simp [intOf];omega
    ·have hnk:n=k:=by omega
     subst hnk
     have HCP:=hid ((HW.out.below hb0r nl).copied_any)
     have hSHn:SH.take n=SH:=List.take_of_length_le (by rw [HSHL.out];exact Nat.le_refl _)
     have hsh:=HJ.out.sh
     rw [hSHn] at hsh
     obtain ⟨sg,sc,hsv,_,_⟩:=hsh.form hn1
     subst hsv
     have HSHR:=hid hsh
     clear hsh hSHn
     obtain ⟨y,hy⟩:∃y:RObj,y=⟨(⟨nm,mode,t,l,vl.size,0⟩:Ob),some ⟨sg,0,none⟩,sc,SH⟩:=⟨_,rfl⟩
     go_wp2_with fail
     refine HCP.out.mono ?_
     rintro e w8 ⟨X,dv',ov,ys,rfl,hcp,hXge⟩
     have HC8:=hid hcp
     obtain ⟨va,vc,hov,hvr⟩:=qad hcp.obj
     subst hov
     have HVR:=hid hvr
     have hY8:w8.heap[Y]?=some (.cells #[.string nm,.int .i64 mode,.int .i64 t,.int .i64 l,.int .i64 vl.size,.int .i64 0,.slice (some ⟨sg,0,none⟩) n sc] 198):=(hcp.bel.block Y (cells_lt HJ.out.hY)).trans HJ.out.hY
     have HY8:=hid hY8
     have HX8:=hid hcp.hX
     have HYS:=hid hcp.len
     clear hcp hvr hY8 HCP p0
     go_wp2_with fail
     have HFX:∀a:Act,(∀p∈[((15:Nat),Value.pointer (some ⟨Y,0,none⟩)),(19,.pointer (some ⟨X,0,none⟩))],a.tmps.getD p.1 undef=p.2)→a.tmps[15]?.getD undef=.pointer (some ⟨Y,0,none⟩)∧a.tmps[19]?.getD undef=.pointer (some ⟨X,0,none⟩):=by
      intro a h
      simpa using h
     have HC:∀w':World,Below w8.heap.size { w8 with drawn:=w8.drawn+1 } w'→w'.heap[Y]?=some (.cells #[.string nm,.int .i64 mode,.int .i64 t,.int .i64 l,.int .i64 vl.size,.int .i64 0,.slice (some ⟨sg,0,none⟩) n sc] 198)∧w'.cell? ⟨X,3,none⟩=some (.slice va xs.length vc):=by
      intro w' hb
      exact ⟨(hb.block Y (cells_lt HY8.out)).trans HY8.out,cq ((hb.block X (cells_lt HX8.out)).trans HX8.out) rfl⟩
     have HPL:=hid (fun w' (hb:Below w8.heap.size w8 w')=>qi2 va xs.length vc n ys y w' HYS.out.symm hl10' (HVR.out.below hb nl))
     rw [hy] at HPL
     refine qbp (by kernel_rfl) (fun i=>i+100) (puD X Y (.slice va xs.length vc) #[.string nm,.int .i64 mode,.int .i64 t,.int .i64 l,.int .i64 vl.size,.int .i64 0,.slice (some ⟨sg,0,none⟩) n sc] w8.heap.size (xs.length+1) (qat n (plc y ys))) [(15,.pointer (some ⟨Y,0,none⟩)),(19,.pointer (some ⟨X,0,none⟩))] 110 9 [15,19] (by kernel_rfl) (by kernel_rfl) rfl rfl rfl ?_ (qj2 X Y _ _ w8.heap.size (xs.length+1) (qat n (plc y ys))) ?_ ?_
     ·simp
     ·refine ⟨?_,?_,?_,?_,?_,?_,?_,?_,?_,trivial⟩
      all_goals
       intro a w' hb hf hd
       obtain ⟨f15,f19⟩:=HFX a hf
       obtain ⟨hYc,x3⟩:=HC w' hb
       have y0:=cells_at (k:=0) hYc
       have y1:=cells_at (k:=1) hYc
       have y2:=cells_at (k:=2) hYc
       have y3:=cells_at (k:=3) hYc
       have y4:=cells_at (k:=4) hYc
       have y5:=cells_at (k:=5) hYc
       have y6:=cells_at (k:=6) hYc
       simp [puD] at hd
       try (refine .inl ⟨_,w',?_,bl,rfl⟩;go_simp;done)
      ·refine .inr ⟨204,#[.slice va xs.length vc,.agg #[.string nm,.int .i64 mode,.int .i64 t,.int .i64 l,.int .i64 vl.size,.int .i64 0,.slice (some ⟨sg,0,none⟩) n sc]],by go_simp,(HPL.out w' ((Below.drew bl).trans hb)).mono ?_⟩
       rintro e w'' ⟨r,rfl,hown,hb2⟩
       refine ⟨_,rfl,hb2,?_⟩
       rw [hy]
       exact qaf hown (by have:=hb.size;exact this)
     ·intro a w' oo' hoo hdf hsz hb hf hr
      obtain ⟨f15,f19⟩:=HFX a hf
      obtain ⟨hYc,x3⟩:=HC w' hb
      cases hoo
      have r6:=hr 6 (by decide)
      have r8:=hr 8 (by decide)
      simp [puD] at r6 r8
      obtain ⟨ov',hov'⟩:∃ov',ov'=a.tmps.getD 106 undef:=⟨_,rfl⟩
      have r6':w'.ownsRow w8.heap.size 198 7 ov' (xs.length+1) (qat n (plc y ys)):=by rw [hov'];simpa using r6
      obtain ⟨go,co,hvo,_,_⟩:=r6'.form (by omega)
      have hX':w'.heap[X]?=_:=(hb.block X (cells_lt HX8.out)).trans HX8.out
      have hb89:Below w8.heap.size w8 w':=(Below.drew bl).trans hb
      have hwd:=put_wd HC8.out (HW.out.below hb0r nl) hb89 y (by
       rw [hy]
       refine ⟨HSHL.out,qaf (qae HSHR.out HC8.out.bel nl) (Nat.zero_le _)⟩) r6' hfew
      refine qaF 128 (.tmp 108) (.tmp 106) rfl X 3 ov' (by simp [Act.eval];exact r8) (by simp [Act.eval];rw [hov'];simp) (by rw [hvo];rfl) (by rw [hvo];rfl) (by kernel_rfl) (.slice va xs.length vc) x3 (qam hX') ?_
      have e19:a.tmps[19]'(by rw [hsz];decide)=.pointer (some ⟨X,0,none⟩):=by simpa [hsz] using f19
      have HWD:=hid hwd
      have hbf:Below w.heap.size w (w'.setCell ⟨X,3,none⟩ ov'):=(hb0r.trans ((HC8.out.bel.mono hb0r.size).trans (hb89.mono (Nat.le_trans hb0r.size HC8.out.bel.size)))).setCell (by show w.heap.size≤X;have:=hb0r.size;omega) _
      clear r6 r6' r8 hr hf hwd x3 hYc hov' hvo hX'
      go_wp2_with fail
      refine bodyPost_ret (v:=.tuple #[.pointer (some ⟨X,0,none⟩),.int .i64 0]) ?_ rfl (by unfold qiR;exact ⟨X,dv',y,ys,rfl,HWD.out,by rw [hy],by rw [hy];exact HRES.out,HC8.out.len,HC8.out.same,hbf,fun b hb=>Nat.le_trans hb0r.size (HC8.out.down.lt b hb).1⟩)
      simp [results,Tryz.results159,go_sem,hsz]
end
section
variable {w:World} {L:Seat} {s:Sta}
theorem Bank.put_q (h:Bank w L s) (hc:Calm L s) (hq:s.p.crashes=false) (mode t l:Nat) (nm vl tape:ByteArray) (hno:hasName (s.rss 0) nm=false) (hfew:(s.rss 0).length<10) (hup:∀i,i<L.n→s.dn i=false) (hp:qaj mode t l L.n) (hz:vl.size≤60) (h1:1≤nm.size) (h12:nm.size≤12) (htp:Cof.tsize mode t*Cof.ngroups mode t l vl.size≤tape.size) :
  Calls Tryz.prog 43 #[.pointer (some ⟨L.C,0,none⟩),.string nm,.string vl,.agg #[.int .i64 mode,.int .i64 t,.int .i64 l],.string tape] w fun e w' =>
   ∃s' ys,Bank w' L s'∧News L s s' ⟨nm,mode,t,l,vl.size,0⟩ (fun i=>qaR L.key ⟨nm,mode,t,l,vl.size,0⟩ L.n i ((Cof.split vl.data.toList mode t l L.n tape.data.toList).getD i [])) ys∧(∀i,s'.rss i=putL s.rss ys L.n i)∧e=.returned (.int .i64 0)∧s'.p=s.p.ticks L.n∧Calm L s'∧qaa (Mine L s) w w':=by
 obtain ⟨hcr,hev⟩:=hc
 have hno':∀i,i<L.n→hasName (s.rss i) nm=false:=fun i hi=>by rw [hev.hasName h.n1 h.so nm i hi];exact hno
 have hfew':∀i,i<L.n→(s.rss i).length<10:=fun i hi=>by rw [hev.length i hi];exact hfew
 have key:∀w1,Below w.heap.size w w1→Calls Tryz.prog 75 #[.pointer (some ⟨L.V,0,none⟩),.string nm,.string vl,.agg #[.int .i64 mode,.int .i64 t,.int .i64 l],.string tape] w1 fun e w'=>(Both 1 2
   (fun w'=>∃s' ys,Bank w' L s'∧News L s s' ⟨nm,mode,t,l,vl.size,0⟩ (fun i=>qaR L.key ⟨nm,mode,t,l,vl.size,0⟩ L.n i ((Cof.split vl.data.toList mode t l L.n tape.data.toList).getD i [])) ys∧(∀i,s'.rss i=putL s.rss ys L.n i)∧s'.p=s.p.ticks L.n∧Calm L s'∧qaa (Mine L s) w w')
   (fun _=>False) e w')∧qaa (fun b=>b=L.V∨qaA L.n L.sp s.vs b) w1 w':=by
  intro w1 hb1
  have h':=h.below hb1
  have hst:∀i,i<L.n→Sto w1 (L.sp i) false (s.vs i) (s.rss i):=fun i hi=>by have:=h'.st i hi;rw [hup i hi] at this;exact this
  refine (qkD L.base L.V L.key L.n L.B L.bc L.sp s.p mode t l vl.size nm vl tape s.vs s.rss w1 h'.vp hcr hst hno' hfew' h.si h.vi hp hz rfl h1 h12 htp h.hk h'.G h.bV h.bsp h.bv).mono ?_
  rintro e w' ⟨ys,k,⟨⟨hk1,_,hend⟩,us,hm⟩,hyl,hys,hinj,hsp⟩
  obtain ⟨Z,hZ⟩:∃Z:Nat→List UInt8,Z=fun i=>qaR L.key ⟨nm,mode,t,l,vl.size,0⟩ L.n i ((Cof.split vl.data.toList mode t l L.n tape.data.toList).getD i []):=⟨_,rfl⟩
  obtain ⟨X',hX'⟩:∃X',X'=newX s.X w1.heap.size L.n ys Z:=⟨_,rfl⟩
  have hXo:∀b,b<w1.heap.size→X' b=s.X b:=fun b hb=>by rw [hX'];exact qh7 hb
  have hXn:∀i,i<L.n→(ys[i]!).x X'=Z i:=fun i hi=>by
   obtain ⟨b,e1,e2,e3,_,_⟩:=(hys i hi).blkNo
   unfold RecV.x
   rw [e1,hX']
   exact qh6 hinj hi e2 e3
  have hyn:∀i,i<L.n→(ys[i]!).name=nm:=fun i hi=>(hys i hi).e.1
  have hyo:∀i,i<L.n→(ys[i]!).ob=⟨nm,mode,t,l,vl.size,0⟩∧(ys[i]!).na=none∧(ys[i]!).sa≠none:=fun i hi=>by
   obtain ⟨e1,e2,e3,e4,e5,e6,e7,_⟩:=(hys i hi).e
   obtain ⟨b,f1,_⟩:=(hys i hi).blkNo
   refine ⟨by unfold RecV.ob;rw [e1,e2,e3,e4,e5,e6],e7,by rw [f1];simp⟩
  have hold:∀i,i<L.n→∀r∈s.rss i,r.x X'=r.x s.X:=fun i hi r hr=>by
   have hg:=h'.ok i hi r hr
   obtain ⟨g,e1,hg1,_⟩:=hg.sa
   unfold RecV.x
   rw [e1]
   exact hXo g (hg.lt hg1)
  have bank:∀p',Vp w' L.V L.key L.n L.B L.bc L.sp p'→Bank w' L ⟨s.dn,us,putL s.rss ys k,p',X'⟩:=fun p' hvp=>by
   refine h'.next ⟨s.dn,us,putL s.rss ys k,p',X'⟩ hsp hvp (fun i hi=>?_) hm.blk hm.dis (fun i hi r hr=>?_) (qkY h' nl hys hinj k)
   ·have:=hm.st i hi
    show Sto w' (L.sp i) (s.dn i) (us i) (putL s.rss ys k i)
    rw [hup i hi]
    exact this
   ·rcases (qbP _ _ _ _ _).1 hr with ⟨_,rfl⟩|hr
    ·exact (hys i hi).good h'.G.bs hp hz (by omega) (fun _=>rfl) h1 h12 (qbJ hp _ _ i hi (by simpa using htp) |>.trans (by simp)) (by rw [hXn i hi,hZ];rfl)
    ·exact h'.stays hsp X' hXo i hi r hr
  have news:∀p',News L s ⟨s.dn,us,putL s.rss ys k,p',X'⟩ ⟨nm,mode,t,l,vl.size,0⟩ Z ys:=fun p'=>⟨fun _ _=>rfl,hold,hyo,hXn⟩
  have hmine:qaa (Mine L s) w w':=(Mine.below hb1).trans (Mine.of hsp)
  refine ⟨?_,hsp⟩
  rw [←hZ]
  have hsm:(0:Nat)≤1000∧nm.size≤1000:=⟨by omega,by omega⟩
  rcases hend with ⟨hk2,rfl,hvp⟩|⟨hk2,hh,⟨ev,rfl,hch⟩,hvp⟩
  ·subst hk2
   refine .inl ⟨rfl,_,ys,bank _ hvp,news _,fun _=>rfl,rfl,⟨Pen.ticks_fine hcr _,?_⟩,hmine⟩
   exact qld h.n1 hev h.so hno' (fun i hi=>⟨(hyo i hi).1,(hyo i hi).2.1⟩) rfl hsm
  ·exact absurd hh (by rw [Pen.halts,(Pen.ticks_crashes s.p k).1,hq];simp)
 refine (qkn L.C L.V 2 1 mode t l nm vl tape w _ _ _ h.cf (by omega) h.putOwn.1 h.putOwn.2 key).mono ?_
 rintro e w' (⟨rfl,w1,⟨s',ys,hb,hn,hr,hpn,hcalm,hmi⟩,hb'⟩|⟨_,_,hf,_⟩)
 ·exact ⟨s',ys,hb.below hb',hn,hr,rfl,hpn,hcalm,hmi.trans (Mine.below hb')⟩
 ·exact hf.elim
theorem Bank.del_q (h:Bank w L s) (hc:Calm L s) (hq:s.p.crashes=false) (nm:ByteArray) (hyes:hasName (s.rss 0) nm=true) (hup:∀i,i<L.n→s.dn i=false) :
  Calls Tryz.prog 57 #[.pointer (some ⟨L.C,0,none⟩),.string nm] w fun e w' =>
   ∃s',Bank w' L s'∧s'.dn=s.dn∧s'.X=s.X∧(∀i,s'.rss i=delL s.rss nm L.n i)∧e=.returned (.int .i64 0)∧s'.p=s.p.ticks L.n∧Calm L s'∧qaa (Mine L s) w w':=by
 obtain ⟨hcr,hev⟩:=hc
 have hst:∀i,i<L.n→Sto w (L.sp i) false (s.vs i) (s.rss i):=fun i hi=>by have:=h.st i hi;rw [hup i hi] at this;exact this
 have key:Calls Tryz.prog 102 #[.pointer (some ⟨L.V,0,none⟩),.string nm] w fun e w'=>Both 1 2
   (fun w'=>∃s',Bank w' L s'∧s'.dn=s.dn∧s'.X=s.X∧(∀i,s'.rss i=delL s.rss nm L.n i)∧s'.p=s.p.ticks L.n∧Calm L s'∧qaa (Mine L s) w w')
   (fun _=>False) e w':=by
  refine (qgS L.base L.V L.key L.n L.B L.bc L.sp s.p nm s.vs s.rss w h.n1 h.n8 h.vp hcr hst hyes h.si h.vi h.G h.bV h.bsp h.bv).mono ?_
  rintro e w' ⟨k,⟨⟨hk1,_,hend⟩,us,hm⟩,hsp⟩
  have bank:∀p',Vp w' L.V L.key L.n L.B L.bc L.sp p'→Bank w' L ⟨s.dn,us,delL s.rss nm k,p',s.X⟩:=fun p' hvp=>by
   refine h.next ⟨s.dn,us,delL s.rss nm k,p',s.X⟩ hsp hvp (fun i hi=>?_) hm.blk hm.dis (fun i hi r hr=>h.stays hsp s.X (fun _ _=>rfl) i hi r (qdO k i r hr)) (fun i j hi hj r hr q hq b hb1 hb2=>h.ap i j hi hj r (qdO k i r hr) q (qdO k j q hq) b hb1 hb2)
   have:=hm.st i hi
   show Sto w' (L.sp i) (s.dn i) (us i) (delL s.rss nm k i)
   rw [hup i hi]
   exact this
  rcases hend with ⟨hk2,rfl,hvp⟩|⟨hk2,hh,⟨ev,rfl,hch⟩,hvp⟩
  ·subst hk2
   exact .inl ⟨rfl,_,bank _ hvp,rfl,rfl,fun _=>rfl,rfl,⟨Pen.ticks_fine hcr _,qk3 h.n1 hev h.so⟩,Mine.of hsp⟩
  ·exact absurd hh (by rw [Pen.halts,(Pen.ticks_crashes s.p k).1,hq];simp)
 refine (qgx L.C L.V 2 1 nm w _ _ h.cf (by omega) key).mono ?_
 rintro e w' (⟨rfl,w1,⟨s',hb,hn,hx,hr,hpn,hcalm,hmi⟩,hb'⟩|⟨_,_,hf,_⟩)
 ·exact ⟨s',hb.below hb',hn,hx,hr,rfl,hpn,hcalm,hmi.trans (Mine.below hb')⟩
 ·exact hf.elim
theorem Bank.ref_q (h:Bank w L s) (hc:Calm L s) (hq:s.p.crashes=false) (nm tape:ByteArray) (hyes:hasName (s.rss 0) nm=true) (o:Ob) (ho:o=(qac (s.rss 0) nm).ob) (hup:∀i,i<L.n→s.dn i=false) (hm:o.mode=0) (he:o.epoch<100) (htp:Cof.tsize o.mode o.t*Cof.ngroups o.mode o.t o.l o.size≤tape.size)
  (P:Nat→List UInt8) (hP:∀i,i<L.n→Cof.Good L.key (Cof.head o.mode o.t o.l L.n i o.epoch o.size nm.data.toList) (Cof.ngroups o.mode o.t o.l o.size) ((qac (s.rss i) nm).x s.X) (P i)) :
  Calls Tryz.prog 17 #[.pointer (some ⟨L.C,0,none⟩),.string nm,.string tape] w fun e w' =>
   ∃s' ys,Bank w' L s'∧News L s s' ⟨nm,0,o.t,o.l,o.size,o.epoch+1⟩ (fun i=>qaR L.key ⟨nm,0,o.t,o.l,o.size,o.epoch+1⟩ L.n i (Cof.sumRow (P i) ((Cof.split (List.replicate o.size 0) 0 o.t o.l L.n tape.data.toList).getD i []))) ys∧(∀i,s'.rss i=refL L.n s.rss nm ys (2*L.n) i)∧e=.returned (.int .i64 0)∧s'.p=s.p.ticks (2*L.n)∧Calm L s'∧qaa (Mine L s) w w':=by
 obtain ⟨hH,hall,hon⟩:=h.held hc nm hyes o ho
 obtain ⟨hcr,hev⟩:=hc
 obtain ⟨onm,om,ot,ol,oz,oe⟩:=o
 simp only at hm he htp hH hall hon hP ⊢
 subst hm hon
 have hn1:=h.n1
 have hst:∀i,i<L.n→Sto w (L.sp i) false (s.vs i) (s.rss i):=fun i hi=>by have:=h.st i hi;rw [hup i hi] at this;exact this
 have hy:=fun i hi=>(hall i hi).1
 have hob:=fun i hi=>(hall i hi).2.1
 have hg0:=(hall 0 (by omega)).2.2.1
 have ho0:=hob 0 (by omega)
 have hpl:qaj 0 ot ol L.n:=by have:=hg0.plan;have e:=ho0;simp only [RecV.ob,Ob.mk.injEq] at e;rw [e.2.1,e.2.2.1,e.2.2.2.1] at this;exact this
 have hz:oz≤60:=by have:=hg0.z;have e:=ho0;simp only [RecV.ob,Ob.mk.injEq] at e;omega
 have hnm1:1≤onm.size:=by have:=hg0.n1;have e:=ho0;simp only [RecV.ob,Ob.mk.injEq] at e;rw [e.1] at this;exact this
 have hnm12:onm.size≤12:=by have:=hg0.n12;have e:=ho0;simp only [RecV.ob,Ob.mk.injEq] at e;rw [e.1] at this;exact this
 have hng:=qao hpl oz hz
 have hPl:∀i,i<L.n→(P i).length=Cof.ngroups 0 ot ol oz:=fun i hi=>(hP i hi).1
 have key:Calls Tryz.prog 45 #[.pointer (some ⟨L.V,0,none⟩),.string onm,.string tape] w fun e w'=>Both 1 2
   (fun w'=>∃s' ys,Bank w' L s'∧News L s s' ⟨onm,0,ot,ol,oz,oe+1⟩ (fun i=>qaR L.key ⟨onm,0,ot,ol,oz,oe+1⟩ L.n i (Cof.sumRow (P i) ((Cof.split (List.replicate oz 0) 0 ot ol L.n tape.data.toList).getD i []))) ys∧(∀i,s'.rss i=refL L.n s.rss onm ys (2*L.n) i)∧s'.p=s.p.ticks (2*L.n)∧Calm L s'∧qaa (Mine L s) w w')
   (fun _=>False) e w':=by
  refine (qgj L.base L.V L.key L.n L.B L.bc L.sp s.p ot ol oz oe onm tape P s.vs s.rss w h.vp hcr hst hy hob hpl he hz hnm12 h.hk htp h.G h.bV h.bv hPl (fun i j hij hj=>h.vi i j (by omega) hj (by omega))
   (fun i hi w' hb hT=>hH.piece_good hpl (by omega) hz hnm1 hnm12 h.hk hng i hi (P i) (hP i hi) w' hb hT)).mono ?_
  rintro e w' ⟨ys,k,⟨hk1,_,hend⟩,hK,hyl,hys,hinj,hsp0⟩
  have hsp:qaa (fun b=>b=L.V∨qaA L.n L.sp s.vs b) w w':=hsp0.mono fun b hb=>hb.imp id (fun ⟨i,hi,e⟩=>⟨i,hi,.inr e⟩)
  obtain ⟨Z,hZ⟩:∃Z:Nat→List UInt8,Z=fun i=>qaR L.key ⟨onm,0,ot,ol,oz,oe+1⟩ L.n i (Cof.sumRow (P i) ((Cof.split (List.replicate oz 0) 0 ot ol L.n tape.data.toList).getD i [])):=⟨_,rfl⟩
  obtain ⟨X',hX'⟩:∃X',X'=newX s.X w.heap.size L.n ys Z:=⟨_,rfl⟩
  have hXo:∀b,b<w.heap.size→X' b=s.X b:=fun b hb=>by rw [hX'];exact qh7 hb
  have hXn:∀i,i<L.n→(ys[i]!).x X'=Z i:=fun i hi=>by
   obtain ⟨b,e1,e2,e3,_,_⟩:=(hys i hi).blkNo
   unfold RecV.x
   rw [e1,hX']
   exact qh6 hinj hi e2 e3
  have hyo:∀i,i<L.n→(ys[i]!).ob=⟨onm,0,ot,ol,oz,oe+1⟩∧(ys[i]!).na=none∧(ys[i]!).sa≠none:=fun i hi=>by
   obtain ⟨e1,e2,e3,e4,e5,e6,e7,_⟩:=(hys i hi).e
   obtain ⟨b,f1,_⟩:=(hys i hi).blkNo
   refine ⟨by unfold RecV.ob;rw [e1,e2,e3,e4,e5,e6],e7,by rw [f1];simp⟩
  have hold:∀i,i<L.n→∀r∈s.rss i,r.x X'=r.x s.X:=fun i hi r hr=>by
   have hg:=h.ok i hi r hr
   obtain ⟨g,e1,hg1,_⟩:=hg.sa
   unfold RecV.x
   rw [e1]
   exact hXo g (hg.lt hg1)
  have hlen:∀i,i<L.n→(Cof.sumRow (P i) ((Cof.split (List.replicate oz 0) 0 ot ol L.n tape.data.toList).getD i [])).length=Cof.ngroups 0 ot ol oz:=fun i hi=>by
   have h1:=qbJ hpl (List.replicate oz 0) tape.data.toList i hi (by simpa using htp)
   rw [List.length_replicate] at h1
   unfold Cof.sumRow
   rw [List.length_map,List.length_range,h1,hPl i hi,Nat.max_self]
  have hyg:∀i,i<L.n→qa1 w' L.base L.n X' (ys[i]!):=fun i hi=>(hys i hi).good h.G.bs hpl hz (by omega) (by omega) hnm1 hnm12 (hlen i hi) (by rw [hXn i hi,hZ];rfl)
  have hrg:∀i,i<L.n→qa1 w' L.base L.n X' (qac (s.rss i) onm):=fun i hi=>h.stays hsp X' hXo i hi _ (qas (hy i hi)).1
  have hfld:∀i,i<L.n→(qac (s.rss i) onm).mode=0∧(qac (s.rss i) onm).epoch=oe∧(qac (s.rss i) onm).name=onm∧(qac (s.rss i) onm).t=ot∧(qac (s.rss i) onm).l=ol∧(qac (s.rss i) onm).size=oz:=fun i hi=>by
   have e:=hob i hi
   simp only [RecV.ob,Ob.mk.injEq] at e
   exact ⟨e.2.1,e.2.2.2.2.2,e.1,e.2.2.1,e.2.2.2.1,e.2.2.2.2.1⟩
  have hsn:∀i,i<L.n→(ys[i]!).sn=(qac (s.rss i) onm).sn:=fun i hi=>by
   rw [(hys i hi).sn,hlen i hi,(hrg i hi).sn]
   obtain ⟨f1,f2,f3,f4,f5,f6⟩:=hfld i hi
   rw [f1,f3,f4,f5,f6]
  have hdif:∀i,i<L.n→blkNo (ys[i]!).sa≠blkNo (qac (s.rss i) onm).sa:=fun i hi e=>by
   obtain ⟨b,e1,_,e3,_,_⟩:=(hys i hi).blkNo
   have hg:=h.ok i hi _ (qas (hy i hi)).1
   obtain ⟨g,f1,hg1,_⟩:=hg.sa
   have:=hg.lt hg1
   rw [e1,f1] at e
   simp only [blkNo] at e
   omega
  have lg:∀i,i<L.n→qa1 w' L.base L.n X' ((qac (s.rss i) onm).laid (ys[i]!)):=fun i hi=>by
   have g:=hrg i hi
   obtain ⟨f1,f2,f3,f4,f5,f6⟩:=hfld i hi
   refine ⟨g.plan,g.z,g.e,g.m1,g.n1,g.n12,g.sn,g.own,.inr ⟨(hyo i hi).2.2,f1,by show (qac (s.rss i) onm).epoch<100;omega,hsn i hi,(hyg i hi).own,hdif i hi⟩⟩
  have tg:∀i,i<L.n→qa1 w' L.base L.n X' ((qac (s.rss i) onm).laid (ys[i]!)).turned:=fun i hi=>by
   have g:=hrg i hi
   obtain ⟨f1,f2,f3,f4,f5,f6⟩:=hfld i hi
   refine ⟨g.plan,g.z,by show (qac (s.rss i) onm).epoch+1≤100;omega,fun hm1=>absurd (show (qac (s.rss i) onm).mode=1 from hm1) (by rw [f1];decide),g.n1,g.n12,?_,(hyg i hi).own,.inl ⟨rfl,rfl,rfl⟩⟩
   show (ys[i]!).sn=_
   rw [hsn i hi]
   exact g.sn
  have bgood:∀i,i<L.n→qa1 w' L.base L.n X' (qaq L.n (fun q=>qac (s.rss q) onm) ys k i):=fun i hi=>by
   unfold qaq
   split
   ·exact tg i hi
   ·split
    ·exact lg i hi
    ·exact hrg i hi
  have bb:∀i,i<L.n→∀b,b∈(qaq L.n (fun q=>qac (s.rss q) onm) ys k i).blks→b∈(qac (s.rss i) onm).blks∨b∈(ys[i]!).blks:=fun i hi b hb=>by
   have hna:=(hall i hi).2.2.2
   have hyna:=(hyo i hi).2.1
   unfold qaq at hb
   split at hb
   ·rcases (qbO _ _).1 hb with ⟨a,ha,e⟩|⟨a,ha,e⟩
    ·exact .inr ((qbO _ _).2 (.inl ⟨a,ha,e⟩))
    ·cases ha
   ·split at hb
    ·rcases (qbO _ _).1 hb with ⟨a,ha,e⟩|⟨a,ha,e⟩
     ·exact .inl ((qbO _ _).2 (.inl ⟨a,ha,e⟩))
     ·exact .inr ((qbO _ _).2 (.inl ⟨a,ha,e⟩))
    ·exact .inl hb
  have hyb:∀i,i<L.n→∀b,b∈(ys[i]!).blks→(ys[i]!).blk=some b∧w.heap.size≤b:=fun i hi b hb=>by
   obtain ⟨g,_,e2,e3,_,e5⟩:=(hys i hi).blkNo
   rw [e5,List.mem_singleton] at hb
   subst hb
   exact ⟨e2,e3⟩
  have ap:qfo L.n (refL L.n s.rss onm ys k):=by
   have cover:∀i,i<L.n→∀r∈refL L.n s.rss onm ys k i,∀b,b∈r.blks→(∃q∈s.rss i,b∈q.blks∧(r=q∨(r=qaq L.n (fun q=>qac (s.rss q) onm) ys k i∧q=qac (s.rss i) onm)))∨(b∈(ys[i]!).blks∧r=qaq L.n (fun q=>qac (s.rss q) onm) ys k i):=fun i hi r hr b hb=>by
    rcases (qcl h.so hy k i hi r).1 hr with e | ⟨hr,_⟩
    ·rw [e] at hb
     rcases bb i hi b hb with hb | hb
     ·exact .inl ⟨_,(qas (hy i hi)).1,hb,.inr ⟨e,rfl⟩⟩
     ·exact .inr ⟨hb,e⟩
    ·exact .inl ⟨r,hr,hb,.inl rfl⟩
   intro i j hi hj r hr q hq b hb1 hb2
   rcases cover i hi r hr b hb1 with ⟨r0,hr0,hbr,hrr⟩|⟨hbr,hrr⟩
   ·rcases cover j hj q hq b hb2 with ⟨q0,hq0,hbq,hqq⟩|⟨hbq,hqq⟩
    ·obtain ⟨rfl,rfl⟩:=h.ap i j hi hj r0 hr0 q0 hq0 b hbr hbq
     refine ⟨rfl,?_⟩
     have hnn:=fun i hi=>qdo (ys:=ys) hy k i hi
     rcases hrr with e | ⟨e,e'⟩
     ·rcases hqq with f | ⟨f,f'⟩
      ·rw [e,f]
      ·
       subst e
       rcases (qcl h.so hy k i hi r).1 hr with g | ⟨_,g⟩
       ·rw [g,f]
       ·exact absurd (by rw [f'];exact (qas (hy i hi)).2) g
     ·rcases hqq with f | ⟨f,f'⟩
      ·subst f
       rcases (qcl h.so hy k i hi q).1 hq with g | ⟨_,g⟩
       ·rw [e,g]
       ·exact absurd (by rw [e'];exact (qas (hy i hi)).2) g
      ·rw [e,f]
    ·have h1:=(h.ok i hi r0 hr0).lt hbr
     have h2:=(hyb j hj b hbq).2
     omega
   ·rcases cover j hj q hq b hb2 with ⟨q0,hq0,hbq,hqq⟩|⟨hbq,hqq⟩
    ·have h1:=(h.ok j hj q0 hq0).lt hbq
     have h2:=(hyb i hi b hbr).2
     omega
    ·have e1:=(hyb i hi b hbr).1
     have e2:=(hyb j hj b hbq).1
     have:i=j:=by
      rcases Nat.lt_trichotomy i j with h | h | h
      ·exact absurd (e1.trans e2.symm) (hinj i j h hj)
      ·exact h
      ·exact absurd (e2.trans e1.symm) (hinj j i h hi)
     subst this
     exact ⟨rfl,by rw [hrr,hqq]⟩
  have bank:∀p',Vp w' L.V L.key L.n L.B L.bc L.sp p'→Bank w' L ⟨s.dn,s.vs,refL L.n s.rss onm ys k,p',X'⟩:=fun p' hvp=>by
   refine h.next ⟨s.dn,s.vs,refL L.n s.rss onm ys k,p',X'⟩ hsp hvp (fun i hi=>?_) (fun _ _=>.inl rfl) h.vi (fun i hi r hr=>?_) ap
   ·show Sto w' (L.sp i) (s.dn i) (s.vs i) (refL L.n s.rss onm ys k i)
    rw [hup i hi]
    exact hK i hi
   ·rcases (qcl h.so hy k i hi r).1 hr with e | ⟨hr,_⟩
    ·rw [e];exact bgood i hi
    ·exact h.stays hsp X' hXo i hi r hr
  have news:∀p',News L s ⟨s.dn,s.vs,refL L.n s.rss onm ys k,p',X'⟩ ⟨onm,0,ot,ol,oz,oe+1⟩ Z ys:=fun p'=>⟨fun _ _=>rfl,hold,hyo,hXn⟩
  rw [←hZ]
  rcases hend with ⟨hk2,rfl,hvp⟩|⟨hk2,hh,⟨ev,rfl,hch⟩,hvp⟩
  ·subst hk2
   exact .inl ⟨rfl,_,ys,bank _ hvp,news _,fun _=>rfl,rfl,⟨Pen.ticks_fine hcr _,qkL h.n1 hev h.so hy hob (by show oe<1000;omega)⟩,Mine.of hsp⟩
  ·exact absurd hh (by rw [Pen.halts,(Pen.ticks_crashes s.p k).1,hq];simp)
 refine (qfC L.C L.V 2 1 onm tape w _ _ h.cf (by omega) key).mono ?_
 rintro e w' (⟨rfl,w1,⟨s',ys,hb,hn,hr,hpn,hcalm,hmi⟩,hb'⟩|⟨_,_,hf,_⟩)
 ·exact ⟨s',ys,hb.below hb',hn,hr,rfl,hpn,hcalm,hmi.trans (Mine.below hb')⟩
 ·exact hf.elim
end
theorem Play.change1_put {w:World} {G:Nat} {L:Seat} {s:Sta} {P:Nat} {dv:Value} {xs:List RObj} {wv ov:Value} {ls:List KL} (h:Play w G L s P dv xs wv ov ls) (a b:Int) (nm vl:ByteArray) (pm pt pl:Int) (tp:ByteArray) (yes:Bool) (tt:Int) (hpm:I64 pm) (hpt:I64 pt) (hpl:I64 pl) (hnm:nm.size≤9223372036854775807) (hvl:vl.size≤9223372036854775807) (htp:tp.size≤9223372036854775807) :
  Calls Tryz.prog 109 #[.pointer (some ⟨G,0,none⟩),.agg #[.int .i64 2,.int .i64 a,.int .i64 b,.string nm,.string vl,.int .i64 pm,.int .i64 pt,.int .i64 pl,.string tp,.bool yes,.int .i64 tt]] w fun e w'=>qbE w G L s ov ls e w':=by
 obtain ⟨g,c,rfl,_,_⟩:=h.row.form (by decide)
 have hn1:=h.bank.n1
 have hn8:=h.bank.n8
 have ask:=fun w1 (hb:Below w.heap.size w w1)=>(h.bank.below hb).ask h.calm.1
 have wd:=fun w1 (hs:qaa (Mine L s) w w1)=>h.bank.wd_mine h.wd hs
 have NO:=fun k HC HR=>(Go.Proofs.YtcegdgmbponapaaGreatDoor.change1_put (P:=P) a b nm vl pm pt pl tp yes tt k True (fun s'=>s'=s) (fun _ _=>False) h.no_hyp (no_c h.bank HC) (no_w HR)).mono fun e w' he=>h.no_end he
 by_cases hn:nm.size<1∨12<nm.size
 ·exact NO 2 (fun w1 hb=>(ask w1 hb).put_name pm pt pl nm vl tp hn hnm) (fun w1 _=>Wd.putting_name nm vl tp pm pt pl w1 P hn hnm)
 have h1:1≤nm.size:=by omega
 have h12:nm.size≤12:=by omega
 by_cases hf:Fits pm pt pl L.n
 rotate_left
 ·exact NO 3 (fun w1 hb=>(ask w1 hb).put_plan pm pt pl nm vl tp h1 h12 hpm hpt hpl hf) (fun w1 hs=>(wd w1 hs).putting_plan nm vl tp pm pt pl h1 h12 hpm hpt hpl (fun hh=>hf hh.2.2))
 obtain ⟨mode,t,l,n',rfl,rfl,rfl,hn',hp⟩:=hf.plan (by omega) (by omega)
 obtain rfl:L.n=n':=by omega
 by_cases hbig:60<vl.size
 ·exact NO 4 (fun w1 hb=>(ask w1 hb).put_big mode t l nm vl tp h1 h12 hp hbig hvl) (fun w1 hs=>(wd w1 hs).putting_big nm vl tp mode t l h1 h12 hp hbig hvl)
 have hz:vl.size≤60:=by omega
 have hlen:=h.twin.len
 cases hy:hasName (s.rss 0) nm with
 | true =>
  obtain ⟨k1,k2,k3,k4,_,_⟩:=h.obj nm hy _ rfl
  exact NO 5 (fun w1 hb=>(ask w1 hb).put_twice mode t l nm vl tp h1 h12 hp hz hy) (fun w1 hs=>(wd w1 hs).putting_twice nm vl tp mode t l h1 h12 hp hz _ k1 k3 k4)
 | false =>
  have hno:=h.twin.no (h.bank.so 0 hn1) nm hy
  by_cases hfew:(s.rss 0).length<10
  rotate_left
  ·exact NO 6 (fun w1 hb=>(ask w1 hb).put_full mode t l nm vl tp h1 h12 hp hz hy hfew) (fun w1 hs=>(wd w1 hs).putting_full nm vl tp mode t l h1 h12 hp hz hno (by omega))
  by_cases ht:tp.size<Cof.tsize mode t*Cof.ngroups mode t l vl.size
  ·exact NO 7 (fun w1 hb=>(ask w1 hb).put_tape mode t l nm vl tp h1 h12 hp hz hy hfew ht) (fun w1 hs=>(wd w1 hs).putting_tape nm vl tp mode t l h1 h12 hp hz hno (by omega) ht)
  have ht':Cof.tsize mode t*Cof.ngroups mode t l vl.size≤tp.size:=by omega
  rcases qjV L.n s.dn with hup | hd
  rotate_left
  ·exact NO 8 (fun w1 hb=>(ask w1 hb).put_down mode t l nm vl tp h1 h12 hp hz hy hfew ht' hd) (fun w1 hs=>(wd w1 hs).putting_down nm vl tp mode t l h1 h12 hp hz hno (by omega) ht' htp hd)
  refine (Go.Proofs.YtcegdgmbponapaaGreatDoor.change1_put (P:=P) a b nm vl mode t l tp yes tt 0 False (fun s'=>∃ys,(∀i,s'.rss i=putL s.rss ys L.n i)∧News L s s' ⟨nm,mode,t,l,vl.size,0⟩ (fun i=>qaR L.key ⟨nm,mode,t,l,vl.size,0⟩ L.n i ((Cof.split vl.data.toList mode t l L.n tp.data.toList).getD i [])) ys∧s'.p=s.p.ticks L.n∧Calm L s')
   (Q2T L s fun zs=>∃y ys,zs=plc y ys∧y.ob=(⟨nm,mode,t,l,vl.size,0⟩:Ob)∧y.sh=(List.range L.n).map (fun i=>(⟨(qaR L.key (⟨nm,mode,t,l,vl.size,0⟩:Ob) L.n i ((Cof.split vl.data.toList mode t l L.n tp.data.toList).getD i [])).toArray⟩:ByteArray))∧ys.length=xs.length∧∀j,j<xs.length→(ys[j]!).ob=(xs[j]!).ob∧(ys[j]!).sh=(xs[j]!).sh) (h.yes_hyp _ _ L.n ⟨hn1,by omega⟩ fun s' ⟨_,_,_,hp',_⟩=>hp') ?_ ?_).mono fun e w' he=>h.yes_end he L.n ⟨Nat.le_refl _,by omega⟩ ?_
  ·intro w1 hb
   refine ((h.bank.below hb).put_q h.calm h.quiet mode t l nm vl tp hy hfew hup hp hz h1 h12 ht').mono ?_
   rintro e w2 ⟨s',ys,hB,hN,hrs,rfl,h4,h5,hs⟩
   exact ⟨rfl,⟨s',hB,ys,hrs,hN,h4,h5⟩,hs⟩
  ·intro w1 hs
   refine ((wd w1 hs).putting_ok nm vl tp mode t l h1 h12 hp hz hno (by omega) ht' htp hup).mono ?_
   rintro e w2 ⟨X,dv',y,ys,rfl,hw,hyo,hsh,hyl,hys,hb,hdb⟩
   exact ⟨_,rfl,.inr ⟨X,rfl,rfl,id,dv',_,hw,⟨y,ys,rfl,hyo,hsh,hyl,hys⟩,fun b hb'=>Nat.le_trans (Nat.le_trans h.bank.G.bs hs.size) (hdb b hb')⟩,hb⟩
  ·rintro s' ⟨zs,hrs,hN,hp',hc'⟩
   refine ⟨hp',hc',hN.dn,?_⟩
   rintro _ ⟨y,ys,rfl,hyo,hsh,hyl,hys⟩
   have hno':∀i,i<L.n→hasName (s.rss i) nm=false:=fun i hi=>by rw [h.calm.2.hasName hn1 h.bank.so nm i hi];exact hy
   rw [show s'.rss=putL s.rss zs L.n from funext hrs]
   exact (h.twin.congr hyl hys).put (X':=s'.X) (nm:=nm) (zs:=zs) (o:=⟨nm,mode,t,l,vl.size,0⟩) hn1 h.bank.so (h.has) hno' rfl (fun i hi=>(hN.ob i hi).1) hN.old y hyo (fun i hi=>by rw [hsh,qfR _ i hi,hN.new i hi])
theorem Play.change1_del {w:World} {G:Nat} {L:Seat} {s:Sta} {P:Nat} {dv:Value} {xs:List RObj} {wv ov:Value} {ls:List KL} (h:Play w G L s P dv xs wv ov ls) (a b:Int) (nm vl:ByteArray) (pm pt pl:Int) (tp:ByteArray) (yes:Bool) (tt:Int) :
  Calls Tryz.prog 109 #[.pointer (some ⟨G,0,none⟩),.agg #[.int .i64 4,.int .i64 a,.int .i64 b,.string nm,.string vl,.int .i64 pm,.int .i64 pt,.int .i64 pl,.string tp,.bool yes,.int .i64 tt]] w fun e w'=>qbE w G L s ov ls e w':=by
 obtain ⟨g,c,rfl,_,_⟩:=h.row.form (by decide)
 have hn1:=h.bank.n1
 have hn8:=h.bank.n8
 have ask:=fun w1 (hb:Below w.heap.size w w1)=>(h.bank.below hb).ask h.calm.1
 have wd:=fun w1 (hs:qaa (Mine L s) w w1)=>h.bank.wd_mine h.wd hs
 have NO:=fun k HC HR=>(Go.Proofs.YtcegdgmbponapaaGreatDoor.change1_del (P:=P) a b nm vl pm pt pl tp yes tt k True (fun s'=>s'=s) (fun _ _=>False) h.no_hyp (no_c h.bank HC) (no_w HR)).mono fun e w' he=>h.no_end he
 cases hy:hasName (s.rss 0) nm with
 | false =>
  have hno:=h.twin.no (h.bank.so 0 hn1) nm hy
  exact NO 9 (fun w1 hb=>(ask w1 hb).delete_none nm hy) (fun w1 hs=>((wd w1 hs).deleting_none nm hno).mono fun e w2 ⟨h1,h2⟩=>⟨h1,by rw [h2];exact bl⟩)
 | true =>
  obtain ⟨p,hp⟩:∃p,p=qai (s.rss 0) nm:=⟨_,rfl⟩
  obtain ⟨k1,k2,k3,k4,_,_⟩:=h.obj nm hy p hp
  rcases qjV L.n s.dn with hup | hd
  rotate_left
  ·exact NO 8 (fun w1 hb=>(ask w1 hb).delete_down nm hy hd) (fun w1 hs=>((wd w1 hs).deleting_down nm p k1 k3 k4 hd).mono fun e w2 ⟨h1,h2⟩=>⟨h1,by rw [h2];exact bl⟩)
  refine (Go.Proofs.YtcegdgmbponapaaGreatDoor.change1_del (P:=P) a b nm vl pm pt pl tp yes tt 0 False (fun s'=>s'.dn=s.dn∧s'.X=s.X∧(∀i,s'.rss i=delL s.rss nm L.n i)∧s'.p=s.p.ticks L.n∧Calm L s')
   (Q2T L s fun ys=>ys.length=(xs.eraseIdx p).length∧∀j,j<(xs.eraseIdx p).length→(ys[j]!).ob=((xs.eraseIdx p)[j]!).ob∧(ys[j]!).sh=((xs.eraseIdx p)[j]!).sh) (h.yes_hyp _ _ L.n ⟨hn1,by omega⟩ fun s' hr=>hr.2.2.2.1) ?_ ?_).mono fun e w' he=>h.yes_end he L.n ⟨Nat.le_refl _,by omega⟩ ?_
  ·intro w1 hb
   refine ((h.bank.below hb).del_q h.calm h.quiet nm hy hup).mono ?_
   rintro e w2 ⟨s',hB,hdn,hX,hrs,rfl,h4,h5,hs⟩
   exact ⟨rfl,⟨s',hB,hdn,hX,hrs,h4,h5⟩,hs⟩
  ·intro w1 hs
   refine ((wd w1 hs).deleting_ok nm p k1 k3 k4 hup).mono ?_
   rintro e w2 ⟨X,dv',ys,rfl,hw,hyl,hys,hb,hdb⟩
   exact ⟨_,rfl,.inr ⟨X,rfl,rfl,id,dv',ys,hw,⟨hyl,hys⟩,fun b hb'=>Nat.le_trans (Nat.le_trans h.bank.G.bs hs.size) (hdb b hb')⟩,hb⟩
  ·rintro s' ⟨hdn,hX,hrs,hp',hc'⟩
   refine ⟨hp',hc',fun i _=>by rw [hdn],fun ys ⟨hyl,hys⟩=>?_⟩
   have h1:=h.twin.del hn1 h.bank.so h.has hy
   rw [←hp] at h1
   rw [show s'.rss=delL s.rss nm L.n from funext hrs,hX]
   exact h1.congr hyl hys
end Go.Proofs.YtcegdgmbponapaaGreatDoor