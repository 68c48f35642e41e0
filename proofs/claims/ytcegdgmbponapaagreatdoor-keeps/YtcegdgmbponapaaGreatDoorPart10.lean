import Derived.Test.YtcegdgmbponapaaGreatDoorPart09
set_option maxRecDepth 100000
set_option maxHeartbeats 4000000
namespace Go.Proofs.YtcegdgmbponapaaGreatDoor
open Go.RowKit
attribute [local go_sem ↓] Go.wp_at_zero Go.wp_at_succ
def qak (i:Nat):Nat:=if i<9 then i+12 else if i=9 then 21 else if i=10 then 11 else if i=11 then 22 else if i=12 then 23 else if i=13 then 8 else if i=14 then 99 else 9
def askR (V B bc n i s W:Nat) (nm:ByteArray) (r:RecV):Nat→Value→World→Prop
 | 0,v,_=>v=.pointer (some ⟨V,0,none⟩)
 | 1,v,_=>v=.pointer (some ⟨V,0,none⟩)
 | 2,v,_=>v=.pointer (some ⟨V,1,none⟩)
 | 3,v,_=>v=.slice (some ⟨B,0,none⟩) n bc
 | 4,v,_=>v=.int .i64 i
 | 5,v,_=>v=.pointer (some ⟨B,i,none⟩)
 | 6,v,_=>v=.pointer (some ⟨s,0,none⟩)
 | 7,v,_=>v=.pointer (some ⟨W,0,none⟩)
 | 8,v,_=>v=.string nm
 | 9,v,_=>v=.tuple #[.agg #[.string r.name,.int .i64 r.mode,.int .i64 r.t,.int .i64 r.l,.int .i64 r.size,.int .i64 r.epoch,.slice r.sa r.sn r.sc,.slice r.na r.nn r.nc],.nilIface]
 | 10,v,_=>v=.tuple #[.agg #[.string r.name,.int .i64 r.mode,.int .i64 r.t,.int .i64 r.l,.int .i64 r.size,.int .i64 r.epoch,.slice r.sa r.sn r.sc,.slice r.na r.nn r.nc],.nilIface]
 | 11,v,_=>v=.agg #[.string r.name,.int .i64 r.mode,.int .i64 r.t,.int .i64 r.l,.int .i64 r.size,.int .i64 r.epoch,.slice r.sa r.sn r.sc,.slice r.na r.nn r.nc]
 | 12,v,_=>v=.nilIface
 | 15,v,_=>v=.nilIface
 | _,_,_=>True
theorem qdL {V B bc n i s W:Nat} {nm:ByteArray} {r:RecV} {j:Nat} {v:Value} {w w':World} (h:askR V B bc n i s W nm r j v w):askR V B bc n i s W nm r j v w':=by
 unfold askR at h ⊢
 split at h<;>exact h
def qcC (i:Nat):Nat:=if i<11 then i+30 else if i=11 then 29 else if i=12 then 41 else if i=13 then 42 else if i=14 then 10 else 9
def qii (V n i b key mode t l size epoch len W:Nat) (sa:Option Addr) (sn sc:Nat) (nm:ByteArray) (P:List UInt8):Nat→Value→World→Prop
 | 0,v,_=>v=.pointer (some ⟨V,0,none⟩)
 | 1,v,_=>v=.int .i64 i
 | 2,v,_=>v=.agg #[.string nm,.int .i64 mode,.int .i64 t,.int .i64 l,.int .i64 size,.int .i64 epoch]
 | 3,v,_=>v=.agg #[.string nm,.int .i64 mode,.int .i64 t,.int .i64 l,.int .i64 size,.int .i64 epoch,.int .i64 n,.int .i64 i]
 | 4,v,_=>v=.pointer (some ⟨b,6,none⟩)
 | 5,v,_=>v=.slice sa sn sc
 | 6,v,_=>v=.pointer (some ⟨V,0,none⟩)
 | 7,v,_=>v=.pointer (some ⟨V,0,none⟩)
 | 8,v,_=>v=.pointer (some ⟨V,0,none⟩)
 | 9,v,_=>v=.int .u64 key
 | 10,v,w=>∃pv,v=.tuple #[pv,.nilIface]∧w.ownsRow W 5 1 pv len (bs P)
 | 11,v,w=>∃pv,v=.tuple #[pv,.nilIface]∧w.ownsRow W 5 1 pv len (bs P)
 | 12,v,w=>w.ownsRow W 5 1 v len (bs P)
 | 13,v,_=>v=.nilIface
 | 14,v,w=>w.ownsRow W 5 1 v len (bs P)
 | 15,v,_=>v=.nilIface
 | _,_,_=>True
theorem qgO {V n i b key mode t l size epoch len W:Nat} {sa:Option Addr} {sn sc:Nat} {nm:ByteArray} {P:List UInt8} (j:Nat) (v:Value) (w w':World) (h:qii V n i b key mode t l size epoch len W sa sn sc nm P j v w) (hb:Below w.heap.size w w'):qii V n i b key mode t l size epoch len W sa sn sc nm P j v w':=by
 unfold qii at h ⊢
 split at h
 ·exact h
 ·exact h
 ·exact h
 ·exact h
 ·exact h
 ·exact h
 ·exact h
 ·exact h
 ·exact h
 ·exact h
 ·exact h.imp fun pv h=>⟨h.1,qal h.2 hb nl⟩
 ·exact h.imp fun pv h=>⟨h.1,qal h.2 hb nl⟩
 ·exact qal h hb nl
 ·exact h
 ·exact qal h hb nl
 ·exact h
 ·trivial
theorem qhn (z:Int) (w:World) (hz:I64 z) (hT:Tab w) :
  Calls Tryz.prog 136 #[.int .i64 z,.nilIface] w fun ev w'=>ev=.returned .nilIface∧Below w.heap.size w w':=by
 have HT:=hid hT
 have HZ:=hid hz
 clear hT hz
 go_enter Tryz.func136,Tryz.ntmps136
 go_wp2_with (first | (go_at_call 174;refine (qc9 z HZ.out _ HT.out).mono ?_;rintro e w1 ⟨s,rfl,hs,hb1⟩)|(go_at_call 78;refine (at_nil _ _).mono ?_;rintro e w2 ⟨rfl,rfl⟩))
 go_ret
 exact ⟨rfl,hb1⟩
theorem qgW (V key n B bc:Nat) (sp:Nat→Nat) (i:Nat) (down:Bool) (a:Option Addr) (c:Nat) (rs:List RecV) (r:RecV) (mode t l size epoch:Nat) (nm:ByteArray) (w:World) (h:Rdy w V key n B bc sp) (hi:i<n) (hs:St w (sp i) down a c rs) (hyes:hasName rs nm=true) (hr:r=rs[qai rs nm]!)
  (len:Nat) (hlen:len=Cof.ngroups mode t l size) (X P:List UInt8) (hp:qaj mode t l n) (he:epoch≤100) (hz:size≤60) (hn1:1≤nm.size) (hnm:nm.size≤12) (hk:key<18446744073709551616) (hl:len≤60) (hX:Rd w r.sa (bs X)) (hsn:r.sn=X.length) (hsc:r.sn≤r.sc) (hgood:Cof.Good key (Cof.head mode t l n i epoch size nm.data.toList) len X P) (hT:Tab w) :
  Calls Tryz.prog 132 #[.pointer (some ⟨V,0,none⟩),.int .i64 i,.agg #[.string nm,.int .i64 mode,.int .i64 t,.int .i64 l,.int .i64 size,.int .i64 epoch]] w fun e w' =>
   ∃pv,e=.returned (.tuple #[pv,.nilIface])∧w'.ownsRow w.heap.size 5 1 pv len (bs P)∧Below w.heap.size w w':=by
 have hXl:X.length=10+nm.size+len+8:=by
  obtain ⟨h1,rfl⟩:=hgood
  unfold Cof.sealed
  simp [Cof.length_head,Cof.length_high,h1]
  omega
 obtain ⟨xb,xo,hsa,_,_⟩:=hX.pos (by rw [qag];omega)
 rw [hsa] at hX
 have HPC:=hid (fun w' hx=>qfc mode t l n i epoch size key len hlen nm xb xo r.sn r.sc X w' hp hi he hz hn1 hnm hk hl hsn hsc (by omega) hx)
 have HX:=hid hX
 have HG:=hid hgood
 have HT:=hid hT
 have HSA:=hid hsa
 have hi8:=hi
 have hba:=(Below.refl w.heap.size w).alloc nl (.cells #[.string nm,.int .i64 mode,.int .i64 t,.int .i64 l,.int .i64 size,.int .i64 epoch] 55)
 have hR:=h.keeps hba nl
 have HR:=hid hR
 have HS:=hid (hs.keeps hba nl)
 have HYES:=hid (And.intro hyes hr)
 have hi':(i:Int)<(n:Int):=by omega
 have HI:=hid (show I64 (i:Int) by have:=h.n8;unfold I64;omega)
 clear h hs hyes hr hp he hz hk hX hsn hsc hgood hT hlen hXl
 go_enter Tryz.func132,Tryz.ntmps132
 go_wp2_with fail
 obtain ⟨w1,hw1⟩:∃w1,w1=w.alloc (.cells #[.string nm,.int .i64 mode,.int .i64 t,.int .i64 l,.int .i64 size,.int .i64 epoch] 55):=⟨_,rfl⟩
 have HOBJ:=hid (show w1.heap[w.heap.size]?=some (.cells #[.string nm,.int .i64 mode,.int .i64 t,.int .i64 l,.int .i64 size,.int .i64 epoch] 55) by rw [hw1];exact alloc_at _ _)
 have o0:w1.cell? ⟨w.heap.size,0,none⟩=some (.string nm):=by rw [hw1];simp
 have lO:w.heap.size<w1.heap.size:=by rw [hw1];simp
 rw [←hw1] at hR HR HS hba ⊢
 clear hw1
 have c1:=hR.va.c1
 have k0:=hR.st i hi
 have lV:=hR.va.lt
 have lB:=hR.va.bl
 clear hR
 have HFX:∀a:Act,(∀x∈[((0:Nat),Value.pointer (some ⟨V,0,none⟩)),(1,.int .i64 i),(5,.pointer (some ⟨w.heap.size,0,none⟩))],a.tmps.getD x.1 undef=x.2)→a.tmps[0]?.getD undef=.pointer (some ⟨V,0,none⟩)∧a.tmps[1]?.getD undef=.int .i64 i∧a.tmps[5]?.getD undef=.pointer (some ⟨w.heap.size,0,none⟩):=by
  intro a h
  simpa using h
 have HCELL:∀w':World,Below w1.heap.size { w1 with drawn:=w1.drawn+1 } w'→w'.cell? ⟨V,1,none⟩=some (.slice (some ⟨B,0,none⟩) n bc)∧w'.cell? ⟨B,i,none⟩=some (.pointer (some ⟨sp i,0,none⟩))∧w'.cell? ⟨w.heap.size,0,none⟩=some (.string nm):=by
  intro w' hb
  exact ⟨(hb.cell lV).trans c1,(hb.cell lB).trans k0,(hb.cell lO).trans o0⟩
 clear c1 k0 o0
 refine qde (by kernel_rfl) qak (askR V B bc n i (sp i) w.heap.size nm r) [(0,.pointer (some ⟨V,0,none⟩)),(1,.int .i64 i),(5,.pointer (some ⟨w.heap.size,0,none⟩))] 47 13 14 [0,1,5] 152 #[.string r.name,.int .i64 r.mode,.int .i64 r.t,.int .i64 r.l,.int .i64 r.size,.int .i64 r.epoch,.slice r.sa r.sn r.sc,.slice r.na r.nn r.nc] #[.string ByteArray.empty,.int .i64 0,.int .i64 0,.int .i64 0,.int .i64 0,.int .i64 0,.slice none 0 0,.slice none 0 0] (.tmp 8) (.tmp 22) (by kernel_rfl) rfl ⟨_,rfl,fun a w=>by go_simp<;>rfl⟩ rfl ⟨_,rfl,rfl,fun a=>rfl,fun a w h=>?_⟩ Tryz.cellsRec (by simp [Value.oneCell']) rfl rfl ?_ (fun j v w w' h _=>qdL h) (fun j v w' b c _ h _=>qdL h) ?_ ?_
 ·have h11:=h ⟨11,.data⟩ (by simp) rfl (by decide) (by decide)
  simp [askR,qak] at h11
  simp [Act.eval]
  exact h11
 ·simp
 ·refine ⟨?_,?_,?_,?_,?_,?_,?_,?_,?_,?_,?_,?_,?_,?_,?_,?_,trivial⟩
  ·refine .inr (.inr fun a w' hb hf hd=>?_)
   obtain ⟨f0,f1,f5⟩:=HFX a hf
   obtain ⟨c1,k0,o0⟩:=HCELL w' hb
   simp [askR,qak,Region.binds] at hd
   exact .inl ⟨.pointer (some ⟨V,0,none⟩),w',by go_simp,bl,rfl⟩
  ·refine .inr (.inr fun a w' hb hf hd=>?_)
   obtain ⟨f0,f1,f5⟩:=HFX a hf
   obtain ⟨c1,k0,o0⟩:=HCELL w' hb
   simp [askR,qak,Region.binds] at hd
   exact .inl ⟨.pointer (some ⟨V,0,none⟩),w',by go_simp,bl,rfl⟩
  ·refine .inr (.inr fun a w' hb hf hd=>?_)
   obtain ⟨f0,f1,f5⟩:=HFX a hf
   obtain ⟨c1,k0,o0⟩:=HCELL w' hb
   simp [askR,qak,Region.binds] at hd
   exact .inl ⟨.pointer (some ⟨V,1,none⟩),w',by go_simp,bl,rfl⟩
  ·refine .inr (.inr fun a w' hb hf hd=>?_)
   obtain ⟨f0,f1,f5⟩:=HFX a hf
   obtain ⟨c1,k0,o0⟩:=HCELL w' hb
   simp [askR,qak,Region.binds] at hd
   exact .inl ⟨.slice (some ⟨B,0,none⟩) n bc,w',by go_simp,bl,rfl⟩
  ·refine .inr (.inr fun a w' hb hf hd=>?_)
   obtain ⟨f0,f1,f5⟩:=HFX a hf
   obtain ⟨c1,k0,o0⟩:=HCELL w' hb
   simp [askR,qak,Region.binds] at hd
   exact .inl ⟨.int .i64 i,w',by go_simp,bl,rfl⟩
  ·refine .inr (.inr fun a w' hb hf hd=>?_)
   obtain ⟨f0,f1,f5⟩:=HFX a hf
   obtain ⟨c1,k0,o0⟩:=HCELL w' hb
   simp [askR,qak,Region.binds] at hd
   exact .inl ⟨.pointer (some ⟨B,i,none⟩),w',by go_simp,bl,rfl⟩
  ·refine .inr (.inr fun a w' hb hf hd=>?_)
   obtain ⟨f0,f1,f5⟩:=HFX a hf
   obtain ⟨c1,k0,o0⟩:=HCELL w' hb
   simp [askR,qak,Region.binds] at hd
   exact .inl ⟨.pointer (some ⟨sp i,0,none⟩),w',by go_simp,bl,rfl⟩
  ·refine .inr (.inr fun a w' hb hf hd=>?_)
   obtain ⟨f0,f1,f5⟩:=HFX a hf
   obtain ⟨c1,k0,o0⟩:=HCELL w' hb
   simp [askR,qak,Region.binds] at hd
   exact .inl ⟨.pointer (some ⟨w.heap.size,0,none⟩),w',by go_simp,bl,rfl⟩
  ·refine .inr (.inr fun a w' hb hf hd=>?_)
   obtain ⟨f0,f1,f5⟩:=HFX a hf
   obtain ⟨c1,k0,o0⟩:=HCELL w' hb
   simp [askR,qak,Region.binds] at hd
   exact .inl ⟨.string nm,w',by go_simp,bl,rfl⟩
  ·refine .inr (.inr fun a w' hb hf hd=>?_)
   obtain ⟨f0,f1,f5⟩:=HFX a hf
   obtain ⟨c1,k0,o0⟩:=HCELL w' hb
   simp [askR,qak,Region.binds] at hd
   refine .inr ⟨85,#[.pointer (some ⟨sp i,0,none⟩),.string nm],by go_simp,(qbD (sp i) down _ c rs r nm w' (HS.out.keeps ((Below.refl w1.heap.size w1).drew.trans hb) nl) HYES.out.1 HYES.out.2).mono ?_⟩
   rintro e w'' ⟨rfl,hb2⟩
   exact ⟨_,rfl,hb2,rfl⟩
  ·refine .inr (.inr fun a w' hb hf hd=>?_)
   obtain ⟨f0,f1,f5⟩:=HFX a hf
   obtain ⟨c1,k0,o0⟩:=HCELL w' hb
   simp [askR,qak,Region.binds] at hd
   exact .inl ⟨.tuple #[.agg #[.string r.name,.int .i64 r.mode,.int .i64 r.t,.int .i64 r.l,.int .i64 r.size,.int .i64 r.epoch,.slice r.sa r.sn r.sc,.slice r.na r.nn r.nc],.nilIface],w',by go_simp,bl,rfl⟩
  ·refine .inr (.inr fun a w' hb hf hd=>?_)
   obtain ⟨f0,f1,f5⟩:=HFX a hf
   obtain ⟨c1,k0,o0⟩:=HCELL w' hb
   simp [askR,qak,Region.binds] at hd
   exact .inl ⟨.agg #[.string r.name,.int .i64 r.mode,.int .i64 r.t,.int .i64 r.l,.int .i64 r.size,.int .i64 r.epoch,.slice r.sa r.sn r.sc,.slice r.na r.nn r.nc],w',by go_simp,bl,rfl⟩
  ·refine .inr (.inr fun a w' hb hf hd=>?_)
   obtain ⟨f0,f1,f5⟩:=HFX a hf
   obtain ⟨c1,k0,o0⟩:=HCELL w' hb
   simp [askR,qak,Region.binds] at hd
   exact .inl ⟨.nilIface,w',by go_simp,bl,rfl⟩
  ·exact .inl rfl
  ·exact .inr (.inl rfl)
  ·refine .inr (.inr fun a w' hb hf hd=>?_)
   obtain ⟨f0,f1,f5⟩:=HFX a hf
   obtain ⟨c1,k0,o0⟩:=HCELL w' hb
   simp [askR,qak,Region.binds] at hd
   exact .inl ⟨.nilIface,w',by go_simp,bl,rfl⟩
 ·intro a1 w2 b hdf hsz hb hf hr hb1 hb2 hb3
  obtain ⟨tm,df⟩:=a1
  simp only at hdf hsz hf hr hb1
  subst hdf
  obtain ⟨u0,u1,u2,u3,u4,u5,u6,u7,u8,u9,u10,u11,u12,u13,u14,u15,u16,u17,u18,u19,u20,u21,u22,u23,u24,u25,u26,u27,u28,u29,u30,u31,u32,u33,u34,u35,u36,u37,u38,u39,u40,u41,u42,u43,u44,u45,u46,rfl⟩:=qkJ tm hsz
  have r15:=hr 15 (by decide) (by decide) (by decide)
  simp [askR,qak] at r15 hb1 hf
  obtain ⟨rfl,rfl,rfl⟩:=hf
  subst r15 hb1
  clear hr hsz
  go_wp2_with fail
  have hb12:Below w1.heap.size w1 w2:=(Below.refl w1.heap.size w1).drew.trans hb
  have hRd:=HR.out.keeps hb12 nl
  have c0:=hRd.va.c0
  have HRD:=hid hRd
  have lV2:=hRd.va.lt
  have hbW:Below w.heap.size w w2:=hba.trans (hb12.mono (by omega))
  have HOB2:=hid (show w2.heap[w.heap.size]?=_ from (hb12.block _ lO).trans HOBJ.out)
  have lb:=cells_lt hb3
  have HFX2:∀a:Act,(∀x∈[((0:Nat),Value.pointer (some ⟨V,0,none⟩)),(1,.int .i64 i),(5,.pointer (some ⟨w.heap.size,0,none⟩)),(8,.pointer (some ⟨b,0,none⟩))],a.tmps.getD x.1 undef=x.2)→a.tmps[0]?.getD undef=.pointer (some ⟨V,0,none⟩)∧a.tmps[1]?.getD undef=.int .i64 i∧a.tmps[5]?.getD undef=.pointer (some ⟨w.heap.size,0,none⟩)∧a.tmps[8]?.getD undef=.pointer (some ⟨b,0,none⟩):=by
   intro a h
   simpa using h
  have HCELL2:∀w':World,Below w2.heap.size { w2 with drawn:=w2.drawn+1 } w'→w'.cell? ⟨V,0,none⟩=some (.int .u64 key)∧w'.cell? ⟨b,6,none⟩=some (.slice r.sa r.sn r.sc)∧w'.cell? ⟨w.heap.size,0,none⟩=some (.string nm)∧w'.cell? ⟨w.heap.size,1,none⟩=some (.int .i64 mode)∧w'.cell? ⟨w.heap.size,2,none⟩=some (.int .i64 t)∧w'.cell? ⟨w.heap.size,3,none⟩=some (.int .i64 l)∧w'.cell? ⟨w.heap.size,4,none⟩=some (.int .i64 size)∧w'.cell? ⟨w.heap.size,5,none⟩=some (.int .i64 epoch):=by
   intro w' hb'
   have lO2:w.heap.size<w2.heap.size:=cells_lt HOB2.out
   have e:∀o,w'.cell? ⟨w.heap.size,o,none⟩=w2.cell? ⟨w.heap.size,o,none⟩:=fun o=>hb'.cell lO2
   exact ⟨(hb'.cell lV2).trans c0,(hb'.cell lb).trans (show w2.cell? ⟨b,6,none⟩=_ by rw [cells_at hb3];rfl),by rw [e,cells_at HOB2.out];rfl,by rw [e,cells_at HOB2.out];rfl,by rw [e,cells_at HOB2.out];rfl,by rw [e,cells_at HOB2.out];rfl,by rw [e,cells_at HOB2.out];rfl,by rw [e,cells_at HOB2.out];rfl⟩
  clear hRd c0 hb3
  refine qbq (by kernel_rfl) qcC (qii V n i b key mode t l size epoch len w.heap.size r.sa r.sn r.sc nm P) [(0,.pointer (some ⟨V,0,none⟩)),(1,.int .i64 i),(5,.pointer (some ⟨w.heap.size,0,none⟩)),(8,.pointer (some ⟨b,0,none⟩))] 47 [0,1,5,8] (by kernel_rfl) rfl rfl rfl ?_ qgO ?_ ?_
  ·simp
  ·refine ⟨?_,?_,?_,?_,?_,?_,?_,?_,?_,?_,?_,?_,?_,?_,?_,?_,trivial⟩
   all_goals
    intro a w' hb' hf hd
    obtain ⟨f0,f1,f5,f8⟩:=HFX2 a hf
    obtain ⟨q0,q1,k0,k1,k2,k3,k4,k5⟩:=HCELL2 w' hb'
    simp [qii,qcC,Region.binds] at hd
    try (refine .inl ⟨_,w',?_,bl,rfl⟩;go_simp;done)
   ·refine .inr ⟨137,#[.pointer (some ⟨V,0,none⟩),.int .i64 i,.agg #[.string nm,.int .i64 mode,.int .i64 t,.int .i64 l,.int .i64 size,.int .i64 epoch]],by go_simp,(qbU V key n B 0 bc sp i mode t l size epoch nm w' (HRD.out.va.keeps ((Below.refl w2.heap.size w2).drew.trans hb') nl)).mono ?_⟩
    rintro e w'' ⟨rfl,hb2'⟩
    exact ⟨_,rfl,hb2',rfl⟩
   ·refine .inr ⟨181,#[.agg #[.string nm,.int .i64 mode,.int .i64 t,.int .i64 l,.int .i64 size,.int .i64 epoch,.int .i64 n,.int .i64 i],.slice r.sa r.sn r.sc,.int .u64 key],by go_simp,?_⟩
    rw [HSA.out]
    refine (HPC.out w' (HX.out.below (hbW.trans (((Below.refl w2.heap.size w2).drew.trans hb').mono hbW.size)) nl)).mono ?_
    rintro e w'' ⟨hg,_,hb2'⟩
    obtain ⟨pv,rfl,hown⟩:=hg P HG.out
    exact ⟨_,rfl,hb2',pv,rfl,World.ownsRow.mono hown (by have:=hb'.size;have:=hbW.size;simp at *;omega)⟩
   ·obtain ⟨pv,h10,hown⟩:=hd
    exact .inl ⟨.tuple #[pv,.nilIface],w',by go_simp,bl,pv,rfl,hown⟩
   ·obtain ⟨pv,h11,hown⟩:=hd
    exact .inl ⟨pv,w',by go_simp,bl,hown⟩
   ·obtain ⟨pv,h11,hown⟩:=hd
    exact .inl ⟨.nilIface,w',by go_simp,bl,rfl⟩
   ·exact .inl ⟨a.tmps[41]?.getD undef,w',by go_simp,bl,hd.1⟩
  ·intro a2 w3 hdf hsz hb' hf hr
   obtain ⟨tm2,df2⟩:=a2
   simp only at hdf hsz hf hr
   subst hdf
   obtain ⟨x0,x1,x2,x3,x4,x5,x6,x7,x8,x9,x10,x11,x12,x13,x14,x15,x16,x17,x18,x19,x20,x21,x22,x23,x24,x25,x26,x27,x28,x29,x30,x31,x32,x33,x34,x35,x36,x37,x38,x39,x40,x41,x42,x43,x44,x45,x46,rfl⟩:=qkJ tm2 hsz
   have r14:=hr 14 (by decide)
   have r15:=hr 15 (by decide)
   simp [qii,qcC] at r14 r15 hf
   obtain ⟨rfl,rfl,rfl,rfl⟩:=hf
   subst r15
   have H14:=hid r14
   have hb23:Below w2.heap.size w2 w3:=(Below.refl w2.heap.size w2).drew.trans hb'
   have hbW3:=hbW.trans (hb23.mono hbW.size)
   have HT3:=hid (HT.out.keeps hbW3 nl)
   clear hr hsz r14 HFX HFX2 HCELL HCELL2
   go_wp2_with (go_at_call 136;refine (qhn _ _ HI.out HT3.out).mono ?_;rintro e w4 ⟨rfl,hb4⟩)
   go_ret2
   exact ⟨_,rfl,qal H14.out hb4 nl,hbW3.trans (hb4.mono hbW3.size)⟩
def qcT:RecV:=⟨ByteArray.empty,0,0,0,0,0,none,0,0,none,0,0⟩
theorem qgw (n:Nat):(madeCells (Value.agg #[.string ByteArray.empty,.int .i64 0,.int .i64 0,.int .i64 0,.int .i64 0,.int .i64 0,.slice none 0 0,.slice none 0 0]).cells (n*8)).toList=recs (List.replicate n qcT):=by
 apply List.ext_getElem?
 intro i
 by_cases hi:i<n*8
 ·have h1:i=i / 8*8+i % 8:=by omega
  rw [h1,qiM (List.replicate n qcT) (i / 8) (i % 8) (by simp;omega) (by omega),←h1]
  simp only [madeCells,Value.cells,Array.toList_map,Array.toList_range,List.getElem?_map,List.getElem?_range hi,Option.map_some,List.getElem_replicate]
  have:i % 8=0∨i % 8=1∨i % 8=2∨i % 8=3∨i % 8=4∨i % 8=5∨i % 8=6∨i % 8=7:=by omega
  show some (#[Value.string ByteArray.empty,.int .i64 0,.int .i64 0,.int .i64 0,.int .i64 0,.int .i64 0,.slice none 0 0,.slice none 0 0][i % 8]!)=qcT.cells[i % 8]?
  rcases this with h | h | h | h | h | h | h | h<;>rw [h]<;>rfl
 ·rw [List.getElem?_eq_none (by simp [size_madeCells];omega),List.getElem?_eq_none (by rw [qah,List.length_replicate];omega)]
structure qc7 (w:World) (base key mode t l n size epoch:Nat) (nm:ByteArray) (P:List UInt8) (j:Nat) (r:RecV):Prop where
 e:r.name=nm∧r.mode=mode∧r.t=t∧r.l=l∧r.size=size∧r.epoch=epoch∧r.na=none∧r.nn=0∧r.nc=0
 sn:r.sn=10+nm.size+P.length+8
 own:w.ownsRow base 5 1 (.slice r.sa r.sn r.sc) r.sn (bs (Cof.sealed key (Cof.head mode t l n j epoch size nm.data.toList++P)))
theorem qc7.keeps {own:Nat→Prop} {w w':World} {base key mode t l n size epoch:Nat} {nm:ByteArray} {P:List UInt8} {j:Nat} {r:RecV} (h:qc7 w base key mode t l n size epoch nm P j r) (hs:qaa own w w') (ho:∀b,(Value.slice r.sa r.sn r.sc).ownBlock=some b→¬own b):qc7 w' base key mode t l n size epoch nm P j r :=
 ⟨h.e,h.sn,qab h.own hs ho⟩
theorem arr37 (t:Array Value) (h:t.size=37):∃u0 u1 u2 u3 u4 u5 u6 u7 u8 u9 u10 u11 u12 u13 u14 u15 u16 u17 u18 u19 u20 u21 u22 u23 u24 u25 u26 u27 u28 u29 u30 u31 u32 u33 u34 u35 u36:Value,t=#[u0,u1,u2,u3,u4,u5,u6,u7,u8,u9,u10,u11,u12,u13,u14,u15,u16,u17,u18,u19,u20,u21,u22,u23,u24,u25,u26,u27,u28,u29,u30,u31,u32,u33,u34,u35,u36]:=⟨_,_,_,_,_,_,_,_,_,_,_,_,_,_,_,_,_,_,_,_,_,_,_,_,_,_,_,_,_,_,_,_,_,_,_,_,_,(qco t 37 h).trans rfl⟩
def RecV.blk (r:RecV):Option Nat:=(Value.slice r.sa r.sn r.sc).ownBlock
theorem qlV {w:World} {base n size base' n' size':Nat} {e e':TypeId} {L L':List Value} {v v':Value} {b:Nat} (h:w.ownsRow base e size v n L) (h':w.ownsRow base' e' size' v' n' L') (he:e≠e') (hv:v.ownBlock=some b):v'.ownBlock≠some b:=by
 intro hv'
 rcases h' with ⟨_,⟨rfl,_⟩|⟨g,cap,cur,rfl,_,h4,_⟩⟩
 ·cases hv'
 ·cases hv'
  exact row_ne h h4 he hv
theorem qaN {P:Program} {ops:Array Oper} {Q:Exit→Act→World→Prop} {id:Nat} {a:Act} {w:World} (hm:P.follows .mixedOrders=true) (slot:Nat→Nat) (R:Nat→Value→World→Prop) (N m:Nat) (keys:List Nat)
  (hok:qeU ops slot N m keys=true) (hle:qbX ops m=true)
  (ha:a.defers=[]) (hN:a.tmps.size=N)
  (hper:∀j v w w',R j v w→Below w.heap.size w w'→R j v w')
  (hstep:qcx P slot R (keys.map fun k=>(k,a.tmps.getD k undef)) { w with drawn:=w.drawn+1 } 0 (ops.toList.take m))
  (hlast:∀a' w' o,ops[m]?=some o→a'.defers=[]→a'.tmps.size=N→Below w.heap.size { w with drawn:=w.drawn+1 } w'→(∀k∈keys,a'.tmps.getD k undef=a.tmps.getD k undef)→(∀j,j<m→R j (a'.tmps.getD (slot j) undef) w')→o.wp P a' w' (fun a' w''=>Q .normal a' w'') Q) :
  (Code.region id ops true).wp P Q a w :=
 qbp hm slot R (keys.map fun k=>(k,a.tmps.getD k undef)) N m keys hok hle (by rw [List.map_map];exact List.map_id keys) ha hN (fun p hp=>by obtain ⟨k,_,rfl⟩:=List.mem_map.1 hp;rfl) hper hstep
  (fun a' w' o ho hd hs hb hf hr=>hlast a' w' o ho hd hs hb (fun k hk=>hf _ (List.mem_map.2 ⟨k,hk,rfl⟩)) hr)
def mkR (V n k g key mode t l size epoch M base:Nat) (pa:Option Addr) (pm pc:Nat) (nm:ByteArray) (X:List UInt8):Nat→Value→World→Prop
 | 0,v,_=>v=.slice (some ⟨g,0,none⟩) n n
 | 1,v,_=>v=.int .i64 k
 | 2,v,_=>v=.agg #[.string nm,.int .i64 mode,.int .i64 t,.int .i64 l,.int .i64 size,.int .i64 epoch]
 | 3,v,_=>v=.pointer (some ⟨V,0,none⟩)
 | 4,v,_=>v=.int .i64 k
 | 5,v,_=>v=.agg #[.string nm,.int .i64 mode,.int .i64 t,.int .i64 l,.int .i64 size,.int .i64 epoch]
 | 6,v,_=>v=.agg #[.string nm,.int .i64 mode,.int .i64 t,.int .i64 l,.int .i64 size,.int .i64 epoch,.int .i64 n,.int .i64 k]
 | 7,v,_=>v=.slice pa pm pc
 | 8,v,_=>v=.pointer (some ⟨V,0,none⟩)
 | 9,v,_=>v=.pointer (some ⟨V,0,none⟩)
 | 10,v,_=>v=.pointer (some ⟨V,0,none⟩)
 | 11,v,_=>v=.int .u64 key
 | 12,v,w=>w.ownsRow base 5 1 v M (bs X)
 | 13,v,w=>∃sv,v=.agg #[.string nm,.int .i64 mode,.int .i64 t,.int .i64 l,.int .i64 size,.int .i64 epoch,sv,.slice none 0 0]∧w.ownsRow base 5 1 sv M (bs X)
 | 14,v,_=>v=.pointer (some ⟨g,k*8,none⟩)
 | _,_,_=>True
theorem qj8 {V n k g key mode t l size epoch M base:Nat} {pa:Option Addr} {pm pc:Nat} {nm:ByteArray} {X:List UInt8} (j:Nat) (v:Value) (w w':World) (h:mkR V n k g key mode t l size epoch M base pa pm pc nm X j v w) (hb:Below w.heap.size w w'):mkR V n k g key mode t l size epoch M base pa pm pc nm X j v w':=by
 unfold mkR at h ⊢
 split at h
 ·exact h
 ·exact h
 ·exact h
 ·exact h
 ·exact h
 ·exact h
 ·exact h
 ·exact h
 ·exact h
 ·exact h
 ·exact h
 ·exact h
 ·exact qal h hb nl
 ·exact h.imp fun sv h=>⟨h.1,qal h.2 hb nl⟩
 ·exact h
 ·trivial
structure Made (w0 w:World) (g key mode t l n size epoch:Nat) (nm:ByteArray) (rows:List (List UInt8)) (k:Nat) (xs:List RecV):Prop where
 len:xs.length=k
 row:w.ownsRow w0.heap.size 152 8 (.slice (some ⟨g,0,none⟩) n n) n (recs (xs++List.replicate (n-k) qcT))
 ok:∀j,j<k→qc7 w w0.heap.size key mode t l n size epoch nm (rows.getD j []) j (xs[j]!)
 inj:∀i j,i<j→j<k→(xs[i]!).blk≠(xs[j]!).blk
 bl:Below w0.heap.size w0 w
theorem qe0 (V key n B bc:Nat) (sp:Nat→Nat) (mode t l size epoch len:Nat) (nm:ByteArray) (ga:Option Addr) (gc:Nat) (rows:List (List UInt8)) (w:World) (h:Rdy w V key n B bc sp) (hp:qaj mode t l n) (he:epoch≤100) (hz:size≤60) (hnm:nm.size≤12) (hk:key<18446744073709551616)
  (hrl:rows.length=n) (hll:∀i,i<n→(rows.getD i []).length=len) (hl:len≤60) (hr:qaE w ga rows) :
  Calls Tryz.prog 81 #[.pointer (some ⟨V,0,none⟩),.agg #[.string nm,.int .i64 mode,.int .i64 t,.int .i64 l,.int .i64 size,.int .i64 epoch],.slice ga n gc] w fun e w' =>
   ∃g xs,e=.returned (.slice (some ⟨g,0,none⟩) n n)∧Made w w' g key mode t l n size epoch nm rows n xs:=by
 obtain ⟨i0,hi,hz0,hz1,hz2⟩:=info_parts Tryz.infoR
 have hba:=(Below.refl w.heap.size w).alloc nl (.cells #[.string nm,.int .i64 mode,.int .i64 t,.int .i64 l,.int .i64 size,.int .i64 epoch] 55)
 have HR:=hid (h.keeps hba nl)
 have hn8:=h.n8
 have HRW:=hid (hr.below hba nl)
 have HMD:=hid (fun k hk' aP m c w' em hr hm=>qlg mode t l n k epoch size key nm aP m c (rows.getD k []) w' hp hk' he hz hnm hk em hr hm)
 have HLL:=hid hll
 have HRL:=hid hrl
 have hVl:=h.va.lt
 clear h hp he hz hnm hk hrl hll hr
 go_enter Tryz.func81,Tryz.ntmps81
 go_wp2_with (first | (at_make;refine wpList_make_full _ rfl (.tmp 11) (.tmp 11) 145 rfl w.heap.size 152 i0 _ 8 Tryz.underlying145 hi hz0 hz1 .i64 .i64 _ _ n rfl rfl rfl rfl (by rw [hz2];omega) (by unfold maxLen;omega) (by simp) ?_;intro w2 hown2 hgrow2;(have HO2:=hid hown2);(have HG2:=hid hgrow2);clear hown2 hgrow2)|fail)
 obtain ⟨w1,hw1⟩:∃w1,w1=w.alloc (.cells #[.string nm,.int .i64 mode,.int .i64 t,.int .i64 l,.int .i64 size,.int .i64 epoch] 55):=⟨_,rfl⟩
 have hz1:w1.heap.size=w.heap.size+1:=by rw [hw1];simp
 have HOBJ:=hid (show w1.heap[w.heap.size]?=some (.cells #[.string nm,.int .i64 mode,.int .i64 t,.int .i64 l,.int .i64 size,.int .i64 epoch] 55) by rw [hw1];exact alloc_at _ _)
 rw [←hw1] at hba HR HRW HO2 HG2
 rw [hz1,qgw] at HO2
 have hb12:Below w1.heap.size w1 w2:=(Below.refl _ _).grown HG2.out nl nofun
 have hb02:Below w.heap.size w w2:=hba.trans (hb12.mono (by omega))
 have HOB2:=hid (show w2.heap[w.heap.size]?=_ from (hb12.block _ (by omega)).trans HOBJ.out)
 have HZ1:=hid hz1
 have hz1l:w.heap.size<w1.heap.size:=by omega
 clear hw1 hz1
 go_loopw [15] (fun u wr=>∃(k:Nat) (xs:List RecV),k≤n∧u=.int .i64 k∧Made w wr (w.heap.size+1) key mode t l n size epoch nm rows k xs∧Below w1.heap.size w1 wr) (fun u _=>n-(intOf u).toNat)
 case atStart=>exact ⟨0,[],Nat.zero_le _,rfl,⟨rfl,HO2.out,fun j hj=>by omega,fun i j _ hj=>by omega,hb02⟩,hb12⟩
 case round =>
  obtain ⟨k,xs,hk,rfl,hmd,hb1r⟩:=hrel
  by_cases hlt:k<n
  ·have HM:=hid hmd
   have hRr:=HR.out.keeps hb1r nl
   obtain ⟨pb,po,a',c',rfl,hpb,hpc,hprd⟩:=(HRW.out.below hb1r nl).at k (by rw [HRL.out];exact hlt)
   rw [HLL.out k hlt] at hpc
   have c0:=hRr.va.c0
   have lV:=hRr.va.lt
   have HRR:=hid hRr
   have HPR:=hid hprd
   have hlt':(k:Int)<(n:Int):=by omega
   have HOBR:=hid (show wr.heap[w.heap.size]?=_ from (hb1r.block _ (by omega)).trans HOBJ.out)
   have lO:=cells_lt HOBR.out
   have HX:=hid (show ∃X,X=Cof.sealed key (Cof.head mode t l n k epoch size nm.data.toList++rows.getD k []) from ⟨_,rfl⟩)
   obtain ⟨X,hX⟩:=HX.out
   have HXX:=hid hX
   clear hmd hRr hprd hX HX
   go_wp2_with fail
   have HCELL:∀w':World,Below wr.heap.size { wr with drawn:=wr.drawn+1 } w'→w'.cell? ⟨V,0,none⟩=some (.int .u64 key)∧w'.cell? ⟨w.heap.size,0,none⟩=some (.string nm)∧w'.cell? ⟨w.heap.size,1,none⟩=some (.int .i64 mode)∧w'.cell? ⟨w.heap.size,2,none⟩=some (.int .i64 t)∧w'.cell? ⟨w.heap.size,3,none⟩=some (.int .i64 l)∧w'.cell? ⟨w.heap.size,4,none⟩=some (.int .i64 size)∧w'.cell? ⟨w.heap.size,5,none⟩=some (.int .i64 epoch):=by
    intro w' hb'
    have e:∀o,w'.cell? ⟨w.heap.size,o,none⟩=wr.cell? ⟨w.heap.size,o,none⟩:=fun o=>hb'.cell lO
    exact ⟨(hb'.cell lV).trans c0,by rw [e,cells_at HOBR.out];rfl,by rw [e,cells_at HOBR.out];rfl,by rw [e,cells_at HOBR.out];rfl,by rw [e,cells_at HOBR.out];rfl,by rw [e,cells_at HOBR.out];rfl,by rw [e,cells_at HOBR.out];rfl⟩
   clear c0
   refine qaN (by kernel_rfl) (fun i=>i+20) (mkR V n k (w.heap.size+1) key mode t l size epoch (10+nm.size+len+8) wr.heap.size a' len c' nm X) 37 15 [0,4,7,8,9,1,2,3,5,6,10,11,12,13,14,15,16,17,18,19,35,36] (by kernel_rfl) (by kernel_rfl) rfl rfl qj8 ?_ ?_
   ·refine ⟨?_,?_,?_,?_,?_,?_,?_,?_,?_,?_,?_,?_,?_,?_,?_,trivial⟩
    all_goals
     intro a w' hb' hf hd
     simp at hf
     obtain ⟨f0,f4,f7,f8,f9,_⟩:=hf
     obtain ⟨q0,k0,k1,k2,k3,k4,k5⟩:=HCELL w' hb'
     simp [mkR] at hd
     try (refine .inl ⟨_,w',?_,bl,rfl⟩;go_simp;done)
    ·refine .inr ⟨137,#[.pointer (some ⟨V,0,none⟩),.int .i64 k,.agg #[.string nm,.int .i64 mode,.int .i64 t,.int .i64 l,.int .i64 size,.int .i64 epoch]],by go_simp,(qbU V key n B 0 bc sp k mode t l size epoch nm w' (HRR.out.va.keeps ((Below.refl wr.heap.size wr).drew.trans hb') nl)).mono ?_⟩
     rintro e w'' ⟨rfl,hb2'⟩
     exact ⟨_,rfl,hb2',rfl⟩
    ·refine .inr ⟨138,#[.agg #[.string nm,.int .i64 mode,.int .i64 t,.int .i64 l,.int .i64 size,.int .i64 epoch,.int .i64 n,.int .i64 k],.slice a' len c',.int .u64 key],by go_simp,?_⟩
     refine (HMD.out k hlt a' len c' w' (HLL.out k hlt).symm (HPR.out.below ((Below.refl wr.heap.size wr).drew.trans hb') nl) hl).mono ?_
     rintro e w'' ⟨v,rfl,hown,hb2'⟩
     exact ⟨_,rfl,hb2',by rw [HXX.out];exact World.ownsRow.mono hown (by have:=hb'.size;simp at this;omega)⟩
    ·obtain ⟨sb,scap,hsv,_,_⟩:=qb4 hd.2 (by omega)
     have hd2:=hd.2
     rw [hsv] at hd2
     exact .inl ⟨.agg #[.string nm,.int .i64 mode,.int .i64 t,.int .i64 l,.int .i64 size,.int .i64 epoch,.slice (some ⟨sb,0,none⟩) (10+nm.size+len+8) scap,.slice none 0 0],w',by go_simp,bl,_,rfl,hd2⟩
   ·intro a2 w3 ol hol hdf hsz hb' hf hr
    cases hol
    have r13:=hr 13 (by decide)
    have r14:=hr 14 (by decide)
    simp [mkR] at r13 r14
    obtain ⟨sv,hsv,hown⟩:=r13
    obtain ⟨sb,scap,rfl,hsb1,hsb2⟩:=qb4 hown (by omega)
    have hbr3:Below wr.heap.size wr w3:=(Below.refl wr.heap.size wr).drew.trans hb'
    have hrow3:=qal HM.out.row hbr3 nl
    have hml:=HM.out.len
    obtain ⟨old,ho1,ho2,ho3⟩:=qcV hrow3 k (by rw [List.length_append,List.length_replicate,hml];omega)
    refine qbN 152 (.tmp 34) (.tmp 33) rfl (w.heap.size+1) (k*8) #[.string nm,.int .i64 mode,.int .i64 t,.int .i64 l,.int .i64 size,.int .i64 epoch,.slice (some ⟨sb,0,none⟩) (10+nm.size+len+8) scap,.slice none 0 0] (by simp [Act.eval];exact r14) (by simp [Act.eval];exact hsv) _ old ho1 Tryz.cellsRec ho2 (by simp [Value.oneCell']) ?_
    have hnew:=ho3 ⟨nm,mode,t,l,size,epoch,some ⟨sb,0,none⟩,10+nm.size+len+8,scap,none,0,0⟩
    have ec:(⟨nm,mode,t,l,size,epoch,some ⟨sb,0,none⟩,10+nm.size+len+8,scap,none,0,0⟩:RecV).cells=(#[Value.string nm,.int .i64 mode,.int .i64 t,.int .i64 l,.int .i64 size,.int .i64 epoch,.slice (some ⟨sb,0,none⟩) (10+nm.size+len+8) scap,.slice none 0 0]:Array Value).toList:=rfl
    rw [ec] at hnew
    obtain ⟨W4,hW4⟩:∃W4,W4=w3.setRow (w.heap.size+1) (old.toList.take (k*8)++(#[Value.string nm,.int .i64 mode,.int .i64 t,.int .i64 l,.int .i64 size,.int .i64 epoch,.slice (some ⟨sb,0,none⟩) (10+nm.size+len+8) scap,.slice none 0 0]:Array Value).toList++old.toList.drop (k*8+8)).toArray:=⟨_,rfl⟩
    have hsp4:qaa (fun b=>b=w.heap.size+1) w3 W4:=by rw [hW4];exact ⟨rfl,rfl,rfl,by simp,fun q _ hq=>setRow_other _ _ _ _ hq⟩
    have HNEW:=hid (show W4.ownsRow _ _ _ _ _ _ from hW4 ▸ hnew)
    have HSP4:=hid hsp4
    have HOWN:=hid hown
    have HBR3:=hid hbr3
    have HSB:=hid (And.intro hsb1 hsb2)
    change Exit.inBlock _ _ _ a2 (w3.setRow (w.heap.size+1) (old.toList.take (k*8)++(#[Value.string nm,.int .i64 mode,.int .i64 t,.int .i64 l,.int .i64 size,.int .i64 epoch,.slice (some ⟨sb,0,none⟩) (10+nm.size+len+8) scap,.slice none 0 0]:Array Value).toList++old.toList.drop (k*8+8)).toArray)
    rw [←hW4]
    clear hW4 hnew ho1 ho2 ho3 hrow3 hown r14 hsv hsp4 hbr3
    obtain ⟨tm,df⟩:=a2
    simp only at hdf hsz hf
    subst hdf
    obtain ⟨x0,x1,x2,x3,x4,x5,x6,x7,x8,x9,x10,x11,x12,x13,x14,x15,x16,x17,x18,x19,x20,x21,x22,x23,x24,x25,x26,x27,x28,x29,x30,x31,x32,x33,x34,x35,x36,rfl⟩:=arr37 tm hsz
    clear hr hsz HCELL
    simp at hf
    obtain ⟨rfl,rfl,rfl,rfl,rfl,rfl,rfl,rfl,rfl,rfl,rfl,rfl,rfl,rfl,rfl,rfl,rfl,rfl,rfl,rfl,rfl,rfl⟩:=hf
    go_wp2_with fail
    go_roundw
    case rel =>
     have hb1w:Below w1.heap.size w1 W4:=(hb1r.trans (HBR3.out.mono hb1r.size)).trans (HSP4.out.below w1.heap.size (by have:=hb1r.size;have:=HBR3.out.size;omega) (fun q hq=>by have:=HZ1.out;omega))
     have h0:=(hba.trans (hb1w.mono (by omega)))
     refine ⟨k+1,xs++[⟨nm,mode,t,l,size,epoch,some ⟨sb,0,none⟩,10+nm.size+len+8,scap,none,0,0⟩],by omega,by go_num,⟨by simp [hml],?_,?_,?_,h0⟩,hb1w⟩
     ·have e:(xs++List.replicate (n-k) qcT).set k ⟨nm,mode,t,l,size,epoch,some ⟨sb,0,none⟩,10+nm.size+len+8,scap,none,0,0⟩=xs++[⟨nm,mode,t,l,size,epoch,some ⟨sb,0,none⟩,10+nm.size+len+8,scap,none,0,0⟩]++List.replicate (n-(k+1)) qcT:=by
       rw [show n-k=(n-(k+1))+1 by omega,List.replicate_succ,←hml,List.set_append_right _ _ nl,Nat.sub_self,List.set_cons_zero,List.append_assoc]
       rfl
      rw [←e]
      exact HNEW.out
     ·intro j hj
      rcases Nat.lt_or_ge j k with hjk | hjk
      ·rw [getElem!_pos _ _ (by simp;omega),List.getElem_append_left (by omega),←getElem!_pos xs j (by omega)]
       refine ((HM.out.ok j hjk).keeps (qaa.ofBelow (own:=fun _=>False) HBR3.out nl) (fun _ _ h=>h)).keeps HSP4.out (fun b hb e=>?_)
       exact qlV (HM.out.ok j hjk).own HM.out.row (by decide) hb (by rw [e];rfl)
      ·have:j=k:=by omega
       subst this
       rw [getElem!_pos _ _ (by simp;omega),List.getElem_append_right (by omega)]
       simp only [hml,Nat.sub_self,List.getElem_cons_zero]
       refine ⟨⟨rfl,rfl,rfl,rfl,rfl,rfl,rfl,rfl,rfl⟩,by rw [HLL.out j hlt],?_⟩
       rw [←HXX.out]
       refine qab (World.ownsRow.mono HOWN.out (by have:=hb1r.size;omega)) HSP4.out (fun b hb e=>?_)
       cases hb
       have h1:=HSB.out.1
       have h2:=(HM.out.row.lt (w.heap.size+1) rfl).2
       have h3:sb=w.heap.size+1:=e
       omega
     ·intro i j hij hj
      rcases Nat.lt_or_ge j k with hjk | hjk
      ·rw [getElem!_pos _ _ (by simp;omega),getElem!_pos _ j (by simp;omega),List.getElem_append_left (by omega),List.getElem_append_left (by omega),←getElem!_pos xs i (by omega),←getElem!_pos xs j (by omega)]
       exact HM.out.inj i j hij hjk
      ·have:j=k:=by omega
       subst this
       rw [getElem!_pos _ _ (by simp;omega),getElem!_pos _ j (by simp;omega),List.getElem_append_left (by omega),List.getElem_append_right (by omega),←getElem!_pos xs i (by omega)]
       simp only [hml,Nat.sub_self,List.getElem_cons_zero]
       intro he
       have h1:=HSB.out.1
       have h2:=((HM.out.ok i hij).own.lt sb he).2
       omega
    case measure=>simp [intOf];omega
  ·have hkn:k=n:=by omega
   subst hkn
   have HM:=hid hmd
   clear hmd
   go_wp2
   go_ret
   exact ⟨_,xs,rfl,HM.out⟩
theorem qb9 (rs:List RecV) (u:Value) (h:u∈recs rs):u.oneCell'=true:=by
 simp only [recs,List.mem_flatMap] at h
 obtain ⟨r,_,hr⟩:=h
 simp [RecV.cells] at hr
 rcases hr with rfl | rfl | rfl | rfl | rfl | rfl | rfl | rfl<;>rfl
theorem cloneR (b:Addr) (n c:Nat) (rs:List RecV) (w:World) (hsp:b.spot=none) (en:n=rs.length) (hr:Rd w (some b) (recs rs)) (hn:n≤10) :
  Calls Tryz.prog 141 #[.slice (some b) n c] w fun e w'=>∃v,e=.returned v∧w'.ownsRow w.heap.size 152 8 v n (recs rs)∧Below w.heap.size w w':=by
 obtain ⟨i0,hi,hz0,hz1,hz2⟩:=info_parts Tryz.infoR
 have HL:=hid (show (recs rs).length=n*8 by rw [qah,en])
 have hba:=(Below.refl w.heap.size w).alloc nl (.cells #[] 152)
 have HR:=hid (hr.below hba nl)
 have hq:=Lib.run_eql_slice_nil (P:=Tryz.prog) w 145 152 (some b) n c 0 0 Tryz.underlying145
 have HE:=hid (show (w.alloc (.cells #[] 152)).ownsRow w.heap.size 152 8 (.slice (some ⟨w.heap.size,0,none⟩) 0 0) 0 [] from ⟨rfl,.inr ⟨w.heap.size,0,#[],rfl,Nat.le_refl _,alloc_at _ _,Nat.le_refl _,by unfold maxLen;omega,rfl,rfl⟩⟩)
 obtain ⟨bb,bo,_⟩:=b
 cases hsp
 clear en hr
 go_enter Tryz.func141,Tryz.ntmps141
 go_wp2_with (first | (at_builtin;refine wpList_append_own _ rfl (.tmp 5) (.tmp 6) 145 rfl w.heap.size 152 i0 _ 8 104 Tryz.underlying145 hi hz0 hz1 hz2 rfl (by decide) _ 0 [] rfl HE.out ⟨bb,bo,none⟩ n c (recs rs) rfl HL.out (fun j u hj=>by obtain ⟨b',o',e1,_,e3⟩:=HR.out j u hj;cases e1;rw [qaW];exact e3) (fun u hu=>qb9 rs u hu) (by unfold maxLen;omega) (by omega) (by simp) ?_;intro v2 w2 hown2 hgrow2 _;rw [Nat.zero_add,List.nil_append] at hown2;have hb2:Below w.heap.size w w2:=hba.grown hgrow2 (by simp) (fun k hk=>(HE.out.lt k hk).1);have HO2:=hid hown2;clear hown2 hgrow2)|fail)
 go_ret
 exact ⟨_,rfl,HO2.out,hb2⟩
theorem qiD (n c:Nat) (w:World) :
  Calls Tryz.prog 141 #[.slice none n c] w fun e w'=>e=.returned (.slice none 0 0)∧w'=w:=by
 have hq:=Lib.run_eql_slice_nil (P:=Tryz.prog) w 145 152 none n c 0 0 Tryz.underlying145
 go_enter Tryz.func141,Tryz.ntmps141
 go_wp2
 go_ret
 exact ⟨rfl,rfl⟩
theorem qdD (S:Nat) (down:Bool) (v:Value) (rs:List RecV) (w:World) (h:Sto w S down v rs) :
  Calls Tryz.prog 89 #[.pointer (some ⟨S,0,none⟩)] w fun e w'=>∃v,e=.returned v∧w'.ownsRow w.heap.size 152 8 v rs.length (recs rs)∧Below w.heap.size w w':=by
 obtain ⟨a,c,hv,hst⟩:=h.st
 have c1:=hst.c1
 rcases h.row with ⟨_,⟨hv0,h0⟩|⟨g,cap,cur,hv2,_,h4,_⟩⟩
 ·have hrs:rs=[]:=List.length_eq_zero_iff.1 h0
  subst hrs
  rw [hv] at hv0
  cases hv0
  clear h hst
  go_enter Tryz.func89,Tryz.ntmps89
  go_wp2_with (go_at_call 141;refine (qiD 0 0 w).mono ?_;rintro e w1 ⟨rfl,rfl⟩)
  go_ret
  exact ⟨_,rfl,⟨rfl,.inl ⟨rfl,rfl⟩⟩,bl⟩
 ·rw [hv] at hv2
  obtain ⟨rfl,_,rfl⟩:=(by simpa using hv2:a=some ⟨g,0,none⟩∧True∧c=cap)
  have HC:=hid (cloneR ⟨g,0,none⟩ rs.length c rs w rfl rfl hst.rd h.le)
  clear h hst
  go_enter Tryz.func89,Tryz.ntmps89
  go_wp2_with (go_at_call 141;refine HC.out.mono ?_;rintro e w1 ⟨v1,rfl,hown,hb1⟩;have HO:=hid hown;clear hown)
  go_ret
  exact ⟨_,rfl,HO.out,hb1⟩
def RecV.obj (r:RecV):List Value:=[.string r.name,.int .i64 r.mode,.int .i64 r.t,.int .i64 r.l,.int .i64 r.size,.int .i64 r.epoch]
def objs (rs:List RecV):List Value:=rs.flatMap RecV.obj
theorem Tryz.infoO:(Tryz.prog.info? 55).map (fun i=>(i.zero,i.size,i.bytes))=some (some (.agg #[.string ByteArray.empty,.int .i64 0,.int .i64 0,.int .i64 0,.int .i64 0,.int .i64 0]),6,56):=by kernel_rfl
theorem qje (rs:List RecV) (k:Nat) (hk:k<rs.length):objs (rs.take (k+1))=objs (rs.take k)++(rs[k]!).obj:=by
 rw [List.take_add_one,getElem!_pos rs k hk,List.getElem?_eq_getElem hk]
 unfold objs
 rw [List.flatMap_append]
 simp
theorem qc8 (V key n B bc:Nat) (sp:Nat→Nat) (down:Bool) (v:Value) (rs:List RecV) (w:World) (h:Rdy w V key n B bc sp) (hs:Sto w (sp 0) down v rs) :
  Calls Tryz.prog 51 #[.pointer (some ⟨V,0,none⟩)] w fun e w' =>
   ∃ov,e=.returned ov∧w'.ownsRow w.heap.size 55 6 ov rs.length (objs rs)∧Below w.heap.size w w':=by
 obtain ⟨i0,hi,hz0,hz1,hz2⟩:=info_parts Tryz.infoO
 have c5:=h.c5
 have c1:=h.va.c1
 have k0:=h.st 0 (by have:=h.n1;omega)
 have HC:=hid (qba V _ c5)
 have HREC:=hid (qdD (sp 0) down v rs w hs)
 have hn1:(0:Int)<(n:Int):=by have:=h.n1;omega
 have hle:=hs.le
 clear h hs
 obtain ⟨m,hm⟩:∃m,m=rs.length:=⟨_,rfl⟩
 rw [←hm] at HREC hle ⊢
 have HM:=hid hm
 clear hm
 go_enter Tryz.func51,Tryz.ntmps51
 go_wp2_with (go_at_call 88;refine HC.out.mono ?_;rintro e w0 ⟨rfl,rfl⟩)
 refine HREC.out.mono ?_
 rintro e w1 ⟨rv,rfl,hrow,hb1⟩
 obtain ⟨ra,rc,rfl,hrd⟩:=qad hrow
 have HRD:=hid hrd
 clear hrow hrd
 go_wp2_with fail
 go_loopw [3,19] (fun ov u wr=>∃(k:Nat),k≤m∧u=.int .i64 k∧wr.ownsRow w1.heap.size 55 6 ov k (objs (rs.take k))∧Below w1.heap.size w1 wr) (fun _ u _=>m-(intOf u).toNat)
 case atStart=>exact ⟨0,Nat.zero_le _,rfl,⟨rfl,.inl ⟨rfl,rfl⟩⟩,bl⟩
 case round =>
  obtain ⟨k,hk,rfl,hrow,hbr⟩:=hrel
  by_cases hlt:k<m
  ·obtain ⟨b,o,rfl,hb,_⟩:=HRD.out.pos (by rw [qah,←HM.out];omega)
   obtain ⟨_,r0,r1,r2,r3,r4,r5,r6,r7⟩:=qcY (HRD.out.below hbr nl) k (by rw [←HM.out];exact hlt)
   have HX:=hid (qje rs k (by rw [←HM.out];exact hlt))
   generalize rs[k]! = r at *
   have hlt':(k:Int)<(m:Int):=by omega
   have HROW:=hid hrow
   have hba1:=(Below.refl wr.heap.size wr).alloc nl (.cells #[.string r.name,.int .i64 r.mode,.int .i64 r.t,.int .i64 r.l,.int .i64 r.size,.int .i64 r.epoch,.slice r.sa r.sn r.sc,.slice r.na r.nn r.nc] 152)
   have hba2:=hba1.alloc (by simp) (.cells #[.string r.name,.int .i64 r.mode,.int .i64 r.t,.int .i64 r.l,.int .i64 r.size,.int .i64 r.epoch] 55)
   have HRW2:=hid (qal hrow hba2 nl)
   clear hrow
   go_wp2_with (first | (at_builtin;refine wpList_append_own _ rfl (.tmp 23) (.tmp 26) 52 rfl w1.heap.size 55 i0 _ 6 56 Tryz.underlying52 hi hz0 hz1 hz2 rfl (by decide) _ k (objs (rs.take k)) rfl HRW2.out ⟨wr.heap.size+1,0,none⟩ 1 1 r.obj rfl rfl (fun j u hj=>by rw [qaW,World.cell?_alloc_at _ _ _ _ (by simp),Nat.zero_add];simpa [RecV.obj] using hj) (fun u hu=>by simp [RecV.obj] at hu;rcases hu with rfl | rfl | rfl | rfl | rfl | rfl<;>rfl) (by unfold maxLen;omega) (by omega) (by have:=hbr.size;simp;omega) ?_;intro v2 w2 hown2 hgrow2 _;(have HO2:=hid hown2);(have HB2:=hid ((hbr.trans (hba2.mono hbr.size)).grown hgrow2 (by have:=hbr.size;simp;omega) (fun q hq=>(HRW2.out.lt q hq).1)));clear hown2 hgrow2)|fail)
   go_roundw
   case rel=>exact ⟨k+1,by omega,by go_num,by rw [HX.out];exact HO2.out,HB2.out⟩
   case measure=>simp [intOf];omega
  ·have hkm:k=m:=by omega
   subst hkm
   have HROW:=hid hrow
   clear hrow
   go_wp2
   go_ret
   refine ⟨_,rfl,?_,hb1.trans (hbr.mono hb1.size)⟩
   have:=HROW.out
   rw [List.take_of_length_le (Nat.le_of_eq HM.out.symm)] at this
   exact World.ownsRow.mono this hb1.size
theorem qaP {w:World} {base g n c size:Nat} {e:TypeId} {L:List Value} (h:w.ownsRow base e size (.slice (some ⟨g,0,none⟩) n c) n L) :
  ∃tl,w.heap[g]?=some (.cells (L++tl).toArray e)∧L.length=n*size∧(L++tl).length=c*size∧n≤c∧c≤maxLen∧base≤g:=by
 obtain ⟨h1,⟨hx,_⟩|⟨g',cap,cur,hv,h3,h4,h5,h6,h7,h8⟩⟩:=h
 ·cases hx
 ·cases hv
  refine ⟨cur.toList.drop (n*size),?_,h1,?_,h5,h6,h3⟩
  ·rw [←h8,List.take_append_drop];exact h4
  ·rw [←h8,List.take_append_drop,Array.length_toList];exact h7
theorem qey {w:World} {base g n c size:Nat} {e:TypeId} {L tl:List Value} (h:w.heap[g]?=some (.cells (L++tl).toArray e)) (h1:L.length=n*size) (h2:(L++tl).length=c*size) (h3:n≤c) (h4:c≤maxLen) (h5:base≤g) :
  w.ownsRow base e size (.slice (some ⟨g,0,none⟩) n c) n L :=
 ⟨h1,.inr ⟨g,c,(L++tl).toArray,rfl,h5,h,h3,h4,by simpa using h2,by simp [←h1]⟩⟩
def over (L:List Value) (o:Nat) (vs:List Value):List Value:=L.take o++vs++L.drop (o+vs.length)
theorem qcN (L:List Value) (o:Nat) (vs:List Value) (h:o+vs.length≤L.length):(over L o vs).length=L.length:=by
 simp [over];omega
theorem qiY (L:List Value) (o:Nat) (v:Value) (vs:List Value) (h:o+(vs.length+1)≤L.length):over (L.set o v) (o+1) vs=over L o (v :: vs):=by
 unfold over
 rw [List.take_set,List.drop_set_of_lt (by omega),List.length_cons,show o+1+vs.length=o+(vs.length+1) by omega]
 congr 1
 rw [show L.take (o+1)=L.take o++[L[o]'(by omega)] from (List.take_append_getElem (by omega)).symm,List.set_append_right _ _ (by simp;omega)]
 simp [Nat.min_eq_left (show o≤L.length by omega)]
theorem qaH (g:Nat) (e:TypeId):∀(vs:List Value) (o:Nat) (L:List Value) (w:World),w.heap[g]?=some (.cells L.toArray e)→o+vs.length≤L.length→(w.setCells g o vs).heap[g]?=some (.cells (over L o vs).toArray e)
 | [],o,L,w,h,_=>by simp [World.setCells,over,h]
 | v :: vs,o,L,w,h,hle=>by
  rw [List.length_cons] at hle
  have h1:(w.setCell ⟨g,o,none⟩ v).heap[g]?=some (.cells (L.set o v).toArray e):=by
   rw [qan v h];simp
  rw [World.setCells,qaH g e vs (o+1) (L.set o v) _ h1 (by simp;omega),qiY L o v vs hle]
theorem qa4 (own:Nat→Prop) (g:Nat) (hg:own g):∀(vs:List Value) (o:Nat) (w:World),qaa own w (w.setCells g o vs)
 | [],_,_=>qaa.refl _ _
 | v :: vs,o,w=>((qaa.refl own w).setCell (p:=⟨g,o,none⟩) hg v).trans (qa4 own g hg vs (o+1) _)
theorem qaZ {w:World} {g k:Nat} {L:List Value} {e:TypeId} (h:w.heap[g]?=some (.cells L.toArray e)):w.cell? ⟨g,k,none⟩=L[k]?:=by rw [cells_at h];simp
theorem qbF {w:World} {g k:Nat} {L:List Value} {e:TypeId} (h:w.heap[g]?=some (.cells L.toArray e)) (hk:k<L.length):(w.cell? ⟨g,k,none⟩).isSome=true:=by rw [qaZ h,List.getElem?_eq_getElem hk];rfl
theorem qjs {w:World} {base g n c size m:Nat} {e:TypeId} {L:List Value} (h:w.ownsRow base e size (.slice (some ⟨g,0,none⟩) n c) n L) (hm:m≤n) (vs:List Value) (hvs:m*size+vs.length≤c*size) :
  (w.setCells g (m*size) vs).ownsRow base e size (.slice (some ⟨g,0,none⟩) m c) m (L.take (m*size)):=by
 obtain ⟨tl,h1,h2,h3,h4,h5,h6⟩:=qaP h
 have hms:m*size≤n*size:=Nat.mul_le_mul_right size hm
 have hh:=qaH g e vs (m*size) (L++tl) w h1 (by rw [h3];exact hvs)
 unfold over at hh
 rw [List.append_assoc,List.take_append_of_le_length (by omega)] at hh
 refine qey hh (by simp;omega) ?_ (by omega) h5 h6
 have:=qcN (L++tl) (m*size) vs (by rw [h3];exact hvs)
 unfold over at this
 rw [List.append_assoc,List.take_append_of_le_length (by omega)] at this
 rw [this,h3]
theorem qbl {P:Program} (w:World) (dT sT ty elem:TypeId) (i:TypeInfo) (b o dLen dCap:Nat) (sp:Option Addr) (sLen sCap:Nat) (cs:List Value)
  (hu:P.underlying dT=some (.slice elem)) (hi:P.info? elem=some i) (hn:cs.length=Nat.min sLen dLen*i.size) (hsp:sp=none→cs=[])
  (hsrc:∀a,sp=some a→∀j v,cs[j]?=some v→w.cell? (a.add j)=some v) (hc:∀j,j<cs.length→(w.cell? ⟨b,o+j,none⟩).isSome=true) (hf:∀j,j<cs.length→w.frozen? ⟨b,o+j,none⟩=false) (h1:∀v∈cs,v.oneCell'=true) :
  (Builtin.copy_ #[dT,sT] ty #[.slice (some ⟨b,o,none⟩) dLen dCap,.slice sp sLen sCap]).run P w=.ok (goInt (Nat.min sLen dLen)) (w.setCells b o cs):=by
 have hst:=run_storeCells_cells (P:=P) b o cs 0 w (by simpa using hc) (by simpa using hf) h1
 cases sp with
 | none =>
  obtain rfl:=hsp rfl
  simp [Builtin.copy_,run_underlying hu,Builtin.lenOf,Builtin.firstCells,sizeOf,typeInfo,hi,storeCells,World.setCells]
 | some a =>
  have hl:=run_firstCells_some (P:=P) w i.size (Nat.min sLen dLen) a sLen sCap cs hn (hsrc a rfl)
  simp only [Nat.add_zero] at hst
  simp [Builtin.copy_,run_underlying hu,Builtin.lenOf,sizeOf,typeInfo,hi,hl,hst]
end Go.Proofs.YtcegdgmbponapaaGreatDoor