import Derived.Test.YtcegdgmbponapaaGreatDoorPart17
set_option maxRecDepth 100000
set_option maxHeartbeats 4000000
namespace Go.Proofs.YtcegdgmbponapaaGreatDoor
open Go.RowKit
def Cof.spoil (X:List UInt8) (at':Nat) (d:UInt8):List UInt8:=X.set at' (X.getD at' 0^^^d)
theorem Cof.length_spoil (X:List UInt8) (at':Nat) (d:UInt8):(Cof.spoil X at' d).length=X.length:=by simp [Cof.spoil]
attribute [local go_sem ↓] Go.wp_at_zero Go.wp_at_succ
structure Held (w:World) (base V key n B bc:Nat) (sp:Nat→Nat) (down:Nat→Bool) (mode t l size epoch:Nat) (nm:ByteArray) (len:Nat) (X:Nat→List UInt8) (vs:Nat→Value) (xs:Nat→RecV):Prop where
 vt:∃done ahead,Vt w V key n B bc sp done false ahead false
 st:∀i,i<n→Sto w (sp i) (down i) (vs i) [xs i]
 e:∀i,i<n→(xs i).name=nm∧(xs i).mode=mode∧(xs i).t=t∧(xs i).l=l∧(xs i).size=size∧(xs i).epoch=epoch
 sn:∀i,i<n→(xs i).sn=10+nm.size+len+8
 own:∀i,i<n→w.ownsRow base 5 1 (.slice (xs i).sa (xs i).sn (xs i).sc) (xs i).sn (bs (X i))
 xi:∀i j,i<j→j<n→(xs i).blk≠(xs j).blk
 vi:∀i j,i<j→j<n→(vs i).ownBlock≠(vs j).ownBlock
 si:∀i j,i<j→j<n→sp i≠sp j
theorem qiw (S:Nat) (down:Bool) (a:Option Addr) (c:Nat) (rs:List RecV) (r:RecV) (nm:ByteArray) (g p:Nat) (x d:UInt8) (w:World) (h:St w S down a c rs) (hyes:hasName rs nm=true) (hr:r=rs[qai rs nm]!) (hsa:r.sa=some ⟨g,0,none⟩) (_hsn:r.sn≤1000) (hp:p<r.sn)
  (hc:w.cell? ⟨g,p,none⟩=some (.int .u8 x.toNat)) (hf:w.frozen? ⟨g,p,none⟩=false) (hg:g<w.heap.size) :
  Calls Tryz.prog 86 #[.pointer (some ⟨S,0,none⟩),.string nm,.int .i64 p,.int .u8 d.toNat] w fun e w'=>e=.returned .nilIface∧∃w1,Below w.heap.size w w1∧Below w1.heap.size (w1.setCell ⟨g,p,none⟩ (.int .u8 (x^^^d).toNat)) w':=by
 have HREC:=hid (qbD S down a c rs r nm w h hyes hr)
 rw [hsa] at HREC
 have hp':(p:Int)<(r.sn:Int):=by omega
 clear h hyes hr hsa
 go_enter Tryz.func86,Tryz.ntmps86
 go_wp2_with fail
 refine HREC.out.mono ?_
 rintro e w1 ⟨rfl,hb1⟩
 generalize r.sn=sn at *
 have hg1:g<w1.heap.size:=Nat.lt_of_lt_of_le hg hb1.size
 have hgn:g≠w1.heap.size:=by omega
 have c1:w1.cell? ⟨g,p,none⟩=some (.int .u8 x.toNat):=((qbM hb1).1 g p hg).trans hc
 have f1:w1.frozen? ⟨g,p,none⟩=false:=((qbM hb1).2 g p hg).trans hf
 have hpn:¬sn≤p:=by omega
 have hp0:decide ((p:Int)<0)=false:=by simp
 clear hc hf
 go_wp2_with fail
 go_ret
 rw [qaY]
 refine ⟨rfl,w1,hb1,?_⟩
 have:=(Below.refl w1.heap.size (w1.setCell ⟨g,p,none⟩ (.int .u8 (x^^^d).toNat))).alloc (by simp) (.cells #[.string r.name,.int .i64 r.mode,.int .i64 r.t,.int .i64 r.l,.int .i64 r.size,.int .i64 r.epoch,.slice (some ⟨g,0,none⟩) sn r.sc,.slice r.na r.nn r.nc] 152)
 exact this
theorem qiJ (V key n B bc:Nat) (sp:Nat→Nat) (i p:Nat) (d:UInt8) (nm:ByteArray) (w:World) (R:World→Prop) (h:Rdy w V key n B bc sp) (hi:i<n)
  (hs:Calls Tryz.prog 86 #[.pointer (some ⟨sp i,0,none⟩),.string nm,.int .i64 p,.int .u8 d.toNat] w fun e w'=>e=.returned .nilIface∧R w') :
  Calls Tryz.prog 49 #[.pointer (some ⟨V,0,none⟩),.int .i64 i,.string nm,.int .i64 p,.int .u8 d.toNat] w fun e w'=>e=.returned .nilIface∧R w':=by
 have HO:=hid (qb6 V key n B bc sp i w h hi)
 have HS:=hid hs
 clear h hs
 go_enter Tryz.func49,Tryz.ntmps49
 go_wp2_with (go_at_call 84;refine HO.out.mono ?_;rintro e w0 ⟨rfl,rfl⟩)
 refine HS.out.mono ?_
 rintro e w1 ⟨rfl,hr⟩
 have HR:=hid hr
 clear hr
 go_wp2_with (go_at_call 78;refine (at_nil _ _).mono ?_;rintro e w3 ⟨rfl,rfl⟩)
 go_ret
 exact ⟨rfl,HR.out⟩
theorem qi1 (C V i p:Nat) (d:UInt8) (nm:ByteArray) (w:World) (R:World→Prop) (h:Cf w C V)
  (hv:Calls Tryz.prog 49 #[.pointer (some ⟨V,0,none⟩),.int .i64 i,.string nm,.int .i64 p,.int .u8 d.toNat] w fun e w'=>e=.returned .nilIface∧R w') :
  Calls Tryz.prog 23 #[.pointer (some ⟨C,0,none⟩),.int .i64 i,.string nm,.int .i64 p,.int .u8 d.toNat] w fun e w'=>e=.returned (.int .i64 0)∧R w':=by
 have c0:w.cell? ⟨C,0,none⟩=some (.pointer (some ⟨V,0,none⟩)):=cq h rfl
 have HV:=hid hv
 clear h hv
 go_enter Tryz.func23,Tryz.ntmps23
 go_wp2_with fail
 refine HV.out.mono ?_
 rintro e w1 ⟨rfl,hr⟩
 have HR:=hid hr
 clear hr
 go_wp2_with (go_at_call 44;refine (qbY _).mono ?_;rintro e w2 ⟨rfl,rfl⟩)
 go_ret
 exact ⟨rfl,HR.out⟩
theorem qlW (C V i:Nat) (up:Bool) (w:World) (R:World→Prop) (h:Cf w C V)
  (hv:Calls Tryz.prog 46 #[.pointer (some ⟨V,0,none⟩),.int .i64 i,.bool up] w fun e w'=>e=.returned .nilIface∧R w') :
  Calls Tryz.prog 21 #[.pointer (some ⟨C,0,none⟩),.int .i64 i,.bool up] w fun e w'=>e=.returned (.int .i64 0)∧R w':=by
 have c0:w.cell? ⟨C,0,none⟩=some (.pointer (some ⟨V,0,none⟩)):=cq h rfl
 have HV:=hid hv
 clear h hv
 go_enter Tryz.func21,Tryz.ntmps21
 go_wp2_with fail
 refine HV.out.mono ?_
 rintro e w1 ⟨rfl,hr⟩
 have HR:=hid hr
 clear hr
 go_wp2_with (go_at_call 44;refine (qbY _).mono ?_;rintro e w2 ⟨rfl,rfl⟩)
 go_ret
 exact ⟨rfl,HR.out⟩
def takeB (V n i b key mode t l size epoch:Nat) (sa:Option Addr) (sn sc:Nat) (nm:ByteArray):Nat→Value→World→Prop
 | 0,v,_=>v=.pointer (some ⟨V,0,none⟩)
 | 1,v,_=>v=.int .i64 i
 | 2,v,_=>v=.agg #[.string nm,.int .i64 mode,.int .i64 t,.int .i64 l,.int .i64 size,.int .i64 epoch]
 | 3,v,_=>v=.agg #[.string nm,.int .i64 mode,.int .i64 t,.int .i64 l,.int .i64 size,.int .i64 epoch,.int .i64 n,.int .i64 i]
 | 4,v,_=>v=.pointer (some ⟨b,6,none⟩)
 | 5,v,_=>v=.slice sa sn sc
 | 6,v,_=>v=.pointer (some ⟨V,0,none⟩)
 | 7,v,_=>v=.pointer (some ⟨V,0,none⟩)
 | 8,v,_=>v=.pointer (some ⟨V,0,none⟩)
 | 9,v,_=>v=.int .u64 key
 | 10,v,w=>∃ev,v=.tuple #[.slice none 0 0,ev]∧Chain w 12 1 ev
 | 11,v,w=>∃ev,v=.tuple #[.slice none 0 0,ev]∧Chain w 12 1 ev
 | 12,v,_=>v=.slice none 0 0
 | 13,v,w=>Chain w 12 1 v
 | 14,v,_=>v=.slice none 0 0
 | 15,v,w=>Chain w 12 1 v
 | _,_,_=>True
theorem qhd {V n i b key mode t l size epoch:Nat} {sa:Option Addr} {sn sc:Nat} {nm:ByteArray} (j:Nat) (v:Value) (w w':World) (h:takeB V n i b key mode t l size epoch sa sn sc nm j v w) (hb:Below w.heap.size w w'):takeB V n i b key mode t l size epoch sa sn sc nm j v w':=by
 unfold takeB at h ⊢
 split at h
 ·exact h
 ·exact h
 ·exact h
 ·exact h
 ·exact h
 ·exact h
 ·exact h
 ·exact h
 ·exact h
 ·exact h
 ·exact h.imp fun ev h=>⟨h.1,h.2.keeps hb nl⟩
 ·exact h.imp fun ev h=>⟨h.1,h.2.keeps hb nl⟩
 ·exact h
 ·exact h.keeps hb nl
 ·exact h
 ·exact h.keeps hb nl
 ·trivial
theorem qit (V key n B bc:Nat) (sp:Nat→Nat) (i:Nat) (down:Bool) (a:Option Addr) (c:Nat) (rs:List RecV) (r:RecV) (mode t l size epoch:Nat) (nm:ByteArray) (w:World) (h:Rdy w V key n B bc sp) (hi:i<n) (hs:St w (sp i) down a c rs) (hyes:hasName rs nm=true) (hr:r=rs[qai rs nm]!)
  (len:Nat) (hlen:len=Cof.ngroups mode t l size) (X:List UInt8) (hp:qaj mode t l n) (he:epoch≤100) (hz:size≤60) (hn1:1≤nm.size) (hnm:nm.size≤12) (hk:key<18446744073709551616) (hl:len≤60) (hX:Rd w r.sa (bs X)) (hsn:r.sn=X.length) (hsc:r.sn≤r.sc) (hXl:X.length=10+nm.size+len+8) (hbad:¬∃P,Cof.Good key (Cof.head mode t l n i epoch size nm.data.toList) len X P) (hT:Tab w) :
  Calls Tryz.prog 132 #[.pointer (some ⟨V,0,none⟩),.int .i64 i,.agg #[.string nm,.int .i64 mode,.int .i64 t,.int .i64 l,.int .i64 size,.int .i64 epoch]] w fun e w' =>
   ∃ev,e=.returned (.tuple #[.slice none 0 0,ev])∧Chain w' 12 2 ev∧Below w.heap.size w w':=by
 obtain ⟨xb,xo,hsa,_,_⟩:=hX.pos (by rw [qag];omega)
 rw [hsa] at hX
 have HPC:=hid (fun w' hx=>qfc mode t l n i epoch size key len hlen nm xb xo r.sn r.sc X w' hp hi he hz hn1 hnm hk hl hsn hsc (by omega) hx)
 have HX:=hid hX
 have HG:=hid hbad
 have HT:=hid hT
 have HSA:=hid hsa
 have hi8:=hi
 have hba:=(Below.refl w.heap.size w).alloc nl (.cells #[.string nm,.int .i64 mode,.int .i64 t,.int .i64 l,.int .i64 size,.int .i64 epoch] 55)
 have hR:=h.keeps hba nl
 have HR:=hid hR
 have HS:=hid (hs.keeps hba nl)
 have HYES:=hid (And.intro hyes hr)
 have hi':(i:Int)<(n:Int):=by omega
 have HI:=hid (show I64 (i:Int) by have:=h.n8;unfold I64;omega)
 clear h hs hyes hr hp he hz hk hX hsn hsc hbad hT hlen hXl
 go_enter Tryz.func132,Tryz.ntmps132
 go_wp2_with fail
 obtain ⟨w1,hw1⟩:∃w1,w1=w.alloc (.cells #[.string nm,.int .i64 mode,.int .i64 t,.int .i64 l,.int .i64 size,.int .i64 epoch] 55):=⟨_,rfl⟩
 have HOBJ:=hid (show w1.heap[w.heap.size]?=some (.cells #[.string nm,.int .i64 mode,.int .i64 t,.int .i64 l,.int .i64 size,.int .i64 epoch] 55) by rw [hw1];exact alloc_at _ _)
 have o0:w1.cell? ⟨w.heap.size,0,none⟩=some (.string nm):=by rw [hw1];simp
 have lO:w.heap.size<w1.heap.size:=by rw [hw1];simp
 rw [←hw1] at hR HR HS hba ⊢
 clear hw1
 have c1:=hR.va.c1
 have k0:=hR.st i hi
 have lV:=hR.va.lt
 have lB:=hR.va.bl
 clear hR
 have HFX:∀a:Act,(∀x∈[((0:Nat),Value.pointer (some ⟨V,0,none⟩)),(1,.int .i64 i),(5,.pointer (some ⟨w.heap.size,0,none⟩))],a.tmps.getD x.1 undef=x.2)→a.tmps[0]?.getD undef=.pointer (some ⟨V,0,none⟩)∧a.tmps[1]?.getD undef=.int .i64 i∧a.tmps[5]?.getD undef=.pointer (some ⟨w.heap.size,0,none⟩):=by
  intro a h
  simpa using h
 have HCELL:∀w':World,Below w1.heap.size { w1 with drawn:=w1.drawn+1 } w'→w'.cell? ⟨V,1,none⟩=some (.slice (some ⟨B,0,none⟩) n bc)∧w'.cell? ⟨B,i,none⟩=some (.pointer (some ⟨sp i,0,none⟩))∧w'.cell? ⟨w.heap.size,0,none⟩=some (.string nm):=by
  intro w' hb
  exact ⟨(hb.cell lV).trans c1,(hb.cell lB).trans k0,(hb.cell lO).trans o0⟩
 clear c1 k0 o0
 refine qde (by kernel_rfl) qak (askR V B bc n i (sp i) w.heap.size nm r) [(0,.pointer (some ⟨V,0,none⟩)),(1,.int .i64 i),(5,.pointer (some ⟨w.heap.size,0,none⟩))] 47 13 14 [0,1,5] 152 #[.string r.name,.int .i64 r.mode,.int .i64 r.t,.int .i64 r.l,.int .i64 r.size,.int .i64 r.epoch,.slice r.sa r.sn r.sc,.slice r.na r.nn r.nc] #[.string ByteArray.empty,.int .i64 0,.int .i64 0,.int .i64 0,.int .i64 0,.int .i64 0,.slice none 0 0,.slice none 0 0] (.tmp 8) (.tmp 22) (by kernel_rfl) rfl ⟨_,rfl,fun a w=>by go_simp<;>rfl⟩ rfl ⟨_,rfl,rfl,fun a=>rfl,fun a w h=>?_⟩ Tryz.cellsRec (by simp [Value.oneCell']) rfl rfl ?_ (fun j v w w' h _=>qdL h) (fun j v w' b c _ h _=>qdL h) ?_ ?_
 ·have h11:=h ⟨11,.data⟩ (by simp) rfl (by decide) (by decide)
  simp [askR,qak] at h11
  simp [Act.eval]
  exact h11
 ·simp
 ·refine ⟨?_,?_,?_,?_,?_,?_,?_,?_,?_,?_,?_,?_,?_,?_,?_,?_,trivial⟩
  ·refine .inr (.inr fun a w' hb hf hd=>?_)
   obtain ⟨f0,f1,f5⟩:=HFX a hf
   obtain ⟨c1,k0,o0⟩:=HCELL w' hb
   simp [askR,qak,Region.binds] at hd
   exact .inl ⟨.pointer (some ⟨V,0,none⟩),w',by go_simp,bl,rfl⟩
  ·refine .inr (.inr fun a w' hb hf hd=>?_)
   obtain ⟨f0,f1,f5⟩:=HFX a hf
   obtain ⟨c1,k0,o0⟩:=HCELL w' hb
   simp [askR,qak,Region.binds] at hd
   exact .inl ⟨.pointer (some ⟨V,0,none⟩),w',by go_simp,bl,rfl⟩
  ·refine .inr (.inr fun a w' hb hf hd=>?_)
   obtain ⟨f0,f1,f5⟩:=HFX a hf
   obtain ⟨c1,k0,o0⟩:=HCELL w' hb
   simp [askR,qak,Region.binds] at hd
   exact .inl ⟨.pointer (some ⟨V,1,none⟩),w',by go_simp,bl,rfl⟩
  ·refine .inr (.inr fun a w' hb hf hd=>?_)
   obtain ⟨f0,f1,f5⟩:=HFX a hf
   obtain ⟨c1,k0,o0⟩:=HCELL w' hb
   simp [askR,qak,Region.binds] at hd
   exact .inl ⟨.slice (some ⟨B,0,none⟩) n bc,w',by go_simp,bl,rfl⟩
  ·refine .inr (.inr fun a w' hb hf hd=>?_)
   obtain ⟨f0,f1,f5⟩:=HFX a hf
   obtain ⟨c1,k0,o0⟩:=HCELL w' hb
   simp [askR,qak,Region.binds] at hd
   exact .inl ⟨.int .i64 i,w',by go_simp,bl,rfl⟩
  ·refine .inr (.inr fun a w' hb hf hd=>?_)
   obtain ⟨f0,f1,f5⟩:=HFX a hf
   obtain ⟨c1,k0,o0⟩:=HCELL w' hb
   simp [askR,qak,Region.binds] at hd
   exact .inl ⟨.pointer (some ⟨B,i,none⟩),w',by go_simp,bl,rfl⟩
  ·refine .inr (.inr fun a w' hb hf hd=>?_)
   obtain ⟨f0,f1,f5⟩:=HFX a hf
   obtain ⟨c1,k0,o0⟩:=HCELL w' hb
   simp [askR,qak,Region.binds] at hd
   exact .inl ⟨.pointer (some ⟨sp i,0,none⟩),w',by go_simp,bl,rfl⟩
  ·refine .inr (.inr fun a w' hb hf hd=>?_)
   obtain ⟨f0,f1,f5⟩:=HFX a hf
   obtain ⟨c1,k0,o0⟩:=HCELL w' hb
   simp [askR,qak,Region.binds] at hd
   exact .inl ⟨.pointer (some ⟨w.heap.size,0,none⟩),w',by go_simp,bl,rfl⟩
  ·refine .inr (.inr fun a w' hb hf hd=>?_)
   obtain ⟨f0,f1,f5⟩:=HFX a hf
   obtain ⟨c1,k0,o0⟩:=HCELL w' hb
   simp [askR,qak,Region.binds] at hd
   exact .inl ⟨.string nm,w',by go_simp,bl,rfl⟩
  ·refine .inr (.inr fun a w' hb hf hd=>?_)
   obtain ⟨f0,f1,f5⟩:=HFX a hf
   obtain ⟨c1,k0,o0⟩:=HCELL w' hb
   simp [askR,qak,Region.binds] at hd
   refine .inr ⟨85,#[.pointer (some ⟨sp i,0,none⟩),.string nm],by go_simp,(qbD (sp i) down _ c rs r nm w' (HS.out.keeps ((Below.refl w1.heap.size w1).drew.trans hb) nl) HYES.out.1 HYES.out.2).mono ?_⟩
   rintro e w'' ⟨rfl,hb2⟩
   exact ⟨_,rfl,hb2,rfl⟩
  ·refine .inr (.inr fun a w' hb hf hd=>?_)
   obtain ⟨f0,f1,f5⟩:=HFX a hf
   obtain ⟨c1,k0,o0⟩:=HCELL w' hb
   simp [askR,qak,Region.binds] at hd
   exact .inl ⟨.tuple #[.agg #[.string r.name,.int .i64 r.mode,.int .i64 r.t,.int .i64 r.l,.int .i64 r.size,.int .i64 r.epoch,.slice r.sa r.sn r.sc,.slice r.na r.nn r.nc],.nilIface],w',by go_simp,bl,rfl⟩
  ·refine .inr (.inr fun a w' hb hf hd=>?_)
   obtain ⟨f0,f1,f5⟩:=HFX a hf
   obtain ⟨c1,k0,o0⟩:=HCELL w' hb
   simp [askR,qak,Region.binds] at hd
   exact .inl ⟨.agg #[.string r.name,.int .i64 r.mode,.int .i64 r.t,.int .i64 r.l,.int .i64 r.size,.int .i64 r.epoch,.slice r.sa r.sn r.sc,.slice r.na r.nn r.nc],w',by go_simp,bl,rfl⟩
  ·refine .inr (.inr fun a w' hb hf hd=>?_)
   obtain ⟨f0,f1,f5⟩:=HFX a hf
   obtain ⟨c1,k0,o0⟩:=HCELL w' hb
   simp [askR,qak,Region.binds] at hd
   exact .inl ⟨.nilIface,w',by go_simp,bl,rfl⟩
  ·exact .inl rfl
  ·exact .inr (.inl rfl)
  ·refine .inr (.inr fun a w' hb hf hd=>?_)
   obtain ⟨f0,f1,f5⟩:=HFX a hf
   obtain ⟨c1,k0,o0⟩:=HCELL w' hb
   simp [askR,qak,Region.binds] at hd
   exact .inl ⟨.nilIface,w',by go_simp,bl,rfl⟩
 ·intro a1 w2 b hdf hsz hb hf hr hb1 hb2 hb3
  obtain ⟨tm,df⟩:=a1
  simp only at hdf hsz hf hr hb1
  subst hdf
  obtain ⟨u0,u1,u2,u3,u4,u5,u6,u7,u8,u9,u10,u11,u12,u13,u14,u15,u16,u17,u18,u19,u20,u21,u22,u23,u24,u25,u26,u27,u28,u29,u30,u31,u32,u33,u34,u35,u36,u37,u38,u39,u40,u41,u42,u43,u44,u45,u46,rfl⟩:=qkJ tm hsz
  have r15:=hr 15 (by decide) (by decide) (by decide)
  simp [askR,qak] at r15 hb1 hf
  obtain ⟨rfl,rfl,rfl⟩:=hf
  subst r15 hb1
  clear hr hsz
  go_wp2_with fail
  have hb12:Below w1.heap.size w1 w2:=(Below.refl w1.heap.size w1).drew.trans hb
  have hRd:=HR.out.keeps hb12 nl
  have c0:=hRd.va.c0
  have HRD:=hid hRd
  have lV2:=hRd.va.lt
  have hbW:Below w.heap.size w w2:=hba.trans (hb12.mono (by omega))
  have HOB2:=hid (show w2.heap[w.heap.size]?=_ from (hb12.block _ lO).trans HOBJ.out)
  have lb:=cells_lt hb3
  have HFX2:∀a:Act,(∀x∈[((0:Nat),Value.pointer (some ⟨V,0,none⟩)),(1,.int .i64 i),(5,.pointer (some ⟨w.heap.size,0,none⟩)),(8,.pointer (some ⟨b,0,none⟩))],a.tmps.getD x.1 undef=x.2)→a.tmps[0]?.getD undef=.pointer (some ⟨V,0,none⟩)∧a.tmps[1]?.getD undef=.int .i64 i∧a.tmps[5]?.getD undef=.pointer (some ⟨w.heap.size,0,none⟩)∧a.tmps[8]?.getD undef=.pointer (some ⟨b,0,none⟩):=by
   intro a h
   simpa using h
  have HCELL2:∀w':World,Below w2.heap.size { w2 with drawn:=w2.drawn+1 } w'→w'.cell? ⟨V,0,none⟩=some (.int .u64 key)∧w'.cell? ⟨b,6,none⟩=some (.slice r.sa r.sn r.sc)∧w'.cell? ⟨w.heap.size,0,none⟩=some (.string nm)∧w'.cell? ⟨w.heap.size,1,none⟩=some (.int .i64 mode)∧w'.cell? ⟨w.heap.size,2,none⟩=some (.int .i64 t)∧w'.cell? ⟨w.heap.size,3,none⟩=some (.int .i64 l)∧w'.cell? ⟨w.heap.size,4,none⟩=some (.int .i64 size)∧w'.cell? ⟨w.heap.size,5,none⟩=some (.int .i64 epoch):=by
   intro w' hb'
   have lO2:w.heap.size<w2.heap.size:=cells_lt HOB2.out
   have e:∀o,w'.cell? ⟨w.heap.size,o,none⟩=w2.cell? ⟨w.heap.size,o,none⟩:=fun o=>hb'.cell lO2
   exact ⟨(hb'.cell lV2).trans c0,(hb'.cell lb).trans (show w2.cell? ⟨b,6,none⟩=_ by rw [cells_at hb3];rfl),by rw [e,cells_at HOB2.out];rfl,by rw [e,cells_at HOB2.out];rfl,by rw [e,cells_at HOB2.out];rfl,by rw [e,cells_at HOB2.out];rfl,by rw [e,cells_at HOB2.out];rfl,by rw [e,cells_at HOB2.out];rfl⟩
  clear hRd c0 hb3
  refine qbq (by kernel_rfl) qcC (takeB V n i b key mode t l size epoch r.sa r.sn r.sc nm) [(0,.pointer (some ⟨V,0,none⟩)),(1,.int .i64 i),(5,.pointer (some ⟨w.heap.size,0,none⟩)),(8,.pointer (some ⟨b,0,none⟩))] 47 [0,1,5,8] (by kernel_rfl) rfl rfl rfl ?_ qhd ?_ ?_
  ·simp
  ·refine ⟨?_,?_,?_,?_,?_,?_,?_,?_,?_,?_,?_,?_,?_,?_,?_,?_,trivial⟩
   all_goals
    intro a w' hb' hf hd
    obtain ⟨f0,f1,f5,f8⟩:=HFX2 a hf
    obtain ⟨q0,q1,k0,k1,k2,k3,k4,k5⟩:=HCELL2 w' hb'
    simp [takeB,qcC,Region.binds] at hd
    try (refine .inl ⟨_,w',?_,bl,rfl⟩;go_simp;done)
   ·refine .inr ⟨137,#[.pointer (some ⟨V,0,none⟩),.int .i64 i,.agg #[.string nm,.int .i64 mode,.int .i64 t,.int .i64 l,.int .i64 size,.int .i64 epoch]],by go_simp,(qbU V key n B 0 bc sp i mode t l size epoch nm w' (HRD.out.va.keeps ((Below.refl w2.heap.size w2).drew.trans hb') nl)).mono ?_⟩
    rintro e w'' ⟨rfl,hb2'⟩
    exact ⟨_,rfl,hb2',rfl⟩
   ·refine .inr ⟨181,#[.agg #[.string nm,.int .i64 mode,.int .i64 t,.int .i64 l,.int .i64 size,.int .i64 epoch,.int .i64 n,.int .i64 i],.slice r.sa r.sn r.sc,.int .u64 key],by go_simp,?_⟩
    rw [HSA.out]
    refine (HPC.out w' (HX.out.below (hbW.trans (((Below.refl w2.heap.size w2).drew.trans hb').mono hbW.size)) nl)).mono ?_
    rintro e w'' ⟨_,hg,hb2'⟩
    obtain ⟨ev,rfl,hch⟩:=hg HG.out
    exact ⟨_,rfl,hb2',ev,rfl,hch⟩
   ·obtain ⟨ev,h10,hch⟩:=hd
    exact .inl ⟨.tuple #[.slice none 0 0,ev],w',by go_simp,bl,ev,rfl,hch⟩
   ·obtain ⟨ev,h11,hch⟩:=hd
    exact .inl ⟨.slice none 0 0,w',by go_simp,bl,rfl⟩
   ·obtain ⟨ev,h11,hch⟩:=hd
    exact .inl ⟨ev,w',by go_simp,bl,hch⟩
   ·exact .inl ⟨a.tmps[42]?.getD undef,w',by go_simp,bl,hd.1⟩
  ·intro a2 w3 hdf hsz hb' hf hr
   obtain ⟨tm2,df2⟩:=a2
   simp only at hdf hsz hf hr
   subst hdf
   obtain ⟨x0,x1,x2,x3,x4,x5,x6,x7,x8,x9,x10,x11,x12,x13,x14,x15,x16,x17,x18,x19,x20,x21,x22,x23,x24,x25,x26,x27,x28,x29,x30,x31,x32,x33,x34,x35,x36,x37,x38,x39,x40,x41,x42,x43,x44,x45,x46,rfl⟩:=qkJ tm2 hsz
   have r14:=hr 14 (by decide)
   have r15:=hr 15 (by decide)
   simp [takeB,qcC] at r14 r15 hf
   obtain ⟨rfl,rfl,rfl,rfl⟩:=hf
   subst r14
   obtain ⟨te,ve,rfl⟩:=r15.shape
   have H15:=hid r15
   have hb23:Below w2.heap.size w2 w3:=(Below.refl w2.heap.size w2).drew.trans hb'
   have hbW3:=hbW.trans (hb23.mono hbW.size)
   have HT3:=hid (HT.out.keeps hbW3 nl)
   clear hr hsz r15 HFX HFX2 HCELL HCELL2
   go_wp2_with (go_at_call 136;refine (qbL _ _ 12 1 _ HI.out HT3.out H15.out).mono ?_;rintro e w4 ⟨e4,rfl,hc4,hb4⟩;(have H4:=hid hc4);clear hc4)
   go_ret2
   exact ⟨_,rfl,H4.out,hbW3.trans (hb4.mono hbW3.size)⟩
def qd7 (key mode t l n epoch size:Nat) (nm:ByteArray) (len:Nat) (down bad:Nat→Bool) (X P:Nat→List UInt8):Prop :=
 ∀i,i<n→down i=false→(bad i=false→Cof.Good key (Cof.head mode t l n i epoch size nm.data.toList) len (X i) (P i))∧(bad i=true→¬∃Q,Cof.Good key (Cof.head mode t l n i epoch size nm.data.toList) len (X i) Q)
theorem qjR (C V d:Nat) (k:Int) (nm:ByteArray) (w:World) (h:Cf w C V) (hd:d≤10) (hE:qaJ w)
  (hv:Calls Tryz.prog 50 #[.pointer (some ⟨V,0,none⟩),.string nm] w fun e w'=>∃ev,e=.returned (.tuple #[.slice none 0 0,ev])∧Chain w' k d ev∧Below w.heap.size w w') :
  Calls Tryz.prog 24 #[.pointer (some ⟨C,0,none⟩),.string nm] w fun e w'=>e=.returned (.tuple #[.string ByteArray.empty,.int .i64 k])∧Below w.heap.size w w':=by
 have c0:w.cell? ⟨C,0,none⟩=some (.pointer (some ⟨V,0,none⟩)):=cq h rfl
 have HV:=hid hv
 have HE:=hid hE
 clear h hv hE
 go_enter Tryz.func24,Tryz.ntmps24
 go_wp2_with fail
 refine HV.out.mono ?_
 rintro e w1 ⟨ev,rfl,hch,hb1⟩
 have HCH:=hid hch
 clear hch
 go_wp2_with (go_at_call 47;refine (qkh _ _ k d _ HCH.out hd (HE.out.keeps hb1 nl)).mono ?_;rintro e w2 ⟨rfl,hb2⟩)
 go_ret2
 exact ⟨rfl,hb1.trans (hb2.mono hb1.size)⟩
end Go.Proofs.YtcegdgmbponapaaGreatDoor