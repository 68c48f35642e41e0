import Derived.Test.YtcegdgmbponapaaGreatDoorWJoin
set_option maxRecDepth 100000
set_option maxHeartbeats 4000000
namespace Go.Proofs.YtcegdgmbponapaaGreatDoor
open Go.RowKit
attribute [local go_sem ↓] Go.wp_at_zero Go.wp_at_succ
def upTo (down:Nat→Bool) (k:Nat):List Nat:=(List.range k).filter fun i=>!down i
theorem qfB (down:Nat→Bool) (k:Nat) (h:down k=false):upTo down (k+1)=upTo down k++[k]:=by
 unfold upTo
 rw [List.range_succ,List.filter_append]
 simp [h]
theorem qf7 (down:Nat→Bool) (k:Nat) (h:down k=true):upTo down (k+1)=upTo down k:=by
 unfold upTo
 rw [List.range_succ,List.filter_append]
 simp [h]
theorem qfs (down:Nat→Bool) (k:Nat):(upTo down k).length≤k:=by
 unfold upTo
 exact Nat.le_trans (List.length_filter_le _ _) (by simp)
theorem ql3 (rows:List (List UInt8)) (ss:List Nat) (s:Nat):pcs rows (ss++[s])=pcs rows ss++[.int .i64 s,str (rows.getD s [])]:=by
 unfold pcs
 rw [List.flatMap_append]
 rfl
theorem qeR {w:World} {base m:Nat} {e:TypeId} {v:Value} {rows:List (List UInt8)} {ss:List Nat} (h:w.ownsRow base e 2 v m (pcs rows ss)):∃a c,v=.slice a m c∧m≤c∧PRd w a ss (ss.map fun s=>(⟨(rows.getD s []).toArray⟩:ByteArray)):=by
 obtain ⟨a,c,rfl,hrd⟩:=qad h
 refine ⟨a,c,rfl,qjg h,fun i hi=>?_⟩
 obtain ⟨h1,h2⟩:=pcs_at rows ss i hi
 obtain ⟨b,o,e1,e2,e3⟩:=hrd _ _ h1
 obtain ⟨b',o',e1',_,e3'⟩:=hrd _ _ h2
 rw [e1] at e1'
 obtain ⟨rfl,rfl⟩:=(by simpa using e1':b=b'∧o=o')
 refine ⟨b,o,e1,e2,?_,?_⟩
 ·rw [e3];simp [hi]
 ·rw [Nat.add_assoc,e3'];simp [hi,str]
def Cf (w:World) (C V:Nat):Prop:=w.heap[C]?=some (.cells #[.pointer (some ⟨V,0,none⟩)] 100)
theorem Cf.keeps {own:Nat→Prop} {w w':World} {C V:Nat} (h:Cf w C V) (hs:qaa own w w') (ho:¬own C):Cf w' C V:=hs.heap h ho
theorem qbY (w:World):Calls Tryz.prog 44 #[.nilIface] w fun e w'=>e=.returned (.int .i64 0)∧w'=w:=by
 go_enter Tryz.func44,Tryz.ntmps44
 go_wp2
 go_ret
 exact ⟨rfl,rfl⟩
theorem qlK (C V size:Nat) (nm:ByteArray) (J:List UInt8) (w:World) (h:Cf w C V) (hJ:size=J.length)
  (hv:Calls Tryz.prog 50 #[.pointer (some ⟨V,0,none⟩),.string nm] w fun e w'=>∃av cv,e=.returned (.tuple #[.slice av size cv,.nilIface])∧Rd w' av (bs J)∧Below w.heap.size w w') :
  Calls Tryz.prog 24 #[.pointer (some ⟨C,0,none⟩),.string nm] w fun e w'=>e=.returned (.tuple #[.string ⟨J.toArray⟩,.int .i64 0])∧Below w.heap.size w w':=by
 have c0:w.cell? ⟨C,0,none⟩=some (.pointer (some ⟨V,0,none⟩)):=cq h rfl
 have HV:=hid hv
 have HJ:=hid hJ
 clear h hv hJ
 go_enter Tryz.func24,Tryz.ntmps24
 go_wp2_with fail
 refine HV.out.mono ?_
 rintro e w1 ⟨av,cv,rfl,hrd,hb1⟩
 have HRD:=hid hrd
 clear hrd
 go_wp2_with (go_at_call 47;refine (qko av cv size J _ HJ.out HRD.out).mono ?_;rintro e w2 ⟨rfl,rfl⟩)
 go_ret2
 exact ⟨rfl,hb1⟩
theorem qjA (C V i m:Nat) (nm:ByteArray) (X:List UInt8) (w:World) (h:Cf w C V) (hm:m=X.length)
  (hv:Calls Tryz.prog 48 #[.pointer (some ⟨V,0,none⟩),.int .i64 i,.string nm] w fun e w'=>∃av cv,e=.returned (.tuple #[.slice av m cv,.nilIface])∧Rd w' av (bs X)∧Below w.heap.size w w') :
  Calls Tryz.prog 22 #[.pointer (some ⟨C,0,none⟩),.int .i64 i,.string nm] w fun e w'=>e=.returned (.tuple #[.string ⟨X.toArray⟩,.int .i64 0])∧Below w.heap.size w w':=by
 have c0:w.cell? ⟨C,0,none⟩=some (.pointer (some ⟨V,0,none⟩)):=cq h rfl
 have HV:=hid hv
 have HJ:=hid hm
 clear h hv hm
 go_enter Tryz.func22,Tryz.ntmps22
 go_wp2_with fail
 refine HV.out.mono ?_
 rintro e w1 ⟨av,cv,rfl,hrd,hb1⟩
 have HRD:=hid hrd
 clear hrd
 go_wp2_with (go_at_call 47;refine (qko av cv m X _ HJ.out HRD.out).mono ?_;rintro e w2 ⟨rfl,rfl⟩)
 go_ret2
 exact ⟨rfl,hb1⟩
theorem qeu.parts {w w1:World} {key n:Nat} {ps:List Nat} {v:Value} (h:qeu w key n ps v w1) (h1:1≤n):∃B bc,Vt w1 w.heap.size key n B bc (fun i=>ps[i]!) 0 false 0 false∧(∀i,i<n→Sto w1 (ps[i]!) false (.slice none 0 0) [])∧(∀i j,i<j→j<n→ps[i]! ≠ ps[j]!)∧w.heap.size≤B∧∀i,i<n→w.heap.size≤ps[i]! := by
 obtain ⟨g,cap,rfl,hg1,hg2⟩:=qb4 h.row (by omega)
 have hlen:=h.len
 rcases h.row with ⟨_,⟨hx,_⟩|⟨g',cap',cur,hv,_,h4,_,_,_,h8⟩⟩
 ·cases hx
 ·cases hv
  have hmem:∀i,i<n→ps[i]! ∈ ps:=fun i hi=>by rw [getElem!_pos ps i (by omega)];exact List.getElem_mem _
  refine ⟨g,cap,⟨h.hp,cur,h4,fun i hi=>?_⟩,fun i hi=>⟨(h.st _ (hmem i hi)).1,⟨rfl,.inl ⟨rfl,rfl⟩⟩,qhW,by simp⟩,fun i j hij hj e=>?_,hg1,fun i hi=>Nat.le_of_lt (h.st _ (hmem i hi)).2⟩
  ·have e1:(cur.toList.take (n*1))[i]?=(ptrs ps)[i]?:=by rw [h8]
   rw [List.getElem?_take,if_pos (by omega)] at e1
   rw [←Array.getElem?_toList,e1,getElem!_pos ps i (by omega)]
   simp [ptrs,show i<ps.length by omega]
  ·rw [getElem!_pos ps i (by omega),getElem!_pos ps j (by omega)] at e
   exact List.pairwise_iff_getElem.1 h.nd i j (by omega) (by omega) hij e
theorem qf4 (tape:ByteArray) (need:Nat) (w:World) (h:tape.size<need) (hn:need≤1000) (hT:Tab w) :
  Calls Tryz.prog 92 #[.string tape,.int .i64 need] w fun e w'=>∃ev,e=.returned ev∧Chain w' 7 1 ev∧Below w.heap.size w w':=by
 have h1:¬(need:Int)≤(tape.size:Int):=by omega
 have HS:=hid (show I64 (tape.size:Int) by unfold I64;omega)
 go_enter Tryz.func92,Tryz.ntmps92
 go_wp2_with (go_at_call 130;refine (qa9 _ _ _ 7 0 _ HS.out (by decide) hT .hit).mono ?_;rintro e w3 ⟨ev,rfl,hch,hb3⟩)
 go_ret
 exact ⟨_,rfl,hch,hb3⟩
theorem qdd (mode t l n:Nat) (v tape:ByteArray) (w:World) (hT:Tab w) (h:qaj mode t l n) (hv:v.size≤60) (hsh:tape.size<Cof.tsize mode t*Cof.ngroups mode t l v.size) :
  Calls Tryz.prog 53 #[.string v,.agg #[.int .i64 mode,.int .i64 t,.int .i64 l],.int .i64 n,.string tape] w fun e w' =>
   ∃ev,e=.returned (.tuple #[.slice none 0 0,ev])∧Chain w' 7 2 ev∧Below w.heap.size w w':=by
 have hng:=qao h v.size hv
 have hts:Cof.tsize mode t≤8:=by obtain ⟨_,_,_,_,_,h6⟩:=h;unfold Cof.tsize;split<;>omega
 have hba:=(Below.refl w.heap.size w).alloc nl (.cells #[.int .i64 mode,.int .i64 t,.int .i64 l] 29)
 have HT:=hid (hT.keeps hba nl)
 clear hT
 go_enter Tryz.func53,Tryz.ntmps53
 go_wp2_with fail
 refine (qbx mode t l n v.size _ h hv).mono ?_
 rintro e w1 ⟨ag,cg,at',ct,rfl,hlay,hb1⟩
 generalize Cof.gsize mode t l=gs at *
 generalize Cof.tsize mode t=ts at *
 generalize Cof.ngroups mode t l v.size=ng at *
 have hbl:=(Below.refl w1.heap.size w1).alloc nl (.cells #[.slice ag gs cg,.slice at' ts ct,.int .i64 ng] 165)
 have HT1:=hid ((HT.out.keeps hb1 nl).keeps hbl nl)
 have hb01:Below w.heap.size w w1:=hba.trans (hb1.mono (by simp))
 have hq480:ts*ng≤8*60:=Nat.mul_le_mul hts hng
 clear hlay h hb1
 go_wp2_with fail
 refine (qcr ag at' gs cg ts ct ng _ hts hng).mono ?_
 rintro e w2 ⟨rfl,hb2⟩
 have HT2:=hid (HT1.out.keeps hb2 nl)
 generalize ts*ng=need at *
 have HSH:=hid hsh
 clear hsh
 go_wp2_with fail
 refine (qf4 tape need _ HSH.out (by omega) HT2.out).mono ?_
 rintro e w3 ⟨ev,rfl,hch,hb3⟩
 obtain ⟨te,ve,rfl⟩:=hch.shape
 have HC:=hid hch
 clear hch
 go_wp2_with (go_at_call 78;refine (qav _ _ 7 1 _ HC.out).mono ?_;rintro e w4 ⟨ev,rfl,hch,hb4⟩)
 go_ret2
 have z1:=hb01.size
 have z2:=hb2.size
 have z3:=hb3.size
 simp at z2
 exact ⟨_,rfl,hch,(((hb01.trans (hbl.mono z1)).trans (hb2.mono (by simp;omega))).trans (hb3.mono (by omega))).trans (hb4.mono (by omega))⟩
theorem qjt (V key n b o c:Nat) (sp:Nat→Nat) (s:Nat) (mode t l size epoch:Int) (name:ByteArray) (w:World) (h:Va w V key n b o c sp) :
  Calls Tryz.prog 137 #[.pointer (some ⟨V,0,none⟩),.int .i64 s,.agg #[.string name,.int .i64 mode,.int .i64 t,.int .i64 l,.int .i64 size,.int .i64 epoch]] w fun e w' =>
   e=.returned (.agg #[.string name,.int .i64 mode,.int .i64 t,.int .i64 l,.int .i64 size,.int .i64 epoch,.int .i64 n,.int .i64 s])∧Below w.heap.size w w':=by
 have hlt:=h.lt
 have hne:¬V=w.heap.size:=by omega
 have hne1:¬V=w.heap.size+1:=by omega
 have c1:=h.c1
 clear h
 go_enter Tryz.func137,Tryz.ntmps137
 go_wp2_with fail
 go_region
 go_wp2_with fail
 refine bodyPost_ret (v:=.agg #[.string name,.int .i64 mode,.int .i64 t,.int .i64 l,.int .i64 size,.int .i64 epoch,.int .i64 n,.int .i64 s]) ?_ rfl ⟨rfl,(((Below.refl _ _).alloc nl _).alloc (by simp) _).drew⟩
 simp [results,Tryz.results137,go_sem]
theorem qcz (V key n B bc:Nat) (sp:Nat→Nat) (m t l size k:Int) (d:Nat) (nm:ByteArray) (w:World) (h:Rdy w V key n B bc sp) (hT:Tab w)
  (hl:∀w,Tab w→Calls Tryz.prog 210 #[.agg #[.string nm,.int .i64 m,.int .i64 t,.int .i64 l,.int .i64 size,.int .i64 0,.int .i64 n,.int .i64 0]] w fun e w'=>∃x ev,e=.returned (.tuple #[.int .i64 x,ev])∧Chain w' k d ev∧Below w.heap.size w w') :
  Calls Tryz.prog 170 #[.pointer (some ⟨V,0,none⟩),.agg #[.string nm,.int .i64 m,.int .i64 t,.int .i64 l,.int .i64 size,.int .i64 0]] w fun e w'=>∃ev,e=.returned ev∧Chain w' k d ev∧Below w.heap.size w w':=by
 have hba:=(Below.refl w.heap.size w).alloc nl (.cells #[.string nm,.int .i64 m,.int .i64 t,.int .i64 l,.int .i64 size,.int .i64 0] 55)
 have hR:=h.keeps hba nl
 have c5:=hR.c5
 have HC:=hid (qba V _ c5)
 have HLB:=hid (qjt V key n B 0 bc sp 0 m t l size 0 nm _ hR.va)
 have HLN:=hid hl
 have HT:=hid (hT.keeps hba nl)
 have hVlt:¬V=w.heap.size:=by have:=h.va.lt;omega
 clear h hl hR hT
 go_enter Tryz.func170,Tryz.ntmps170
 go_wp2_with (first | (go_at_call 88;refine HC.out.mono ?_;rintro e w0 ⟨rfl,rfl⟩))
 refine HLB.out.mono ?_
 rintro e w1 ⟨rfl,hb1⟩
 have hb01:Below w.heap.size w w1:=hba.trans (hb1.mono (by simp))
 go_wp2_with fail
 refine (HLN.out w1 (HT.out.keeps hb1 nl)).mono ?_
 rintro e w2 ⟨x,ev,rfl,hch,hb2⟩
 obtain ⟨te,ve,rfl⟩:=hch.shape
 have HCH:=hid hch
 clear hch
 go_wp2_with fail
 go_ret
 exact ⟨_,rfl,HCH.out,hb01.trans (hb2.mono hb01.size)⟩
theorem qe4 (V key n B bc:Nat) (sp:Nat→Nat) (down:Bool) (v:Value) (rs:List RecV) (mode t l size:Nat) (nm:ByteArray) (w:World) (h:Rdy w V key n B bc sp) (hs:Sto w (sp 0) down v rs) (hyes:hasName rs nm=true)
  (hp:qaj mode t l n) (hz:size≤60) (h1:1≤nm.size) (h12:nm.size≤12) (hng:Cof.ngroups mode t l size≤60) :
  Calls Tryz.prog 170 #[.pointer (some ⟨V,0,none⟩),.agg #[.string nm,.int .i64 mode,.int .i64 t,.int .i64 l,.int .i64 size,.int .i64 0]] w fun e w'=>∃ev,e=.returned ev∧Chain w' 5 1 ev∧Below w.heap.size w w':=by
 have hba:=(Below.refl w.heap.size w).alloc nl (.cells #[.string nm,.int .i64 mode,.int .i64 t,.int .i64 l,.int .i64 size,.int .i64 0] 55)
 have hR:=h.keeps hba nl
 have c5:=hR.c5
 have HC:=hid (qba V _ c5)
 have HLB:=hid (qbU V key n B 0 bc sp 0 mode t l size 0 nm _ hR.va)
 have HLN:=hid (fun w'=>qf3 mode t l n 0 0 size nm w' hp hz h1 h12 hng)
 have HS:=hid hs
 have HR:=hid hR
 have HYES:=hid hyes
 have hVlt:¬V=w.heap.size:=by have:=h.va.lt;omega
 generalize Cof.ngroups mode t l size=ng at *
 clear h hs hyes hp hz hR
 go_enter Tryz.func170,Tryz.ntmps170
 go_wp2_with (first | (go_at_call 88;refine HC.out.mono ?_;rintro e w0 ⟨rfl,rfl⟩))
 refine HLB.out.mono ?_
 rintro e w1 ⟨rfl,hb1⟩
 have hb01:Below w.heap.size w w1:=hba.trans (hb1.mono (by simp))
 have hz1:w.heap.size<w1.heap.size:=by have:=hb1.size;simp at this;omega
 have e1:∀o,w1.cell? ⟨w.heap.size,o,none⟩=(w.alloc (.cells #[.string nm,.int .i64 mode,.int .i64 t,.int .i64 l,.int .i64 size,.int .i64 0] 55)).cell? ⟨w.heap.size,o,none⟩:=fun o=>hb1.cell (by simp)
 have o1:w1.cell? ⟨w.heap.size,0,none⟩=some (.string nm):=by rw [e1];simp
 have HR1:=hid (HR.out.keeps hb1 nl)
 clear e1
 go_wp2_with fail
 refine (HLN.out w1).mono ?_
 rintro e w2 ⟨rfl,hb2⟩
 have hb02:=hb01.trans (hb2.mono hb01.size)
 have o2:w2.cell? ⟨w.heap.size,0,none⟩=some (.string nm):=(hb2.cell hz1).trans o1
 have HR2:=hid (HR1.out.keeps hb2 nl)
 have HS2:=hid (HS.out.keeps (qaa.ofBelow (own:=fun _=>False) hb02 nl) (fun h=>h) (fun _ _ h=>h))
 obtain ⟨a,c,hv,hst⟩:=HS2.out.st
 have hz2:w.heap.size<w2.heap.size:=Nat.lt_of_lt_of_le hz1 hb2.size
 have HOB:=hid (qbB V key n B bc sp down a c rs _ nm w2 HR2.out hst HYES.out rfl)
 generalize rs[qai rs nm]! = r at *
 clear hst hv
 go_wp2_with fail
 refine HOB.out.mono ?_
 rintro e w3 ⟨rfl,hb3⟩
 have hb03:=hb02.trans (hb3.mono hb02.size)
 have o3:w3.cell? ⟨w.heap.size,0,none⟩=some (.string nm):=(hb3.cell hz2).trans o2
 have hz3:w.heap.size<w3.heap.size:=Nat.lt_of_lt_of_le hz2 hb3.size
 have hba4:=(Below.refl w3.heap.size w3).alloc nl (.cells #[.string r.name,.int .i64 r.mode,.int .i64 r.t,.int .i64 r.l,.int .i64 r.size,.int .i64 r.epoch] 55)
 go_wp2_with (first | (go_at_call 211;refine (Is_nil 9 _).mono ?_;rintro e w4 ⟨rfl,rfl⟩)|(go_at_call 78;refine (qav _ _ 5 0 _ .hit).mono ?_;rintro e w5 ⟨e5,rfl,hch5,hb5⟩))
 go_ret
 have hb04:=hb03.trans (hba4.mono hb03.size)
 exact ⟨_,rfl,hch5,hb04.trans (hb5.mono hb04.size)⟩
theorem qf6 (V key n B bc:Nat) (sp:Nat→Nat) (down:Bool) (v:Value) (rs:List RecV) (mode t l size:Nat) (nm:ByteArray) (w:World) (h:Rdy w V key n B bc sp) (hs:Sto w (sp 0) down v rs) (hno:hasName rs nm=false) (hfull:¬rs.length<10)
  (hp:qaj mode t l n) (hz:size≤60) (h1:1≤nm.size) (h12:nm.size≤12) (hng:Cof.ngroups mode t l size≤60) (hT:Tab w) :
  Calls Tryz.prog 170 #[.pointer (some ⟨V,0,none⟩),.agg #[.string nm,.int .i64 mode,.int .i64 t,.int .i64 l,.int .i64 size,.int .i64 0]] w fun e w'=>∃ev,e=.returned ev∧Chain w' 6 1 ev∧Below w.heap.size w w':=by
 have hba:=(Below.refl w.heap.size w).alloc nl (.cells #[.string nm,.int .i64 mode,.int .i64 t,.int .i64 l,.int .i64 size,.int .i64 0] 55)
 have hR:=h.keeps hba nl
 have c5:=hR.c5
 have HC:=hid (qba V _ c5)
 have HLB:=hid (qbU V key n B 0 bc sp 0 mode t l size 0 nm _ hR.va)
 have HLN:=hid (fun w'=>qf3 mode t l n 0 0 size nm w' hp hz h1 h12 hng)
 have HS:=hid hs
 have HR:=hid hR
 have HNO:=hid hno
 have HT:=hid hT
 have hVlt:¬V=w.heap.size:=by have:=h.va.lt;omega
 have hfull':(10:Int)≤(rs.length:Int):=by omega
 have HI:=hid (show I64 (rs.length:Int) by have:=hs.le;unfold I64;omega)
 generalize Cof.ngroups mode t l size=ng at *
 clear h hs hno hp hz hR hfull hT
 go_enter Tryz.func170,Tryz.ntmps170
 go_wp2_with (first | (go_at_call 88;refine HC.out.mono ?_;rintro e w0 ⟨rfl,rfl⟩))
 refine HLB.out.mono ?_
 rintro e w1 ⟨rfl,hb1⟩
 have hb01:Below w.heap.size w w1:=hba.trans (hb1.mono (by simp))
 have hz1:w.heap.size<w1.heap.size:=by have:=hb1.size;simp at this;omega
 have e1:∀o,w1.cell? ⟨w.heap.size,o,none⟩=(w.alloc (.cells #[.string nm,.int .i64 mode,.int .i64 t,.int .i64 l,.int .i64 size,.int .i64 0] 55)).cell? ⟨w.heap.size,o,none⟩:=fun o=>hb1.cell (by simp)
 have o1:w1.cell? ⟨w.heap.size,0,none⟩=some (.string nm):=by rw [e1];simp
 have HR1:=hid (HR.out.keeps hb1 nl)
 clear e1
 go_wp2_with fail
 refine (HLN.out w1).mono ?_
 rintro e w2 ⟨rfl,hb2⟩
 have hb02:=hb01.trans (hb2.mono hb01.size)
 have o2:w2.cell? ⟨w.heap.size,0,none⟩=some (.string nm):=(hb2.cell hz1).trans o1
 have HR2:=hid (HR1.out.keeps hb2 nl)
 have HS2:=hid (HS.out.keeps (qaa.ofBelow (own:=fun _=>False) hb02 nl) (fun h=>h) (fun _ _ h=>h))
 obtain ⟨a,c,hv,hst⟩:=HS2.out.st
 have hz2:w.heap.size<w2.heap.size:=Nat.lt_of_lt_of_le hz1 hb2.size
 go_wp2_with fail
 refine (qev V key n B bc sp down a c rs nm w2 HR2.out hst HNO.out).mono ?_
 rintro e w3 ⟨ev,rfl,hch,hb3⟩
 have hb03:=hb02.trans (hb3.mono hb02.size)
 have o3:w3.cell? ⟨w.heap.size,0,none⟩=some (.string nm):=(hb3.cell hz2).trans o2
 obtain ⟨te,ve,rfl⟩:=hch.shape
 have HCH:=hid hch
 have HR3:=hid (HR2.out.keeps hb3 nl)
 have HS3:=hid (HS2.out.keeps (qaa.ofBelow (own:=fun _=>False) hb3 nl) (fun h=>h) (fun _ _ h=>h))
 clear hch hst hv
 go_wp2_with fail
 have hba4:=(Below.refl w3.heap.size w3).alloc nl (.cells #[.string ByteArray.empty,.int .i64 0,.int .i64 0,.int .i64 0,.int .i64 0,.int .i64 0] 55)
 refine (qlm 9 9 _ 1 _ (HCH.out.keeps hba4 nl) (by decide)).mono ?_
 rintro e w4 ⟨rfl,rfl⟩
 have HV:=hid (qc8 V key n B bc sp down v rs _ (HR3.out.keeps hba4 nl) (HS3.out.keeps (qaa.ofBelow (own:=fun _=>False) hba4 nl) (fun h=>h) (fun _ _ h=>h)))
 have hb04:=hb03.trans (hba4.mono hb03.size)
 go_wp2_with fail
 refine HV.out.mono ?_
 rintro e w5 ⟨ov,rfl,hown,hb5⟩
 obtain ⟨oa,oc,rfl,_⟩:=qad hown
 have hb05:=hb04.trans (hb5.mono hb04.size)
 have HT5:=hid (HT.out.keeps hb05 nl)
 clear hown
 go_wp2_with (go_at_call 130;refine (qa9 (rs.length:Int) _ _ 6 0 _ HI.out (by decide) HT5.out .hit).mono ?_;rintro e w6 ⟨e6,rfl,hch6,hb6⟩)
 go_ret
 exact ⟨_,rfl,hch6,hb05.trans (hb6.mono hb05.size)⟩
theorem ql9 (V:Nat) (m t l size k:Int) (d:Nat) (nm vl tape:ByteArray) (w:World)
  (hc:∀w',Below w.heap.size w w'→Calls Tryz.prog 170 #[.pointer (some ⟨V,0,none⟩),.agg #[.string nm,.int .i64 m,.int .i64 t,.int .i64 l,.int .i64 size,.int .i64 0]] w' fun e w''=>∃ev,e=.returned ev∧Chain w'' k d ev∧Below w'.heap.size w' w'') :
  Calls Tryz.prog 125 #[.pointer (some ⟨V,0,none⟩),.agg #[.string nm,.int .i64 m,.int .i64 t,.int .i64 l,.int .i64 size,.int .i64 0],.string vl,.string tape] w fun e w' =>
   ∃a x c ev,e=.returned (.tuple #[.slice a x c,ev])∧Chain w' k d ev∧Below w.heap.size w w':=by
 have hba:=(Below.refl w.heap.size w).alloc nl (.cells #[.string nm,.int .i64 m,.int .i64 t,.int .i64 l,.int .i64 size,.int .i64 0] 55)
 have HC:=hid (hc _ hba)
 clear hc
 go_enter Tryz.func125,Tryz.ntmps125
 go_wp2_with fail
 refine HC.out.mono ?_
 rintro e w1 ⟨ev,rfl,hch,hb1⟩
 obtain ⟨te,ve,rfl⟩:=hch.shape
 have HCH:=hid hch
 clear hch
 go_wp2_with fail
 go_ret2
 exact ⟨_,_,_,_,rfl,HCH.out,hba.trans (hb1.mono (by simp))⟩
theorem qk6 (V key n B bc:Nat) (sp:Nat→Nat) (down:Bool) (v:Value) (rs:List RecV) (mode t l size:Nat) (nm vl tape:ByteArray) (w:World) (h:Rdy w V key n B bc sp) (hs:Sto w (sp 0) down v rs) (hno:hasName rs nm=false) (hfew:rs.length<10)
  (hp:qaj mode t l n) (hz:size≤60) (hvs:vl.size=size) (h1:1≤nm.size) (h12:nm.size≤12) (hng:Cof.ngroups mode t l size≤60) (htp:tape.size<Cof.tsize mode t*Cof.ngroups mode t l size) (hT:Tab w) :
  Calls Tryz.prog 125 #[.pointer (some ⟨V,0,none⟩),.agg #[.string nm,.int .i64 mode,.int .i64 t,.int .i64 l,.int .i64 size,.int .i64 0],.string vl,.string tape] w fun e w' =>
   ∃a x c ev,e=.returned (.tuple #[.slice a x c,ev])∧Chain w' 7 2 ev∧Below w.heap.size w w':=by
 have hba:=(Below.refl w.heap.size w).alloc nl (.cells #[.string nm,.int .i64 mode,.int .i64 t,.int .i64 l,.int .i64 size,.int .i64 0] 55)
 have HCN:=hid (qcU V key n B bc sp down v rs mode t l size nm _ (h.keeps hba nl) (hs.keeps (qaa.ofBelow (own:=fun _=>False) hba nl) (fun h=>h) (fun _ _ h=>h)) hno hfew hp hz h1 h12 hng)
 have HSP:=hid (fun w' hT'=>qdd mode t l n vl tape w' hT' hp (by omega) (by rw [hvs];exact htp))
 have HR:=hid h
 have HT:=hid hT
 clear h hs hno hfew hp hz hvs hng htp h1 h12 hT
 go_enter Tryz.func125,Tryz.ntmps125
 go_wp2_with fail
 refine HCN.out.mono ?_
 rintro e w1 ⟨rfl,hb1⟩
 have hb01:Below w.heap.size w w1:=hba.trans (hb1.mono (by simp))
 have hz1:w.heap.size<w1.heap.size:=by have:=hb1.size;simp at this;omega
 have e1:∀o,w1.cell? ⟨w.heap.size,o,none⟩=(w.alloc (.cells #[.string nm,.int .i64 mode,.int .i64 t,.int .i64 l,.int .i64 size,.int .i64 0] 55)).cell? ⟨w.heap.size,o,none⟩:=fun o=>hb1.cell (by simp)
 have o1:w1.cell? ⟨w.heap.size,1,none⟩=some (.int .i64 mode):=by rw [e1];simp
 have o2:w1.cell? ⟨w.heap.size,2,none⟩=some (.int .i64 t):=by rw [e1];simp
 have o3:w1.cell? ⟨w.heap.size,3,none⟩=some (.int .i64 l):=by rw [e1];simp
 have HR1:=hid (HR.out.keeps hb01 nl)
 have c1:=HR1.out.va.c1
 have lV:=HR1.out.va.lt
 have HT1:=hid (HT.out.keeps hb01 nl)
 clear e1
 go_wp2_with fail
 go_region_held3 (fun w'=>w'.cell? ⟨V,1,none⟩=some (.slice (some ⟨B,0,none⟩) n bc)∧w'.cell? ⟨w.heap.size,1,none⟩=some (.int .i64 mode)∧w'.cell? ⟨w.heap.size,2,none⟩=some (.int .i64 t)∧w'.cell? ⟨w.heap.size,3,none⟩=some (.int .i64 l)) (first | exact ⟨c1,o1,o2,o3⟩|exact D2.out | go_keep)
  (first | (go_at_call 53;refine (HSP.out _ (HT1.out.keeps (Below.refl _ _).drew nl)).mono ?_;rintro e w2 ⟨ev,rfl,hch,hb2⟩;(have hb12:Below w1.heap.size w1 w2:=(Below.refl w1.heap.size w1).drew.trans hb2);(have D2:=hid (show w2.cell? ⟨V,1,none⟩=some (.slice (some ⟨B,0,none⟩) n bc)∧w2.cell? ⟨w.heap.size,1,none⟩=some (.int .i64 mode)∧w2.cell? ⟨w.heap.size,2,none⟩=some (.int .i64 t)∧w2.cell? ⟨w.heap.size,3,none⟩=some (.int .i64 l) from ⟨(hb12.cell lV).trans c1,(hb12.cell hz1).trans o1,(hb12.cell hz1).trans o2,(hb12.cell hz1).trans o3⟩));(have HCH:=hid hch);obtain ⟨te,ve,rfl⟩:=hch.shape;clear hch))
 have hb02:=hb01.trans (hb12.mono hb01.size)
 go_wp2_with fail
 go_ret2
 exact ⟨_,_,_,_,rfl,HCH.out,hb02⟩
theorem qkH (V key n B bc:Nat) (sp:Nat→Nat) (dn:Nat→Bool) (v:Value) (rs:List RecV) (mode t l size:Nat) (nm vl tape:ByteArray) (w:World) (h:Rdy w V key n B bc sp) (hs:Sto w (sp 0) (dn 0) v rs) (hno:hasName rs nm=false) (hfew:rs.length<10)
  (hp:qaj mode t l n) (hz:size≤60) (hvs:vl.size=size) (h1:1≤nm.size) (h12:nm.size≤12) (hng:Cof.ngroups mode t l size≤60) (htp:Cof.tsize mode t*Cof.ngroups mode t l size≤tape.size) (hT:Tab w)
  (hup:∀i,i<n→w.cell? ⟨sp i,0,none⟩=some (.bool (dn i))) (hlt:∀i,i<n→sp i<w.heap.size) (hd:∃i,i<n∧dn i=true) :
  Calls Tryz.prog 125 #[.pointer (some ⟨V,0,none⟩),.agg #[.string nm,.int .i64 mode,.int .i64 t,.int .i64 l,.int .i64 size,.int .i64 0],.string vl,.string tape] w fun e w' =>
   ∃a x c ev,e=.returned (.tuple #[.slice a x c,ev])∧Chain w' 8 1 ev∧Below w.heap.size w w':=by
 have hba:=(Below.refl w.heap.size w).alloc nl (.cells #[.string nm,.int .i64 mode,.int .i64 t,.int .i64 l,.int .i64 size,.int .i64 0] 55)
 have HCN:=hid (qcU V key n B bc sp (dn 0) v rs mode t l size nm _ (h.keeps hba nl) (hs.keeps (qaa.ofBelow (own:=fun _=>False) hba nl) (fun h=>h) (fun _ _ h=>h)) hno hfew hp hz h1 h12 hng)
 have HSP:=hid (fun w'=>qcg mode t l n vl tape w' hp (by omega) (by rw [hvs];exact htp))
 have HR:=hid h
 have HT:=hid hT
 have HUP:=hid hup
 have HLT:=hid hlt
 have HD:=hid hd
 generalize Cof.split vl.data.toList mode t l n tape.data.toList=rows at *
 clear h hs hno hfew hp hz hvs hng htp hup hlt h1 h12 hT hd
 go_enter Tryz.func125,Tryz.ntmps125
 go_wp2_with fail
 refine HCN.out.mono ?_
 rintro e w1 ⟨rfl,hb1⟩
 have hb01:Below w.heap.size w w1:=hba.trans (hb1.mono (by simp))
 have hz1:w.heap.size<w1.heap.size:=by have:=hb1.size;simp at this;omega
 have e1:∀o,w1.cell? ⟨w.heap.size,o,none⟩=(w.alloc (.cells #[.string nm,.int .i64 mode,.int .i64 t,.int .i64 l,.int .i64 size,.int .i64 0] 55)).cell? ⟨w.heap.size,o,none⟩:=fun o=>hb1.cell (by simp)
 have o1:w1.cell? ⟨w.heap.size,1,none⟩=some (.int .i64 mode):=by rw [e1];simp
 have o2:w1.cell? ⟨w.heap.size,2,none⟩=some (.int .i64 t):=by rw [e1];simp
 have o3:w1.cell? ⟨w.heap.size,3,none⟩=some (.int .i64 l):=by rw [e1];simp
 have HR1:=hid (HR.out.keeps hb01 nl)
 have c1:=HR1.out.va.c1
 have lV:=HR1.out.va.lt
 have hn8:=HR1.out.n8
 clear e1
 go_wp2_with fail
 go_region_held3 (fun w'=>w'.cell? ⟨V,1,none⟩=some (.slice (some ⟨B,0,none⟩) n bc)∧w'.cell? ⟨w.heap.size,1,none⟩=some (.int .i64 mode)∧w'.cell? ⟨w.heap.size,2,none⟩=some (.int .i64 t)∧w'.cell? ⟨w.heap.size,3,none⟩=some (.int .i64 l)) (first | exact ⟨c1,o1,o2,o3⟩|exact D2.out | go_keep)
  (first | (go_at_call 53;refine (HSP.out _).mono ?_;rintro e w2 ⟨g,rfl,_,hb2,_⟩;(have hb12:Below w1.heap.size w1 w2:=(Below.refl w1.heap.size w1).drew.trans hb2);(have D2:=hid (show w2.cell? ⟨V,1,none⟩=some (.slice (some ⟨B,0,none⟩) n bc)∧w2.cell? ⟨w.heap.size,1,none⟩=some (.int .i64 mode)∧w2.cell? ⟨w.heap.size,2,none⟩=some (.int .i64 t)∧w2.cell? ⟨w.heap.size,3,none⟩=some (.int .i64 l) from ⟨(hb12.cell lV).trans c1,(hb12.cell hz1).trans o1,(hb12.cell hz1).trans o2,(hb12.cell hz1).trans o3⟩))))
 have hb02:=hb01.trans (hb12.mono hb01.size)
 have HAU:=hid (allUp_no V key n B 0 bc sp dn w2 (HR1.out.va.keeps hb12 nl) hn8 (fun i hi=>(hb02.cell (HLT.out i hi)).trans (HUP.out i hi)) HD.out (HT.out.keeps hb02 nl))
 go_wp2_with (go_at_call 104;refine HAU.out.mono ?_;rintro e w3 ⟨ev,rfl,hch,hb3⟩)
 go_ret2
 exact ⟨_,_,_,_,rfl,hch,hb02.trans (hb3.mono hb02.size)⟩
theorem qlE (V:Nat) (m t l k:Int) (d:Nat) (nm vl tape:ByteArray) (w:World)
  (hc:∀w',Below w.heap.size w w'→Calls Tryz.prog 125 #[.pointer (some ⟨V,0,none⟩),.agg #[.string nm,.int .i64 m,.int .i64 t,.int .i64 l,.int .i64 vl.size,.int .i64 0],.string vl,.string tape] w' fun e w''=>∃a x c ev,e=.returned (.tuple #[.slice a x c,ev])∧Chain w'' k d ev∧Below w'.heap.size w' w'') :
  Calls Tryz.prog 75 #[.pointer (some ⟨V,0,none⟩),.string nm,.string vl,.agg #[.int .i64 m,.int .i64 t,.int .i64 l],.string tape] w fun e w' =>
   ∃ev,e=.returned ev∧Chain w' k (d+1) ev∧Below w.heap.size w w':=by
 have hba1:=(Below.refl w.heap.size w).alloc nl (.cells #[.int .i64 m,.int .i64 t,.int .i64 l] 29)
 have hba2:=hba1.alloc (by simp) (.cells #[.string nm,.int .i64 m,.int .i64 t,.int .i64 l,.int .i64 vl.size,.int .i64 0] 55)
 have HC:=hid (hc _ hba2)
 clear hc
 go_enter Tryz.func75,Tryz.ntmps75
 go_wp2_with fail
 refine HC.out.mono ?_
 rintro e w3 ⟨a,x,c,ev,rfl,hch,hb3⟩
 have hb23:Below w.heap.size w w3:=hba2.trans (hb3.mono (by simp;omega))
 obtain ⟨te,ve,rfl⟩:=hch.shape
 have HCH:=hid hch
 clear hch
 go_wp2_with (go_at_call 78;refine (qav _ _ k d _ HCH.out).mono ?_;rintro e w4 ⟨e4,rfl,hch4,hb4⟩)
 go_ret
 exact ⟨_,rfl,hch4,hb23.trans (hb4.mono hb23.size)⟩
theorem ql8 (C V:Nat) (mode t l k:Int) (d:Nat) (nm vl tape:ByteArray) (w:World) (h:Cf w C V) (hd:d≤10) (hE:qaJ w)
  (hv:∀w1,Below w.heap.size w w1→Calls Tryz.prog 75 #[.pointer (some ⟨V,0,none⟩),.string nm,.string vl,.agg #[.int .i64 mode,.int .i64 t,.int .i64 l],.string tape] w1 fun e w'=>∃ev,e=.returned ev∧Chain w' k d ev∧Below w1.heap.size w1 w') :
  Calls Tryz.prog 43 #[.pointer (some ⟨C,0,none⟩),.string nm,.string vl,.agg #[.int .i64 mode,.int .i64 t,.int .i64 l],.string tape] w fun e w'=>e=.returned (.int .i64 k)∧Below w.heap.size w w':=by
 have hba:=(Below.refl w.heap.size w).alloc nl (.cells #[.int .i64 mode,.int .i64 t,.int .i64 l] 29)
 have hl:=cells_lt h
 obtain ⟨w1,hw1⟩:∃w1,w1=w.alloc (.cells #[.int .i64 mode,.int .i64 t,.int .i64 l] 29):=⟨_,rfl⟩
 have HPB:=hid (show w1.heap[w.heap.size]?=some (.cells #[.int .i64 mode,.int .i64 t,.int .i64 l] 29) by rw [hw1];exact alloc_at _ _)
 rw [←hw1] at hba
 have h1:Cf w1 C V:=h.keeps (qaa.ofBelow (own:=fun _=>False) hba nl) (fun h=>h)
 have c0:w1.cell? ⟨C,0,none⟩=some (.pointer (some ⟨V,0,none⟩)):=cq h1 rfl
 have p0:w1.cell? ⟨w.heap.size,0,none⟩=some (.int .i64 mode):=cq HPB.out rfl
 have p1:w1.cell? ⟨w.heap.size,1,none⟩=some (.int .i64 t):=cq HPB.out rfl
 have p2:w1.cell? ⟨w.heap.size,2,none⟩=some (.int .i64 l):=cq HPB.out rfl
 have HS:=hid (show ∀w',Below w1.heap.size w1 w'→w'.cell? ⟨C,0,none⟩=some (.pointer (some ⟨V,0,none⟩))∧w'.cell? ⟨w.heap.size,0,none⟩=some (.int .i64 mode)∧w'.cell? ⟨w.heap.size,1,none⟩=some (.int .i64 t)∧w'.cell? ⟨w.heap.size,2,none⟩=some (.int .i64 l) from fun w' hb=>⟨(hb.cell (by show C<w1.heap.size;exact cells_lt (h:=h1))).trans c0,(hb.cell (by exact cells_lt HPB.out)).trans p0,(hb.cell (by exact cells_lt HPB.out)).trans p1,(hb.cell (by exact cells_lt HPB.out)).trans p2⟩)
 have HV:=hid (hv w1.drew hba.drew)
 have HE:=hid (hE.keeps hba nl)
 have HW1:=hid hw1
 clear h hv h1 hE
 go_enter Tryz.func43,Tryz.ntmps43
 go_wp2_with fail
 rw [←HW1.out]
 clear hw1 HW1
 go_region_held3 (fun w'=>w'.cell? ⟨C,0,none⟩=some (.pointer (some ⟨V,0,none⟩))∧w'.cell? ⟨w.heap.size,0,none⟩=some (.int .i64 mode)∧w'.cell? ⟨w.heap.size,1,none⟩=some (.int .i64 t)∧w'.cell? ⟨w.heap.size,2,none⟩=some (.int .i64 l)) (first | exact ⟨c0,p0,p1,p2⟩|exact D3.out | exact D2.out | go_keep)
  (first
   | (go_at_call 75;refine HV.out.mono ?_;rintro e w2 ⟨ev,rfl,hch,hb2⟩;(have hb12:Below w1.heap.size w1 w2:=(Below.refl w1.heap.size w1).drew.trans hb2);(have D2:=hid (HS.out w2 hb12));(have HCH:=hid hch);clear hch)
   | (go_at_call 44;refine (qaD k w2 d ev HCH.out hd (HE.out.keeps hb12 nl)).mono ?_;rintro e w3 ⟨rfl,hb3⟩;(have hb13:=hb12.trans (hb3.mono hb12.size));(have D3:=hid (HS.out w3 hb13))))
 go_wp2
 go_ret
 exact ⟨rfl,hba.trans (hb13.mono hba.size)⟩
end Go.Proofs.YtcegdgmbponapaaGreatDoor