/-
  A new object that is refused: the checks, Put.
  A shard with one byte changed is told: each step of the tag is one to one.
  Held: an object lies at every store of a vault, its shards as they may be; a byte of a shard is changed, a store is put up or down.
  vault.piece of a shard that is not good.
-/
import Derived.Test.YtcegdgmbponapabGreatDoorPart21
namespace Go.Proofs.YtcegdgmbponapabGreatDoor
open Go.RowKit
attribute [local go_sem ↓] Go.wp_at_zero Go.wp_at_succ
set_option maxRecDepth 100000 in
set_option maxHeartbeats 1000000 in
theorem checkNew_crash (V:Nat) (m t l size:Int) (nm:ByteArray) (w:World) (hV:V<w.heap.size) (c5:w.cell? ⟨V,5,none⟩=some (.bool true)) :
  Calls Tryz.prog 87 #[.pointer (some ⟨V,0,none⟩),.agg #[.string nm,.int .i64 m,.int .i64 t,.int .i64 l,.int .i64 size,.int .i64 0]] w fun e w'=>∃ev,e=.returned ev∧Chain w' 1 0 ev∧Below w.heap.size w w':=by
 have hba:=(Below.refl w.heap.size w).alloc (Nat.le_refl _) (.cells #[.string nm,.int .i64 m,.int .i64 t,.int .i64 l,.int .i64 size,.int .i64 0] 65)
 have HC:=hid (check_crashed V _ ((hba.cell (p:=⟨V,5,none⟩) hV).trans c5))
 clear c5
 go_enter Tryz.func87,Tryz.ntmps87
 go_wp2_with (go_at_call 70;refine HC.out.mono ?_;rintro e w0 ⟨rfl,rfl⟩)
 go_ret
 exact ⟨_,rfl,.hit,hba⟩
set_option maxRecDepth 100000 in
set_option maxHeartbeats 1000000 in
theorem checkNew_twice (V key n B bc:Nat) (sp:Nat→Nat) (down:Bool) (v:Value) (rs:List RecV) (mode t l size:Nat) (nm:ByteArray) (w:World) (h:Rdy w V key n B bc sp) (hs:Sto w (sp 0) down v rs) (hyes:hasName rs nm=true)
  (hp:IsPlan mode t l n) (hz:size≤60) (h1:1≤nm.size) (h12:nm.size≤12) (hng:Cof.ngroups mode t l size≤60) :
  Calls Tryz.prog 87 #[.pointer (some ⟨V,0,none⟩),.agg #[.string nm,.int .i64 mode,.int .i64 t,.int .i64 l,.int .i64 size,.int .i64 0]] w fun e w'=>∃ev,e=.returned ev∧Chain w' 5 1 ev∧Below w.heap.size w w':=by
 have hba:=(Below.refl w.heap.size w).alloc (Nat.le_refl _) (.cells #[.string nm,.int .i64 mode,.int .i64 t,.int .i64 l,.int .i64 size,.int .i64 0] 65)
 have hR:=h.keeps hba (Nat.le_refl _)
 have c5:=hR.c5
 have HC:=hid (check_fine V _ c5)
 have HLB:=hid (label_any V key n B 0 bc sp 0 mode t l size 0 nm _ hR.va)
 have HLN:=hid (fun w'=>llen_ok mode t l n 0 0 size nm w' hp hz h1 h12 hng)
 have HS:=hid hs
 have HR:=hid hR
 have HYES:=hid hyes
 have hVlt:¬V=w.heap.size:=by have:=h.va.lt;omega
 generalize Cof.ngroups mode t l size=ng at *
 clear h hs hyes hp hz hR
 go_enter Tryz.func87,Tryz.ntmps87
 go_wp2_with (first | (go_at_call 70;refine HC.out.mono ?_;rintro e w0 ⟨rfl,rfl⟩))
 refine HLB.out.mono ?_
 rintro e w1 ⟨rfl,hb1⟩
 have hb01:Below w.heap.size w w1:=hba.trans (hb1.mono (by simp))
 have hz1:w.heap.size<w1.heap.size:=by have:=hb1.size;simp at this;omega
 have e1:∀o,w1.cell? ⟨w.heap.size,o,none⟩=(w.alloc (.cells #[.string nm,.int .i64 mode,.int .i64 t,.int .i64 l,.int .i64 size,.int .i64 0] 65)).cell? ⟨w.heap.size,o,none⟩:=fun o=>hb1.cell (by simp)
 have o1:w1.cell? ⟨w.heap.size,0,none⟩=some (.string nm):=by rw [e1];simp
 have HR1:=hid (HR.out.keeps hb1 (Nat.le_refl _))
 clear e1
 go_wp2_with fail
 refine (HLN.out w1).mono ?_
 rintro e w2 ⟨rfl,hb2⟩
 have hb02:=hb01.trans (hb2.mono hb01.size)
 have o2:w2.cell? ⟨w.heap.size,0,none⟩=some (.string nm):=(hb2.cell hz1).trans o1
 have HR2:=hid (HR1.out.keeps hb2 (Nat.le_refl _))
 have HS2:=hid (HS.out.keeps (Spared.ofBelow (own:=fun _=>False) hb02 (Nat.le_refl _)) (fun h=>h) (fun _ _ h=>h))
 obtain ⟨a,c,hv,hst⟩:=HS2.out.st
 have hz2:w.heap.size<w2.heap.size:=Nat.lt_of_lt_of_le hz1 hb2.size
 have HOB:=hid (object_yes V key n B bc sp down a c rs _ nm w2 HR2.out hst HYES.out rfl)
 generalize rs[posOf rs nm]! = r at *
 clear hst hv
 go_wp2_with fail
 refine HOB.out.mono ?_
 rintro e w3 ⟨rfl,hb3⟩
 have hb03:=hb02.trans (hb3.mono hb02.size)
 have o3:w3.cell? ⟨w.heap.size,0,none⟩=some (.string nm):=(hb3.cell hz2).trans o2
 have hz3:w.heap.size<w3.heap.size:=Nat.lt_of_lt_of_le hz2 hb3.size
 have hba4:=(Below.refl w3.heap.size w3).alloc (Nat.le_refl _) (.cells #[.string r.name,.int .i64 r.mode,.int .i64 r.t,.int .i64 r.l,.int .i64 r.size,.int .i64 r.epoch] 65)
 go_wp2_with (first | (go_at_call 115;refine (Is_nil 9 _).mono ?_;rintro e w4 ⟨rfl,rfl⟩)|(go_at_call 53;refine (at_chain _ _ 5 0 _ .hit).mono ?_;rintro e w5 ⟨e5,rfl,hch5,hb5⟩))
 go_ret
 have hb04:=hb03.trans (hba4.mono hb03.size)
 exact ⟨_,rfl,hch5,hb04.trans (hb5.mono hb04.size)⟩
set_option maxRecDepth 100000 in
set_option maxHeartbeats 1000000 in
theorem checkNew_full (V key n B bc:Nat) (sp:Nat→Nat) (down:Bool) (v:Value) (rs:List RecV) (mode t l size:Nat) (nm:ByteArray) (w:World) (h:Rdy w V key n B bc sp) (hs:Sto w (sp 0) down v rs) (hno:hasName rs nm=false) (hfull:¬rs.length<10)
  (hp:IsPlan mode t l n) (hz:size≤60) (h1:1≤nm.size) (h12:nm.size≤12) (hng:Cof.ngroups mode t l size≤60) (hT:Tab w) :
  Calls Tryz.prog 87 #[.pointer (some ⟨V,0,none⟩),.agg #[.string nm,.int .i64 mode,.int .i64 t,.int .i64 l,.int .i64 size,.int .i64 0]] w fun e w'=>∃ev,e=.returned ev∧Chain w' 6 1 ev∧Below w.heap.size w w':=by
 have hba:=(Below.refl w.heap.size w).alloc (Nat.le_refl _) (.cells #[.string nm,.int .i64 mode,.int .i64 t,.int .i64 l,.int .i64 size,.int .i64 0] 65)
 have hR:=h.keeps hba (Nat.le_refl _)
 have c5:=hR.c5
 have HC:=hid (check_fine V _ c5)
 have HLB:=hid (label_any V key n B 0 bc sp 0 mode t l size 0 nm _ hR.va)
 have HLN:=hid (fun w'=>llen_ok mode t l n 0 0 size nm w' hp hz h1 h12 hng)
 have HS:=hid hs
 have HR:=hid hR
 have HNO:=hid hno
 have HT:=hid hT
 have hVlt:¬V=w.heap.size:=by have:=h.va.lt;omega
 have hfull':(10:Int)≤(rs.length:Int):=by omega
 have HI:=hid (show I64 (rs.length:Int) by have:=hs.le;unfold I64;omega)
 generalize Cof.ngroups mode t l size=ng at *
 clear h hs hno hp hz hR hfull hT
 go_enter Tryz.func87,Tryz.ntmps87
 go_wp2_with (first | (go_at_call 70;refine HC.out.mono ?_;rintro e w0 ⟨rfl,rfl⟩))
 refine HLB.out.mono ?_
 rintro e w1 ⟨rfl,hb1⟩
 have hb01:Below w.heap.size w w1:=hba.trans (hb1.mono (by simp))
 have hz1:w.heap.size<w1.heap.size:=by have:=hb1.size;simp at this;omega
 have e1:∀o,w1.cell? ⟨w.heap.size,o,none⟩=(w.alloc (.cells #[.string nm,.int .i64 mode,.int .i64 t,.int .i64 l,.int .i64 size,.int .i64 0] 65)).cell? ⟨w.heap.size,o,none⟩:=fun o=>hb1.cell (by simp)
 have o1:w1.cell? ⟨w.heap.size,0,none⟩=some (.string nm):=by rw [e1];simp
 have HR1:=hid (HR.out.keeps hb1 (Nat.le_refl _))
 clear e1
 go_wp2_with fail
 refine (HLN.out w1).mono ?_
 rintro e w2 ⟨rfl,hb2⟩
 have hb02:=hb01.trans (hb2.mono hb01.size)
 have o2:w2.cell? ⟨w.heap.size,0,none⟩=some (.string nm):=(hb2.cell hz1).trans o1
 have HR2:=hid (HR1.out.keeps hb2 (Nat.le_refl _))
 have HS2:=hid (HS.out.keeps (Spared.ofBelow (own:=fun _=>False) hb02 (Nat.le_refl _)) (fun h=>h) (fun _ _ h=>h))
 obtain ⟨a,c,hv,hst⟩:=HS2.out.st
 have hz2:w.heap.size<w2.heap.size:=Nat.lt_of_lt_of_le hz1 hb2.size
 go_wp2_with fail
 refine (object_no V key n B bc sp down a c rs nm w2 HR2.out hst HNO.out).mono ?_
 rintro e w3 ⟨ev,rfl,hch,hb3⟩
 have hb03:=hb02.trans (hb3.mono hb02.size)
 have o3:w3.cell? ⟨w.heap.size,0,none⟩=some (.string nm):=(hb3.cell hz2).trans o2
 obtain ⟨te,ve,rfl⟩:=hch.shape
 have HCH:=hid hch
 have HR3:=hid (HR2.out.keeps hb3 (Nat.le_refl _))
 have HS3:=hid (HS2.out.keeps (Spared.ofBelow (own:=fun _=>False) hb3 (Nat.le_refl _)) (fun h=>h) (fun _ _ h=>h))
 clear hch hst hv
 go_wp2_with fail
 have hba4:=(Below.refl w3.heap.size w3).alloc (Nat.le_refl _) (.cells #[.string ByteArray.empty,.int .i64 0,.int .i64 0,.int .i64 0,.int .i64 0,.int .i64 0] 65)
 refine (Is_any 9 9 _ 1 _ (HCH.out.keeps hba4 (Nat.le_refl _)) (by decide)).mono ?_
 rintro e w4 ⟨rfl,rfl⟩
 have HV:=hid (vobjects_any V key n B bc sp down v rs _ (HR3.out.keeps hba4 (Nat.le_refl _)) (HS3.out.keeps (Spared.ofBelow (own:=fun _=>False) hba4 (Nat.le_refl _)) (fun h=>h) (fun _ _ h=>h)))
 have hb04:=hb03.trans (hba4.mono hb03.size)
 go_wp2_with fail
 refine HV.out.mono ?_
 rintro e w5 ⟨ov,rfl,hown,hb5⟩
 obtain ⟨oa,oc,rfl,_⟩:=owns_rd_size hown
 have hb05:=hb04.trans (hb5.mono hb04.size)
 have HT5:=hid (HT.out.keeps hb05 (Nat.le_refl _))
 clear hown
 go_wp2_with (go_at_call 77;refine (atCount_any (rs.length:Int) _ _ 6 0 _ HI.out (by decide) HT5.out .hit).mono ?_;rintro e w6 ⟨e6,rfl,hch6,hb6⟩)
 go_ret
 exact ⟨_,rfl,hch6,hb05.trans (hb6.mono hb05.size)⟩
set_option maxRecDepth 100000 in
set_option maxHeartbeats 1000000 in
theorem cut_new (V:Nat) (m t l size k:Int) (d:Nat) (nm vl tape:ByteArray) (w:World)
  (hc:∀w',Below w.heap.size w w'→Calls Tryz.prog 87 #[.pointer (some ⟨V,0,none⟩),.agg #[.string nm,.int .i64 m,.int .i64 t,.int .i64 l,.int .i64 size,.int .i64 0]] w' fun e w''=>∃ev,e=.returned ev∧Chain w'' k d ev∧Below w'.heap.size w' w'') :
  Calls Tryz.prog 58 #[.pointer (some ⟨V,0,none⟩),.agg #[.string nm,.int .i64 m,.int .i64 t,.int .i64 l,.int .i64 size,.int .i64 0],.string vl,.string tape] w fun e w' =>
   ∃a x c ev,e=.returned (.tuple #[.slice a x c,ev])∧Chain w' k d ev∧Below w.heap.size w w':=by
 have hba:=(Below.refl w.heap.size w).alloc (Nat.le_refl _) (.cells #[.string nm,.int .i64 m,.int .i64 t,.int .i64 l,.int .i64 size,.int .i64 0] 65)
 have HC:=hid (hc _ hba)
 clear hc
 go_enter Tryz.func58,Tryz.ntmps58
 go_wp2_with fail
 refine HC.out.mono ?_
 rintro e w1 ⟨ev,rfl,hch,hb1⟩
 obtain ⟨te,ve,rfl⟩:=hch.shape
 have HCH:=hid hch
 clear hch
 go_wp2_with fail
 go_ret2
 exact ⟨_,_,_,_,rfl,HCH.out,hba.trans (hb1.mono (by simp))⟩
set_option maxRecDepth 100000 in
set_option maxHeartbeats 1000000 in
theorem cut_tape (V key n B bc:Nat) (sp:Nat→Nat) (down:Bool) (v:Value) (rs:List RecV) (mode t l size:Nat) (nm vl tape:ByteArray) (w:World) (h:Rdy w V key n B bc sp) (hs:Sto w (sp 0) down v rs) (hno:hasName rs nm=false) (hfew:rs.length<10)
  (hp:IsPlan mode t l n) (hz:size≤60) (hvs:vl.size=size) (h1:1≤nm.size) (h12:nm.size≤12) (hng:Cof.ngroups mode t l size≤60) (htp:tape.size<Cof.tsize mode t*Cof.ngroups mode t l size) (hT:Tab w) :
  Calls Tryz.prog 58 #[.pointer (some ⟨V,0,none⟩),.agg #[.string nm,.int .i64 mode,.int .i64 t,.int .i64 l,.int .i64 size,.int .i64 0],.string vl,.string tape] w fun e w' =>
   ∃a x c ev,e=.returned (.tuple #[.slice a x c,ev])∧Chain w' 7 2 ev∧Below w.heap.size w w':=by
 have hba:=(Below.refl w.heap.size w).alloc (Nat.le_refl _) (.cells #[.string nm,.int .i64 mode,.int .i64 t,.int .i64 l,.int .i64 size,.int .i64 0] 65)
 have HCN:=hid (checkNew_ok V key n B bc sp down v rs mode t l size nm _ (h.keeps hba (Nat.le_refl _)) (hs.keeps (Spared.ofBelow (own:=fun _=>False) hba (Nat.le_refl _)) (fun h=>h) (fun _ _ h=>h)) hno hfew hp hz h1 h12 hng)
 have HSP:=hid (fun w' hT'=>cutSplit_tape mode t l n vl tape w' hT' hp (by omega) (by rw [hvs];exact htp))
 have HR:=hid h
 have HT:=hid hT
 clear h hs hno hfew hp hz hvs hng htp h1 h12 hT
 go_enter Tryz.func58,Tryz.ntmps58
 go_wp2_with fail
 refine HCN.out.mono ?_
 rintro e w1 ⟨rfl,hb1⟩
 have hb01:Below w.heap.size w w1:=hba.trans (hb1.mono (by simp))
 have hz1:w.heap.size<w1.heap.size:=by have:=hb1.size;simp at this;omega
 have e1:∀o,w1.cell? ⟨w.heap.size,o,none⟩=(w.alloc (.cells #[.string nm,.int .i64 mode,.int .i64 t,.int .i64 l,.int .i64 size,.int .i64 0] 65)).cell? ⟨w.heap.size,o,none⟩:=fun o=>hb1.cell (by simp)
 have o1:w1.cell? ⟨w.heap.size,1,none⟩=some (.int .i64 mode):=by rw [e1];simp
 have o2:w1.cell? ⟨w.heap.size,2,none⟩=some (.int .i64 t):=by rw [e1];simp
 have o3:w1.cell? ⟨w.heap.size,3,none⟩=some (.int .i64 l):=by rw [e1];simp
 have HR1:=hid (HR.out.keeps hb01 (Nat.le_refl _))
 have c1:=HR1.out.va.c1
 have lV:=HR1.out.va.lt
 have HT1:=hid (HT.out.keeps hb01 (Nat.le_refl _))
 clear e1
 go_wp2_with fail
 go_region_held3 (fun w'=>w'.cell? ⟨V,1,none⟩=some (.slice (some ⟨B,0,none⟩) n bc)∧w'.cell? ⟨w.heap.size,1,none⟩=some (.int .i64 mode)∧w'.cell? ⟨w.heap.size,2,none⟩=some (.int .i64 t)∧w'.cell? ⟨w.heap.size,3,none⟩=some (.int .i64 l)) (first | exact ⟨c1,o1,o2,o3⟩|exact D2.out | go_keep)
  (first | (go_at_call 88;refine (HSP.out _ (HT1.out.keeps (Below.refl _ _).drew (Nat.le_refl _))).mono ?_;rintro e w2 ⟨ev,rfl,hch,hb2⟩;(have hb12:Below w1.heap.size w1 w2:=(Below.refl w1.heap.size w1).drew.trans hb2);(have D2:=hid (show w2.cell? ⟨V,1,none⟩=some (.slice (some ⟨B,0,none⟩) n bc)∧w2.cell? ⟨w.heap.size,1,none⟩=some (.int .i64 mode)∧w2.cell? ⟨w.heap.size,2,none⟩=some (.int .i64 t)∧w2.cell? ⟨w.heap.size,3,none⟩=some (.int .i64 l) from ⟨(hb12.cell lV).trans c1,(hb12.cell hz1).trans o1,(hb12.cell hz1).trans o2,(hb12.cell hz1).trans o3⟩));(have HCH:=hid hch);obtain ⟨te,ve,rfl⟩:=hch.shape;clear hch))
 have hb02:=hb01.trans (hb12.mono hb01.size)
 go_wp2_with fail
 go_ret2
 exact ⟨_,_,_,_,rfl,HCH.out,hb02⟩
set_option maxRecDepth 100000 in
set_option maxHeartbeats 1000000 in
theorem cut_down (V key n B bc:Nat) (sp:Nat→Nat) (dn:Nat→Bool) (v:Value) (rs:List RecV) (mode t l size:Nat) (nm vl tape:ByteArray) (w:World) (h:Rdy w V key n B bc sp) (hs:Sto w (sp 0) (dn 0) v rs) (hno:hasName rs nm=false) (hfew:rs.length<10)
  (hp:IsPlan mode t l n) (hz:size≤60) (hvs:vl.size=size) (h1:1≤nm.size) (h12:nm.size≤12) (hng:Cof.ngroups mode t l size≤60) (htp:Cof.tsize mode t*Cof.ngroups mode t l size≤tape.size) (hT:Tab w)
  (hup:∀i,i<n→w.cell? ⟨sp i,0,none⟩=some (.bool (dn i))) (hlt:∀i,i<n→sp i<w.heap.size) (hd:∃i,i<n∧dn i=true) :
  Calls Tryz.prog 58 #[.pointer (some ⟨V,0,none⟩),.agg #[.string nm,.int .i64 mode,.int .i64 t,.int .i64 l,.int .i64 size,.int .i64 0],.string vl,.string tape] w fun e w' =>
   ∃a x c ev,e=.returned (.tuple #[.slice a x c,ev])∧Chain w' 8 1 ev∧Below w.heap.size w w':=by
 have hba:=(Below.refl w.heap.size w).alloc (Nat.le_refl _) (.cells #[.string nm,.int .i64 mode,.int .i64 t,.int .i64 l,.int .i64 size,.int .i64 0] 65)
 have HCN:=hid (checkNew_ok V key n B bc sp (dn 0) v rs mode t l size nm _ (h.keeps hba (Nat.le_refl _)) (hs.keeps (Spared.ofBelow (own:=fun _=>False) hba (Nat.le_refl _)) (fun h=>h) (fun _ _ h=>h)) hno hfew hp hz h1 h12 hng)
 have HSP:=hid (fun w'=>cutSplit_ok mode t l n vl tape w' hp (by omega) (by rw [hvs];exact htp))
 have HR:=hid h
 have HT:=hid hT
 have HUP:=hid hup
 have HLT:=hid hlt
 have HD:=hid hd
 generalize Cof.split vl.data.toList mode t l n tape.data.toList=rows at *
 clear h hs hno hfew hp hz hvs hng htp hup hlt h1 h12 hT hd
 go_enter Tryz.func58,Tryz.ntmps58
 go_wp2_with fail
 refine HCN.out.mono ?_
 rintro e w1 ⟨rfl,hb1⟩
 have hb01:Below w.heap.size w w1:=hba.trans (hb1.mono (by simp))
 have hz1:w.heap.size<w1.heap.size:=by have:=hb1.size;simp at this;omega
 have e1:∀o,w1.cell? ⟨w.heap.size,o,none⟩=(w.alloc (.cells #[.string nm,.int .i64 mode,.int .i64 t,.int .i64 l,.int .i64 size,.int .i64 0] 65)).cell? ⟨w.heap.size,o,none⟩:=fun o=>hb1.cell (by simp)
 have o1:w1.cell? ⟨w.heap.size,1,none⟩=some (.int .i64 mode):=by rw [e1];simp
 have o2:w1.cell? ⟨w.heap.size,2,none⟩=some (.int .i64 t):=by rw [e1];simp
 have o3:w1.cell? ⟨w.heap.size,3,none⟩=some (.int .i64 l):=by rw [e1];simp
 have HR1:=hid (HR.out.keeps hb01 (Nat.le_refl _))
 have c1:=HR1.out.va.c1
 have lV:=HR1.out.va.lt
 have hn8:=HR1.out.n8
 clear e1
 go_wp2_with fail
 go_region_held3 (fun w'=>w'.cell? ⟨V,1,none⟩=some (.slice (some ⟨B,0,none⟩) n bc)∧w'.cell? ⟨w.heap.size,1,none⟩=some (.int .i64 mode)∧w'.cell? ⟨w.heap.size,2,none⟩=some (.int .i64 t)∧w'.cell? ⟨w.heap.size,3,none⟩=some (.int .i64 l)) (first | exact ⟨c1,o1,o2,o3⟩|exact D2.out | go_keep)
  (first | (go_at_call 88;refine (HSP.out _).mono ?_;rintro e w2 ⟨g,rfl,_,hb2,_⟩;(have hb12:Below w1.heap.size w1 w2:=(Below.refl w1.heap.size w1).drew.trans hb2);(have D2:=hid (show w2.cell? ⟨V,1,none⟩=some (.slice (some ⟨B,0,none⟩) n bc)∧w2.cell? ⟨w.heap.size,1,none⟩=some (.int .i64 mode)∧w2.cell? ⟨w.heap.size,2,none⟩=some (.int .i64 t)∧w2.cell? ⟨w.heap.size,3,none⟩=some (.int .i64 l) from ⟨(hb12.cell lV).trans c1,(hb12.cell hz1).trans o1,(hb12.cell hz1).trans o2,(hb12.cell hz1).trans o3⟩))))
 have hb02:=hb01.trans (hb12.mono hb01.size)
 have HAU:=hid (allUp_no V key n B 0 bc sp dn w2 (HR1.out.va.keeps hb12 (Nat.le_refl _)) hn8 (fun i hi=>(hb02.cell (HLT.out i hi)).trans (HUP.out i hi)) HD.out (HT.out.keeps hb02 (Nat.le_refl _)))
 go_wp2_with (go_at_call 63;refine HAU.out.mono ?_;rintro e w3 ⟨ev,rfl,hch,hb3⟩)
 go_ret2
 exact ⟨_,_,_,_,rfl,hch,hb02.trans (hb3.mono hb02.size)⟩
set_option maxRecDepth 100000 in
set_option maxHeartbeats 1000000 in
theorem vput_no (V:Nat) (m t l k:Int) (d:Nat) (nm vl tape:ByteArray) (w:World)
  (hc:∀w',Below w.heap.size w w'→Calls Tryz.prog 58 #[.pointer (some ⟨V,0,none⟩),.agg #[.string nm,.int .i64 m,.int .i64 t,.int .i64 l,.int .i64 vl.size,.int .i64 0],.string vl,.string tape] w' fun e w''=>∃a x c ev,e=.returned (.tuple #[.slice a x c,ev])∧Chain w'' k d ev∧Below w'.heap.size w' w'') :
  Calls Tryz.prog 38 #[.pointer (some ⟨V,0,none⟩),.string nm,.string vl,.agg #[.int .i64 m,.int .i64 t,.int .i64 l],.string tape] w fun e w' =>
   ∃ev,e=.returned ev∧Chain w' k (d+1) ev∧Below w.heap.size w w':=by
 have hba1:=(Below.refl w.heap.size w).alloc (Nat.le_refl _) (.cells #[.int .i64 m,.int .i64 t,.int .i64 l] 29)
 have hba2:=hba1.alloc (by simp) (.cells #[.string nm,.int .i64 m,.int .i64 t,.int .i64 l,.int .i64 vl.size,.int .i64 0] 65)
 have HC:=hid (hc _ hba2)
 clear hc
 go_enter Tryz.func38,Tryz.ntmps38
 go_wp2_with fail
 refine HC.out.mono ?_
 rintro e w3 ⟨a,x,c,ev,rfl,hch,hb3⟩
 have hb23:Below w.heap.size w w3:=hba2.trans (hb3.mono (by simp;omega))
 obtain ⟨te,ve,rfl⟩:=hch.shape
 have HCH:=hid hch
 clear hch
 go_wp2_with (go_at_call 53;refine (at_chain _ _ k d _ HCH.out).mono ?_;rintro e w4 ⟨e4,rfl,hch4,hb4⟩)
 go_ret
 exact ⟨_,rfl,hch4,hb23.trans (hb4.mono hb23.size)⟩
set_option maxRecDepth 100000 in
set_option maxHeartbeats 1000000 in
theorem cput_no (C V:Nat) (mode t l k:Int) (d:Nat) (nm vl tape:ByteArray) (w:World) (h:Cf w C V) (hd:d≤10) (hE:ErrType w)
  (hv:∀w1,Below w.heap.size w w1→Calls Tryz.prog 38 #[.pointer (some ⟨V,0,none⟩),.string nm,.string vl,.agg #[.int .i64 mode,.int .i64 t,.int .i64 l],.string tape] w1 fun e w'=>∃ev,e=.returned ev∧Chain w' k d ev∧Below w1.heap.size w1 w') :
  Calls Tryz.prog 16 #[.pointer (some ⟨C,0,none⟩),.string nm,.string vl,.agg #[.int .i64 mode,.int .i64 t,.int .i64 l],.string tape] w fun e w'=>e=.returned (.int .i64 k)∧Below w.heap.size w w':=by
 have hba:=(Below.refl w.heap.size w).alloc (Nat.le_refl _) (.cells #[.int .i64 mode,.int .i64 t,.int .i64 l] 29)
 have hl:=cells_lt h
 obtain ⟨w1,hw1⟩:∃w1,w1=w.alloc (.cells #[.int .i64 mode,.int .i64 t,.int .i64 l] 29):=⟨_,rfl⟩
 have HPB:=hid (show w1.heap[w.heap.size]?=some (.cells #[.int .i64 mode,.int .i64 t,.int .i64 l] 29) by rw [hw1];exact alloc_at _ _)
 rw [←hw1] at hba
 have h1:Cf w1 C V:=h.keeps (Spared.ofBelow (own:=fun _=>False) hba (Nat.le_refl _)) (fun h=>h)
 have c0:w1.cell? ⟨C,0,none⟩=some (.pointer (some ⟨V,0,none⟩)):=by rw [cells_at h1];rfl
 have p0:w1.cell? ⟨w.heap.size,0,none⟩=some (.int .i64 mode):=by rw [cells_at HPB.out];rfl
 have p1:w1.cell? ⟨w.heap.size,1,none⟩=some (.int .i64 t):=by rw [cells_at HPB.out];rfl
 have p2:w1.cell? ⟨w.heap.size,2,none⟩=some (.int .i64 l):=by rw [cells_at HPB.out];rfl
 have HS:=hid (show ∀w',Below w1.heap.size w1 w'→w'.cell? ⟨C,0,none⟩=some (.pointer (some ⟨V,0,none⟩))∧w'.cell? ⟨w.heap.size,0,none⟩=some (.int .i64 mode)∧w'.cell? ⟨w.heap.size,1,none⟩=some (.int .i64 t)∧w'.cell? ⟨w.heap.size,2,none⟩=some (.int .i64 l) from fun w' hb=>⟨(hb.cell (by show C<w1.heap.size;exact cells_lt (h:=h1))).trans c0,(hb.cell (by exact cells_lt HPB.out)).trans p0,(hb.cell (by exact cells_lt HPB.out)).trans p1,(hb.cell (by exact cells_lt HPB.out)).trans p2⟩)
 have HV:=hid (hv w1.drew hba.drew)
 have HE:=hid (hE.keeps hba (Nat.le_refl _))
 have HW1:=hid hw1
 clear h hv h1 hE
 go_enter Tryz.func16,Tryz.ntmps16
 go_wp2_with fail
 rw [←HW1.out]
 clear hw1 HW1
 go_region_held3 (fun w'=>w'.cell? ⟨C,0,none⟩=some (.pointer (some ⟨V,0,none⟩))∧w'.cell? ⟨w.heap.size,0,none⟩=some (.int .i64 mode)∧w'.cell? ⟨w.heap.size,1,none⟩=some (.int .i64 t)∧w'.cell? ⟨w.heap.size,2,none⟩=some (.int .i64 l)) (first | exact ⟨c0,p0,p1,p2⟩|exact D3.out | exact D2.out | go_keep)
  (first
   | (go_at_call 38;refine HV.out.mono ?_;rintro e w2 ⟨ev,rfl,hch,hb2⟩;(have hb12:Below w1.heap.size w1 w2:=(Below.refl w1.heap.size w1).drew.trans hb2);(have D2:=hid (HS.out w2 hb12));(have HCH:=hid hch);clear hch)
   | (go_at_call 36;refine (number_chain k w2 d ev HCH.out hd (HE.out.keeps hb12 (Nat.le_refl _))).mono ?_;rintro e w3 ⟨rfl,hb3⟩;(have hb13:=hb12.trans (hb3.mono hb12.size));(have D3:=hid (HS.out w3 hb13))))
 go_wp2
 go_ret
 exact ⟨rfl,hba.trans (hb13.mono hba.size)⟩
end Go.Proofs.YtcegdgmbponapabGreatDoor
namespace Go.Proofs.YtcegdgmbponapabGreatDoor
open Go.RowKit
def Cof.spoil (X:List UInt8) (at':Nat) (d:UInt8):List UInt8:=X.set at' (X.getD at' 0^^^d)
end Go.Proofs.YtcegdgmbponapabGreatDoor
namespace Go.Proofs.YtcegdgmbponapabGreatDoor
open Go.RowKit
attribute [local go_sem ↓] Go.wp_at_zero Go.wp_at_succ
structure Held (w:World) (base V key n B bc:Nat) (sp:Nat→Nat) (down:Nat→Bool) (mode t l size epoch:Nat) (nm:ByteArray) (len:Nat) (X:Nat→List UInt8) (vs:Nat→Value) (xs:Nat→RecV):Prop where
 vt:∃done ahead,Vt w V key n B bc sp done false ahead false
 st:∀i,i<n→Sto w (sp i) (down i) (vs i) [xs i]
 e:∀i,i<n→(xs i).name=nm∧(xs i).mode=mode∧(xs i).t=t∧(xs i).l=l∧(xs i).size=size∧(xs i).epoch=epoch
 sn:∀i,i<n→(xs i).sn=10+nm.size+len+8
 own:∀i,i<n→w.ownsRow base 5 1 (.slice (xs i).sa (xs i).sn (xs i).sc) (xs i).sn (bs (X i))
 xi:∀i j,i<j→j<n→(xs i).blk≠(xs j).blk
 vi:∀i j,i<j→j<n→(vs i).ownBlock≠(vs j).ownBlock
 si:∀i j,i<j→j<n→sp i≠sp j
theorem Held.keeps {own:Nat→Prop} {w w':World} {base V key n B bc:Nat} {sp:Nat→Nat} {down:Nat→Bool} {mode t l size epoch:Nat} {nm:ByteArray} {len:Nat} {X:Nat→List UInt8} {vs:Nat→Value} {xs:Nat→RecV} (h:Held w base V key n B bc sp down mode t l size epoch nm len X vs xs) (hs:Spared own w w')
  (h1:¬own V) (h2:¬own B) (h3:∀i,i<n→¬own (sp i)) (h4:∀i,i<n→∀b,(vs i).ownBlock=some b→¬own b) (h5:∀i,i<n→∀b,(xs i).blk=some b→¬own b):Held w' base V key n B bc sp down mode t l size epoch nm len X vs xs:=by
 obtain ⟨done,ahead,hvt⟩:=h.vt
 exact ⟨⟨done,ahead,hvt.keeps hs h1 h2⟩,fun i hi=>(h.st i hi).keeps hs (h3 i hi) (h4 i hi),h.e,h.sn,fun i hi=>owns_spared (h.own i hi) hs (h5 i hi),h.xi,h.vi,h.si⟩
theorem Held.below {w w':World} {base V key n B bc:Nat} {sp:Nat→Nat} {down:Nat→Bool} {mode t l size epoch:Nat} {nm:ByteArray} {len:Nat} {X:Nat→List UInt8} {vs:Nat→Value} {xs:Nat→RecV} (h:Held w base V key n B bc sp down mode t l size epoch nm len X vs xs) (hb:Below w.heap.size w w'):Held w' base V key n B bc sp down mode t l size epoch nm len X vs xs :=
 h.keeps (Spared.ofBelow (own:=fun _=>False) hb (Nat.le_refl _)) (fun h=>h) (fun h=>h) (fun _ _ h=>h) (fun _ _ _ _ h=>h) (fun _ _ _ _ h=>h)
theorem Held.bytes {w:World} {base V key n B bc:Nat} {sp:Nat→Nat} {down:Nat→Bool} {mode t l size epoch:Nat} {nm:ByteArray} {len:Nat} {X:Nat→List UInt8} {vs:Nat→Value} {xs:Nat→RecV} (h:Held w base V key n B bc sp down mode t l size epoch nm len X vs xs) (i:Nat) (hi:i<n):(X i).length=10+nm.size+len+8:=by
 have h1:=(h.own i hi).1
 rw [bs_length,h.sn i hi] at h1
 omega
set_option maxRecDepth 100000 in
set_option maxHeartbeats 1000000 in
theorem sspoil_yes (S:Nat) (down:Bool) (a:Option Addr) (c:Nat) (rs:List RecV) (r:RecV) (nm:ByteArray) (g p:Nat) (x d:UInt8) (w:World) (h:St w S down a c rs) (hyes:hasName rs nm=true) (hr:r=rs[posOf rs nm]!) (hsa:r.sa=some ⟨g,0,none⟩) (_hsn:r.sn≤1000) (hp:p<r.sn)
  (hc:w.cell? ⟨g,p,none⟩=some (.int .u8 x.toNat)) (hf:w.frozen? ⟨g,p,none⟩=false) (hg:g<w.heap.size) :
  Calls Tryz.prog 68 #[.pointer (some ⟨S,0,none⟩),.string nm,.int .i64 p,.int .u8 d.toNat] w fun e w'=>e=.returned .nilIface∧∃w1,Below w.heap.size w w1∧Below w1.heap.size (w1.setCell ⟨g,p,none⟩ (.int .u8 (x^^^d).toNat)) w':=by
 have HREC:=hid (record_yes S down a c rs r nm w h hyes hr)
 rw [hsa] at HREC
 have hp':(p:Int)<(r.sn:Int):=by omega
 clear h hyes hr hsa
 go_enter Tryz.func68,Tryz.ntmps68
 go_wp2_with fail
 refine HREC.out.mono ?_
 rintro e w1 ⟨rfl,hb1⟩
 generalize r.sn=sn at *
 have hg1:g<w1.heap.size:=Nat.lt_of_lt_of_le hg hb1.size
 have hgn:g≠w1.heap.size:=by omega
 have c1:w1.cell? ⟨g,p,none⟩=some (.int .u8 x.toNat):=((bcell hb1).1 g p hg).trans hc
 have f1:w1.frozen? ⟨g,p,none⟩=false:=((bcell hb1).2 g p hg).trans hf
 have hpn:¬sn≤p:=by omega
 have hp0:decide ((p:Int)<0)=false:=by simp
 clear hc hf
 go_wp2_with fail
 go_ret
 rw [bits_xor]
 refine ⟨rfl,w1,hb1,?_⟩
 have:=(Below.refl w1.heap.size (w1.setCell ⟨g,p,none⟩ (.int .u8 (x^^^d).toNat))).alloc (by simp) (.cells #[.string r.name,.int .i64 r.mode,.int .i64 r.t,.int .i64 r.l,.int .i64 r.size,.int .i64 r.epoch,.slice (some ⟨g,0,none⟩) sn r.sc,.slice r.na r.nn r.nc] 127)
 exact this
set_option maxRecDepth 100000 in
theorem vspoil_yes (V key n B bc:Nat) (sp:Nat→Nat) (i p:Nat) (d:UInt8) (nm:ByteArray) (w:World) (R:World→Prop) (h:Rdy w V key n B bc sp) (hi:i<n)
  (hs:Calls Tryz.prog 68 #[.pointer (some ⟨sp i,0,none⟩),.string nm,.int .i64 p,.int .u8 d.toNat] w fun e w'=>e=.returned .nilIface∧R w') :
  Calls Tryz.prog 42 #[.pointer (some ⟨V,0,none⟩),.int .i64 i,.string nm,.int .i64 p,.int .u8 d.toNat] w fun e w'=>e=.returned .nilIface∧R w':=by
 have HO:=hid (openStore_yes V key n B bc sp i w h hi)
 have HS:=hid hs
 clear h hs
 go_enter Tryz.func42,Tryz.ntmps42
 go_wp2_with (go_at_call 67;refine HO.out.mono ?_;rintro e w0 ⟨rfl,rfl⟩)
 refine HS.out.mono ?_
 rintro e w1 ⟨rfl,hr⟩
 have HR:=hid hr
 clear hr
 go_wp2_with (go_at_call 53;refine (at_nil _ _).mono ?_;rintro e w3 ⟨rfl,rfl⟩)
 go_ret
 exact ⟨rfl,HR.out⟩
set_option maxRecDepth 100000 in
theorem cspoil_nil (C V i p:Nat) (d:UInt8) (nm:ByteArray) (w:World) (R:World→Prop) (h:Cf w C V)
  (hv:Calls Tryz.prog 42 #[.pointer (some ⟨V,0,none⟩),.int .i64 i,.string nm,.int .i64 p,.int .u8 d.toNat] w fun e w'=>e=.returned .nilIface∧R w') :
  Calls Tryz.prog 20 #[.pointer (some ⟨C,0,none⟩),.int .i64 i,.string nm,.int .i64 p,.int .u8 d.toNat] w fun e w'=>e=.returned (.int .i64 0)∧R w':=by
 have c0:w.cell? ⟨C,0,none⟩=some (.pointer (some ⟨V,0,none⟩)):=by rw [cells_at h];rfl
 have HV:=hid hv
 clear h hv
 go_enter Tryz.func20,Tryz.ntmps20
 go_wp2_with fail
 refine HV.out.mono ?_
 rintro e w1 ⟨rfl,hr⟩
 have HR:=hid hr
 clear hr
 go_wp2_with (go_at_call 36;refine (number_nil _).mono ?_;rintro e w2 ⟨rfl,rfl⟩)
 go_ret
 exact ⟨rfl,HR.out⟩
set_option maxRecDepth 100000 in
theorem cup_nil (C V i:Nat) (up:Bool) (w:World) (R:World→Prop) (h:Cf w C V)
  (hv:Calls Tryz.prog 41 #[.pointer (some ⟨V,0,none⟩),.int .i64 i,.bool up] w fun e w'=>e=.returned .nilIface∧R w') :
  Calls Tryz.prog 19 #[.pointer (some ⟨C,0,none⟩),.int .i64 i,.bool up] w fun e w'=>e=.returned (.int .i64 0)∧R w':=by
 have c0:w.cell? ⟨C,0,none⟩=some (.pointer (some ⟨V,0,none⟩)):=by rw [cells_at h];rfl
 have HV:=hid hv
 clear h hv
 go_enter Tryz.func19,Tryz.ntmps19
 go_wp2_with fail
 refine HV.out.mono ?_
 rintro e w1 ⟨rfl,hr⟩
 have HR:=hid hr
 clear hr
 go_wp2_with (go_at_call 36;refine (number_nil _).mono ?_;rintro e w2 ⟨rfl,rfl⟩)
 go_ret
 exact ⟨rfl,HR.out⟩
def takeB (V n i b key mode t l size epoch:Nat) (sa:Option Addr) (sn sc:Nat) (nm:ByteArray):Nat→Value→World→Prop
 | 0,v,_=>v=.pointer (some ⟨V,0,none⟩)
 | 1,v,_=>v=.int .i64 i
 | 2,v,_=>v=.agg #[.string nm,.int .i64 mode,.int .i64 t,.int .i64 l,.int .i64 size,.int .i64 epoch]
 | 3,v,_=>v=.agg #[.string nm,.int .i64 mode,.int .i64 t,.int .i64 l,.int .i64 size,.int .i64 epoch,.int .i64 n,.int .i64 i]
 | 4,v,_=>v=.pointer (some ⟨b,6,none⟩)
 | 5,v,_=>v=.slice sa sn sc
 | 6,v,_=>v=.pointer (some ⟨V,0,none⟩)
 | 7,v,_=>v=.pointer (some ⟨V,0,none⟩)
 | 8,v,_=>v=.pointer (some ⟨V,0,none⟩)
 | 9,v,_=>v=.int .u64 key
 | 10,v,w=>∃ev,v=.tuple #[.slice none 0 0,ev]∧Chain w 12 1 ev
 | 11,v,w=>∃ev,v=.tuple #[.slice none 0 0,ev]∧Chain w 12 1 ev
 | 12,v,_=>v=.slice none 0 0
 | 13,v,w=>Chain w 12 1 v
 | 14,v,_=>v=.slice none 0 0
 | 15,v,w=>Chain w 12 1 v
 | _,_,_=>True
theorem takeB_keeps {V n i b key mode t l size epoch:Nat} {sa:Option Addr} {sn sc:Nat} {nm:ByteArray} (j:Nat) (v:Value) (w w':World) (h:takeB V n i b key mode t l size epoch sa sn sc nm j v w) (hb:Below w.heap.size w w'):takeB V n i b key mode t l size epoch sa sn sc nm j v w':=by
 unfold takeB at h ⊢
 split at h
 ·exact h
 ·exact h
 ·exact h
 ·exact h
 ·exact h
 ·exact h
 ·exact h
 ·exact h
 ·exact h
 ·exact h
 ·exact h.imp fun ev h=>⟨h.1,h.2.keeps hb (Nat.le_refl _)⟩
 ·exact h.imp fun ev h=>⟨h.1,h.2.keeps hb (Nat.le_refl _)⟩
 ·exact h
 ·exact h.keeps hb (Nat.le_refl _)
 ·exact h
 ·exact h.keeps hb (Nat.le_refl _)
 ·trivial
set_option maxRecDepth 100000 in
set_option maxHeartbeats 1000000 in
theorem vpiece_bad (V key n B bc:Nat) (sp:Nat→Nat) (i:Nat) (down:Bool) (a:Option Addr) (c:Nat) (rs:List RecV) (r:RecV) (mode t l size epoch:Nat) (nm:ByteArray) (w:World) (h:Rdy w V key n B bc sp) (hi:i<n) (hs:St w (sp i) down a c rs) (hyes:hasName rs nm=true) (hr:r=rs[posOf rs nm]!)
  (len:Nat) (hlen:len=Cof.ngroups mode t l size) (X:List UInt8) (hp:IsPlan mode t l n) (he:epoch≤100) (hz:size≤60) (hn1:1≤nm.size) (hnm:nm.size≤12) (hk:key<18446744073709551616) (hl:len≤60) (hX:Rd w r.sa (bs X)) (hsn:r.sn=X.length) (hsc:r.sn≤r.sc) (hXl:X.length=10+nm.size+len+8) (hbad:¬∃P,Cof.Good key (Cof.head mode t l n i epoch size nm.data.toList) len X P) (hT:Tab w) :
  Calls Tryz.prog 94 #[.pointer (some ⟨V,0,none⟩),.int .i64 i,.agg #[.string nm,.int .i64 mode,.int .i64 t,.int .i64 l,.int .i64 size,.int .i64 epoch]] w fun e w' =>
   ∃ev,e=.returned (.tuple #[.slice none 0 0,ev])∧Chain w' 12 2 ev∧Below w.heap.size w w':=by
 obtain ⟨xb,xo,hsa,_,_⟩:=hX.pos (by rw [bs_length];omega)
 rw [hsa] at hX
 have HPC:=hid (fun w' hx=>piece_same mode t l n i epoch size key len hlen nm xb xo r.sn r.sc X w' hp hi he hz hn1 hnm hk hl hsn hsc (by omega) hx)
 have HX:=hid hX
 have HG:=hid hbad
 have HT:=hid hT
 have HSA:=hid hsa
 have hi8:=hi
 have hba:=(Below.refl w.heap.size w).alloc (Nat.le_refl _) (.cells #[.string nm,.int .i64 mode,.int .i64 t,.int .i64 l,.int .i64 size,.int .i64 epoch] 65)
 have hR:=h.keeps hba (Nat.le_refl _)
 have HR:=hid hR
 have HS:=hid (hs.keeps hba (Nat.le_refl _))
 have HYES:=hid (And.intro hyes hr)
 have hi':(i:Int)<(n:Int):=by omega
 have HI:=hid (show I64 (i:Int) by have:=h.n8;unfold I64;omega)
 clear h hs hyes hr hp he hz hk hX hsn hsc hbad hT hlen hXl
 go_enter Tryz.func94,Tryz.ntmps94
 go_wp2_with fail
 obtain ⟨w1,hw1⟩:∃w1,w1=w.alloc (.cells #[.string nm,.int .i64 mode,.int .i64 t,.int .i64 l,.int .i64 size,.int .i64 epoch] 65):=⟨_,rfl⟩
 have HOBJ:=hid (show w1.heap[w.heap.size]?=some (.cells #[.string nm,.int .i64 mode,.int .i64 t,.int .i64 l,.int .i64 size,.int .i64 epoch] 65) by rw [hw1];exact alloc_at _ _)
 have o0:w1.cell? ⟨w.heap.size,0,none⟩=some (.string nm):=by rw [hw1];simp
 have lO:w.heap.size<w1.heap.size:=by rw [hw1];simp
 rw [←hw1] at hR HR HS hba ⊢
 clear hw1
 have c1:=hR.va.c1
 have k0:=hR.st i hi
 have lV:=hR.va.lt
 have lB:=hR.va.bl
 clear hR
 have HFX:∀a:Act,(∀x∈[((0:Nat),Value.pointer (some ⟨V,0,none⟩)),(1,.int .i64 i),(5,.pointer (some ⟨w.heap.size,0,none⟩))],a.tmps.getD x.1 undef=x.2)→a.tmps[0]?.getD undef=.pointer (some ⟨V,0,none⟩)∧a.tmps[1]?.getD undef=.int .i64 i∧a.tmps[5]?.getD undef=.pointer (some ⟨w.heap.size,0,none⟩):=by
  intro a h
  simpa using h
 have HCELL:∀w':World,Below w1.heap.size { w1 with drawn:=w1.drawn+1 } w'→w'.cell? ⟨V,1,none⟩=some (.slice (some ⟨B,0,none⟩) n bc)∧w'.cell? ⟨B,i,none⟩=some (.pointer (some ⟨sp i,0,none⟩))∧w'.cell? ⟨w.heap.size,0,none⟩=some (.string nm):=by
  intro w' hb
  exact ⟨(hb.cell lV).trans c1,(hb.cell lB).trans k0,(hb.cell lO).trans o0⟩
 clear c1 k0 o0
 refine wp_region_mem (by kernel_rfl) pieceSlot (askR V B bc n i (sp i) w.heap.size nm r) [(0,.pointer (some ⟨V,0,none⟩)),(1,.int .i64 i),(5,.pointer (some ⟨w.heap.size,0,none⟩))] 47 13 14 [0,1,5] 127 #[.string r.name,.int .i64 r.mode,.int .i64 r.t,.int .i64 r.l,.int .i64 r.size,.int .i64 r.epoch,.slice r.sa r.sn r.sc,.slice r.na r.nn r.nc] #[.string ByteArray.empty,.int .i64 0,.int .i64 0,.int .i64 0,.int .i64 0,.int .i64 0,.slice none 0 0,.slice none 0 0] (.tmp 8) (.tmp 22) (by kernel_rfl) rfl ⟨_,rfl,fun a w=>by go_simp<;>rfl⟩ rfl ⟨_,rfl,rfl,fun a=>rfl,fun a w h=>?_⟩ Tryz.cellsRec (by simp [Value.oneCell']) rfl rfl ?_ (fun j v w w' h _=>askR_any h) (fun j v w' b c _ h _=>askR_any h) ?_ ?_
 ·have h11:=h ⟨11,.data⟩ (by simp) rfl (by decide) (by decide)
  simp [askR,pieceSlot] at h11
  simp [Act.eval]
  exact h11
 ·simp
 ·refine ⟨?_,?_,?_,?_,?_,?_,?_,?_,?_,?_,?_,?_,?_,?_,?_,?_,trivial⟩
  ·refine .inr (.inr fun a w' hb hf hd=>?_)
   obtain ⟨f0,f1,f5⟩:=HFX a hf
   obtain ⟨c1,k0,o0⟩:=HCELL w' hb
   simp [askR,pieceSlot,Region.binds] at hd
   exact .inl ⟨.pointer (some ⟨V,0,none⟩),w',by go_simp,Below.refl _ _,rfl⟩
  ·refine .inr (.inr fun a w' hb hf hd=>?_)
   obtain ⟨f0,f1,f5⟩:=HFX a hf
   obtain ⟨c1,k0,o0⟩:=HCELL w' hb
   simp [askR,pieceSlot,Region.binds] at hd
   exact .inl ⟨.pointer (some ⟨V,0,none⟩),w',by go_simp,Below.refl _ _,rfl⟩
  ·refine .inr (.inr fun a w' hb hf hd=>?_)
   obtain ⟨f0,f1,f5⟩:=HFX a hf
   obtain ⟨c1,k0,o0⟩:=HCELL w' hb
   simp [askR,pieceSlot,Region.binds] at hd
   exact .inl ⟨.pointer (some ⟨V,1,none⟩),w',by go_simp,Below.refl _ _,rfl⟩
  ·refine .inr (.inr fun a w' hb hf hd=>?_)
   obtain ⟨f0,f1,f5⟩:=HFX a hf
   obtain ⟨c1,k0,o0⟩:=HCELL w' hb
   simp [askR,pieceSlot,Region.binds] at hd
   exact .inl ⟨.slice (some ⟨B,0,none⟩) n bc,w',by go_simp,Below.refl _ _,rfl⟩
  ·refine .inr (.inr fun a w' hb hf hd=>?_)
   obtain ⟨f0,f1,f5⟩:=HFX a hf
   obtain ⟨c1,k0,o0⟩:=HCELL w' hb
   simp [askR,pieceSlot,Region.binds] at hd
   exact .inl ⟨.int .i64 i,w',by go_simp,Below.refl _ _,rfl⟩
  ·refine .inr (.inr fun a w' hb hf hd=>?_)
   obtain ⟨f0,f1,f5⟩:=HFX a hf
   obtain ⟨c1,k0,o0⟩:=HCELL w' hb
   simp [askR,pieceSlot,Region.binds] at hd
   exact .inl ⟨.pointer (some ⟨B,i,none⟩),w',by go_simp,Below.refl _ _,rfl⟩
  ·refine .inr (.inr fun a w' hb hf hd=>?_)
   obtain ⟨f0,f1,f5⟩:=HFX a hf
   obtain ⟨c1,k0,o0⟩:=HCELL w' hb
   simp [askR,pieceSlot,Region.binds] at hd
   exact .inl ⟨.pointer (some ⟨sp i,0,none⟩),w',by go_simp,Below.refl _ _,rfl⟩
  ·refine .inr (.inr fun a w' hb hf hd=>?_)
   obtain ⟨f0,f1,f5⟩:=HFX a hf
   obtain ⟨c1,k0,o0⟩:=HCELL w' hb
   simp [askR,pieceSlot,Region.binds] at hd
   exact .inl ⟨.pointer (some ⟨w.heap.size,0,none⟩),w',by go_simp,Below.refl _ _,rfl⟩
  ·refine .inr (.inr fun a w' hb hf hd=>?_)
   obtain ⟨f0,f1,f5⟩:=HFX a hf
   obtain ⟨c1,k0,o0⟩:=HCELL w' hb
   simp [askR,pieceSlot,Region.binds] at hd
   exact .inl ⟨.string nm,w',by go_simp,Below.refl _ _,rfl⟩
  ·refine .inr (.inr fun a w' hb hf hd=>?_)
   obtain ⟨f0,f1,f5⟩:=HFX a hf
   obtain ⟨c1,k0,o0⟩:=HCELL w' hb
   simp [askR,pieceSlot,Region.binds] at hd
   refine .inr ⟨69,#[.pointer (some ⟨sp i,0,none⟩),.string nm],by go_simp,(record_yes (sp i) down _ c rs r nm w' (HS.out.keeps ((Below.refl w1.heap.size w1).drew.trans hb) (Nat.le_refl _)) HYES.out.1 HYES.out.2).mono ?_⟩
   rintro e w'' ⟨rfl,hb2⟩
   exact ⟨_,rfl,hb2,rfl⟩
  ·refine .inr (.inr fun a w' hb hf hd=>?_)
   obtain ⟨f0,f1,f5⟩:=HFX a hf
   obtain ⟨c1,k0,o0⟩:=HCELL w' hb
   simp [askR,pieceSlot,Region.binds] at hd
   exact .inl ⟨.tuple #[.agg #[.string r.name,.int .i64 r.mode,.int .i64 r.t,.int .i64 r.l,.int .i64 r.size,.int .i64 r.epoch,.slice r.sa r.sn r.sc,.slice r.na r.nn r.nc],.nilIface],w',by go_simp,Below.refl _ _,rfl⟩
  ·refine .inr (.inr fun a w' hb hf hd=>?_)
   obtain ⟨f0,f1,f5⟩:=HFX a hf
   obtain ⟨c1,k0,o0⟩:=HCELL w' hb
   simp [askR,pieceSlot,Region.binds] at hd
   exact .inl ⟨.agg #[.string r.name,.int .i64 r.mode,.int .i64 r.t,.int .i64 r.l,.int .i64 r.size,.int .i64 r.epoch,.slice r.sa r.sn r.sc,.slice r.na r.nn r.nc],w',by go_simp,Below.refl _ _,rfl⟩
  ·refine .inr (.inr fun a w' hb hf hd=>?_)
   obtain ⟨f0,f1,f5⟩:=HFX a hf
   obtain ⟨c1,k0,o0⟩:=HCELL w' hb
   simp [askR,pieceSlot,Region.binds] at hd
   exact .inl ⟨.nilIface,w',by go_simp,Below.refl _ _,rfl⟩
  ·exact .inl rfl
  ·exact .inr (.inl rfl)
  ·refine .inr (.inr fun a w' hb hf hd=>?_)
   obtain ⟨f0,f1,f5⟩:=HFX a hf
   obtain ⟨c1,k0,o0⟩:=HCELL w' hb
   simp [askR,pieceSlot,Region.binds] at hd
   exact .inl ⟨.nilIface,w',by go_simp,Below.refl _ _,rfl⟩
 ·intro a1 w2 b hdf hsz hb hf hr hb1 hb2 hb3
  obtain ⟨tm,df⟩:=a1
  simp only at hdf hsz hf hr hb1
  subst hdf
  obtain ⟨u0,u1,u2,u3,u4,u5,u6,u7,u8,u9,u10,u11,u12,u13,u14,u15,u16,u17,u18,u19,u20,u21,u22,u23,u24,u25,u26,u27,u28,u29,u30,u31,u32,u33,u34,u35,u36,u37,u38,u39,u40,u41,u42,u43,u44,u45,u46,rfl⟩:=arr47 tm hsz
  have r15:=hr 15 (by decide) (by decide) (by decide)
  simp [askR,pieceSlot] at r15 hb1 hf
  obtain ⟨rfl,rfl,rfl⟩:=hf
  subst r15 hb1
  clear hr hsz
  go_wp2_with fail
  have hb12:Below w1.heap.size w1 w2:=(Below.refl w1.heap.size w1).drew.trans hb
  have hRd:=HR.out.keeps hb12 (Nat.le_refl _)
  have c0:=hRd.va.c0
  have HRD:=hid hRd
  have lV2:=hRd.va.lt
  have hbW:Below w.heap.size w w2:=hba.trans (hb12.mono (by omega))
  have HOB2:=hid (show w2.heap[w.heap.size]?=_ from (hb12.block _ lO).trans HOBJ.out)
  have lb:=cells_lt hb3
  have HFX2:∀a:Act,(∀x∈[((0:Nat),Value.pointer (some ⟨V,0,none⟩)),(1,.int .i64 i),(5,.pointer (some ⟨w.heap.size,0,none⟩)),(8,.pointer (some ⟨b,0,none⟩))],a.tmps.getD x.1 undef=x.2)→a.tmps[0]?.getD undef=.pointer (some ⟨V,0,none⟩)∧a.tmps[1]?.getD undef=.int .i64 i∧a.tmps[5]?.getD undef=.pointer (some ⟨w.heap.size,0,none⟩)∧a.tmps[8]?.getD undef=.pointer (some ⟨b,0,none⟩):=by
   intro a h
   simpa using h
  have HCELL2:∀w':World,Below w2.heap.size { w2 with drawn:=w2.drawn+1 } w'→w'.cell? ⟨V,0,none⟩=some (.int .u64 key)∧w'.cell? ⟨b,6,none⟩=some (.slice r.sa r.sn r.sc)∧w'.cell? ⟨w.heap.size,0,none⟩=some (.string nm)∧w'.cell? ⟨w.heap.size,1,none⟩=some (.int .i64 mode)∧w'.cell? ⟨w.heap.size,2,none⟩=some (.int .i64 t)∧w'.cell? ⟨w.heap.size,3,none⟩=some (.int .i64 l)∧w'.cell? ⟨w.heap.size,4,none⟩=some (.int .i64 size)∧w'.cell? ⟨w.heap.size,5,none⟩=some (.int .i64 epoch):=by
   intro w' hb'
   have lO2:w.heap.size<w2.heap.size:=cells_lt HOB2.out
   have e:∀o,w'.cell? ⟨w.heap.size,o,none⟩=w2.cell? ⟨w.heap.size,o,none⟩:=fun o=>hb'.cell lO2
   exact ⟨(hb'.cell lV2).trans c0,(hb'.cell lb).trans (show w2.cell? ⟨b,6,none⟩=_ by rw [cells_at hb3];rfl),by rw [e,cells_at HOB2.out];rfl,by rw [e,cells_at HOB2.out];rfl,by rw [e,cells_at HOB2.out];rfl,by rw [e,cells_at HOB2.out];rfl,by rw [e,cells_at HOB2.out];rfl,by rw [e,cells_at HOB2.out];rfl⟩
  clear hRd c0 hb3
  refine wp_region_each2 (by kernel_rfl) takeSlot (takeB V n i b key mode t l size epoch r.sa r.sn r.sc nm) [(0,.pointer (some ⟨V,0,none⟩)),(1,.int .i64 i),(5,.pointer (some ⟨w.heap.size,0,none⟩)),(8,.pointer (some ⟨b,0,none⟩))] 47 [0,1,5,8] (by kernel_rfl) rfl rfl rfl ?_ takeB_keeps ?_ ?_
  ·simp
  ·refine ⟨?_,?_,?_,?_,?_,?_,?_,?_,?_,?_,?_,?_,?_,?_,?_,?_,trivial⟩
   ·intro a w' hb' hf hd
    obtain ⟨f0,f1,f5,f8⟩:=HFX2 a hf
    obtain ⟨q0,q1,k0,k1,k2,k3,k4,k5⟩:=HCELL2 w' hb'
    simp [takeB,takeSlot,Region.binds] at hd
    exact .inl ⟨.pointer (some ⟨V,0,none⟩),w',by go_simp,Below.refl _ _,rfl⟩
   ·intro a w' hb' hf hd
    obtain ⟨f0,f1,f5,f8⟩:=HFX2 a hf
    obtain ⟨q0,q1,k0,k1,k2,k3,k4,k5⟩:=HCELL2 w' hb'
    simp [takeB,takeSlot,Region.binds] at hd
    exact .inl ⟨.int .i64 i,w',by go_simp,Below.refl _ _,rfl⟩
   ·intro a w' hb' hf hd
    obtain ⟨f0,f1,f5,f8⟩:=HFX2 a hf
    obtain ⟨q0,q1,k0,k1,k2,k3,k4,k5⟩:=HCELL2 w' hb'
    simp [takeB,takeSlot,Region.binds] at hd
    exact .inl ⟨.agg #[.string nm,.int .i64 mode,.int .i64 t,.int .i64 l,.int .i64 size,.int .i64 epoch],w',by go_simp,Below.refl _ _,rfl⟩
   ·intro a w' hb' hf hd
    obtain ⟨f0,f1,f5,f8⟩:=HFX2 a hf
    obtain ⟨q0,q1,k0,k1,k2,k3,k4,k5⟩:=HCELL2 w' hb'
    simp [takeB,takeSlot,Region.binds] at hd
    refine .inr ⟨91,#[.pointer (some ⟨V,0,none⟩),.int .i64 i,.agg #[.string nm,.int .i64 mode,.int .i64 t,.int .i64 l,.int .i64 size,.int .i64 epoch]],by go_simp,(label_any V key n B 0 bc sp i mode t l size epoch nm w' (HRD.out.va.keeps ((Below.refl w2.heap.size w2).drew.trans hb') (Nat.le_refl _))).mono ?_⟩
    rintro e w'' ⟨rfl,hb2'⟩
    exact ⟨_,rfl,hb2',rfl⟩
   ·intro a w' hb' hf hd
    obtain ⟨f0,f1,f5,f8⟩:=HFX2 a hf
    obtain ⟨q0,q1,k0,k1,k2,k3,k4,k5⟩:=HCELL2 w' hb'
    simp [takeB,takeSlot,Region.binds] at hd
    exact .inl ⟨.pointer (some ⟨b,6,none⟩),w',by go_simp,Below.refl _ _,rfl⟩
   ·intro a w' hb' hf hd
    obtain ⟨f0,f1,f5,f8⟩:=HFX2 a hf
    obtain ⟨q0,q1,k0,k1,k2,k3,k4,k5⟩:=HCELL2 w' hb'
    simp [takeB,takeSlot,Region.binds] at hd
    exact .inl ⟨.slice r.sa r.sn r.sc,w',by go_simp,Below.refl _ _,rfl⟩
   ·intro a w' hb' hf hd
    obtain ⟨f0,f1,f5,f8⟩:=HFX2 a hf
    obtain ⟨q0,q1,k0,k1,k2,k3,k4,k5⟩:=HCELL2 w' hb'
    simp [takeB,takeSlot,Region.binds] at hd
    exact .inl ⟨.pointer (some ⟨V,0,none⟩),w',by go_simp,Below.refl _ _,rfl⟩
   ·intro a w' hb' hf hd
    obtain ⟨f0,f1,f5,f8⟩:=HFX2 a hf
    obtain ⟨q0,q1,k0,k1,k2,k3,k4,k5⟩:=HCELL2 w' hb'
    simp [takeB,takeSlot,Region.binds] at hd
    exact .inl ⟨.pointer (some ⟨V,0,none⟩),w',by go_simp,Below.refl _ _,rfl⟩
   ·intro a w' hb' hf hd
    obtain ⟨f0,f1,f5,f8⟩:=HFX2 a hf
    obtain ⟨q0,q1,k0,k1,k2,k3,k4,k5⟩:=HCELL2 w' hb'
    simp [takeB,takeSlot,Region.binds] at hd
    exact .inl ⟨.pointer (some ⟨V,0,none⟩),w',by go_simp,Below.refl _ _,rfl⟩
   ·intro a w' hb' hf hd
    obtain ⟨f0,f1,f5,f8⟩:=HFX2 a hf
    obtain ⟨q0,q1,k0,k1,k2,k3,k4,k5⟩:=HCELL2 w' hb'
    simp [takeB,takeSlot,Region.binds] at hd
    exact .inl ⟨.int .u64 key,w',by go_simp,Below.refl _ _,rfl⟩
   ·intro a w' hb' hf hd
    obtain ⟨f0,f1,f5,f8⟩:=HFX2 a hf
    obtain ⟨q0,q1,k0,k1,k2,k3,k4,k5⟩:=HCELL2 w' hb'
    simp [takeB,takeSlot,Region.binds] at hd
    refine .inr ⟨133,#[.agg #[.string nm,.int .i64 mode,.int .i64 t,.int .i64 l,.int .i64 size,.int .i64 epoch,.int .i64 n,.int .i64 i],.slice r.sa r.sn r.sc,.int .u64 key],by go_simp,?_⟩
    rw [HSA.out]
    refine (HPC.out w' (HX.out.below (hbW.trans (((Below.refl w2.heap.size w2).drew.trans hb').mono hbW.size)) (Nat.le_refl _))).mono ?_
    rintro e w'' ⟨_,hg,hb2'⟩
    obtain ⟨ev,rfl,hch⟩:=hg HG.out
    exact ⟨_,rfl,hb2',ev,rfl,hch⟩
   ·intro a w' hb' hf hd
    obtain ⟨f0,f1,f5,f8⟩:=HFX2 a hf
    obtain ⟨q0,q1,k0,k1,k2,k3,k4,k5⟩:=HCELL2 w' hb'
    simp [takeB,takeSlot,Region.binds] at hd
    obtain ⟨ev,h10,hch⟩:=hd
    exact .inl ⟨.tuple #[.slice none 0 0,ev],w',by go_simp,Below.refl _ _,ev,rfl,hch⟩
   ·intro a w' hb' hf hd
    obtain ⟨f0,f1,f5,f8⟩:=HFX2 a hf
    obtain ⟨q0,q1,k0,k1,k2,k3,k4,k5⟩:=HCELL2 w' hb'
    simp [takeB,takeSlot,Region.binds] at hd
    obtain ⟨ev,h11,hch⟩:=hd
    exact .inl ⟨.slice none 0 0,w',by go_simp,Below.refl _ _,rfl⟩
   ·intro a w' hb' hf hd
    obtain ⟨f0,f1,f5,f8⟩:=HFX2 a hf
    obtain ⟨q0,q1,k0,k1,k2,k3,k4,k5⟩:=HCELL2 w' hb'
    simp [takeB,takeSlot,Region.binds] at hd
    obtain ⟨ev,h11,hch⟩:=hd
    exact .inl ⟨ev,w',by go_simp,Below.refl _ _,hch⟩
   ·intro a w' hb' hf hd
    obtain ⟨f0,f1,f5,f8⟩:=HFX2 a hf
    obtain ⟨q0,q1,k0,k1,k2,k3,k4,k5⟩:=HCELL2 w' hb'
    simp [takeB,takeSlot,Region.binds] at hd
    exact .inl ⟨.slice none 0 0,w',by go_simp,Below.refl _ _,rfl⟩
   ·intro a w' hb' hf hd
    obtain ⟨f0,f1,f5,f8⟩:=HFX2 a hf
    obtain ⟨q0,q1,k0,k1,k2,k3,k4,k5⟩:=HCELL2 w' hb'
    simp [takeB,takeSlot,Region.binds] at hd
    exact .inl ⟨a.tmps[42]?.getD undef,w',by go_simp,Below.refl _ _,hd.1⟩
  ·intro a2 w3 hdf hsz hb' hf hr
   obtain ⟨tm2,df2⟩:=a2
   simp only at hdf hsz hf hr
   subst hdf
   obtain ⟨x0,x1,x2,x3,x4,x5,x6,x7,x8,x9,x10,x11,x12,x13,x14,x15,x16,x17,x18,x19,x20,x21,x22,x23,x24,x25,x26,x27,x28,x29,x30,x31,x32,x33,x34,x35,x36,x37,x38,x39,x40,x41,x42,x43,x44,x45,x46,rfl⟩:=arr47 tm2 hsz
   have r14:=hr 14 (by decide)
   have r15:=hr 15 (by decide)
   simp [takeB,takeSlot] at r14 r15 hf
   obtain ⟨rfl,rfl,rfl,rfl⟩:=hf
   subst r14
   obtain ⟨te,ve,rfl⟩:=r15.shape
   have H15:=hid r15
   have hb23:Below w2.heap.size w2 w3:=(Below.refl w2.heap.size w2).drew.trans hb'
   have hbW3:=hbW.trans (hb23.mono hbW.size)
   have HT3:=hid (HT.out.keeps hbW3 (Nat.le_refl _))
   clear hr hsz r15 HFX HFX2 HCELL HCELL2
   go_wp2_with (go_at_call 79;refine (atStore_any _ _ 12 1 _ HI.out HT3.out H15.out).mono ?_;rintro e w4 ⟨e4,rfl,hc4,hb4⟩;(have H4:=hid hc4);clear hc4)
   go_ret2
   exact ⟨_,rfl,H4.out,hbW3.trans (hb4.mono hbW3.size)⟩
end Go.Proofs.YtcegdgmbponapabGreatDoor