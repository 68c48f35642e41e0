/-
  The pieces at the stores that are up.
  A value is got.
  The calls of a coffer that only read.
  Split, where it refuses.
-/
import Derived.Test.YtcegdgmbponapabGreatDoorWJoin
namespace Go.Proofs.YtcegdgmbponapabGreatDoor
open Go.RowKit
attribute [local go_sem ↓] Go.wp_at_zero Go.wp_at_succ
def upTo (down:Nat→Bool) (k:Nat):List Nat:=(List.range k).filter fun i=>!down i
theorem upTo_yes (down:Nat→Bool) (k:Nat) (h:down k=false):upTo down (k+1)=upTo down k++[k]:=by
 unfold upTo
 rw [List.range_succ,List.filter_append]
 simp [h]
theorem upTo_no (down:Nat→Bool) (k:Nat) (h:down k=true):upTo down (k+1)=upTo down k:=by
 unfold upTo
 rw [List.range_succ,List.filter_append]
 simp [h]
theorem upTo_le (down:Nat→Bool) (k:Nat):(upTo down k).length≤k:=by
 unfold upTo
 exact Nat.le_trans (List.length_filter_le _ _) (by simp)
theorem pcs_one (rows:List (List UInt8)) (ss:List Nat) (s:Nat):pcs rows (ss++[s])=pcs rows ss++[.int .i64 s,str (rows.getD s [])]:=by
 unfold pcs
 rw [List.flatMap_append]
 rfl
theorem prd_of_pcs {w:World} {base m:Nat} {e:TypeId} {v:Value} {rows:List (List UInt8)} {ss:List Nat} (h:w.ownsRow base e 2 v m (pcs rows ss)):∃a c,v=.slice a m c∧m≤c∧PRd w a ss (ss.map fun s=>(⟨(rows.getD s []).toArray⟩:ByteArray)):=by
 obtain ⟨a,c,rfl,hrd⟩:=owns_rd_size h
 refine ⟨a,c,rfl,owns_caps h,fun i hi=>?_⟩
 obtain ⟨h1,h2⟩:=pcs_at rows ss i hi
 obtain ⟨b,o,e1,e2,e3⟩:=hrd _ _ h1
 obtain ⟨b',o',e1',_,e3'⟩:=hrd _ _ h2
 rw [e1] at e1'
 obtain ⟨rfl,rfl⟩:=(by simpa using e1':b=b'∧o=o')
 refine ⟨b,o,e1,e2,?_,?_⟩
 ·rw [e3];simp [hi]
 ·rw [Nat.add_assoc,e3'];simp [hi,str]
/-! The calls of a coffer. -/
def Cf (w:World) (C V:Nat):Prop:=w.heap[C]?=some (.cells #[.pointer (some ⟨V,0,none⟩)] 59)
theorem Cf.keeps {own:Nat→Prop} {w w':World} {C V:Nat} (h:Cf w C V) (hs:Spared own w w') (ho:¬own C):Cf w' C V:=hs.heap h ho
set_option maxRecDepth 100000 in
theorem number_nil (w:World):Calls Tryz.prog 36 #[.nilIface] w fun e w'=>e=.returned (.int .i64 0)∧w'=w:=by
 go_enter Tryz.func36,Tryz.ntmps36
 go_wp2
 go_ret
 exact ⟨rfl,rfl⟩
set_option maxRecDepth 100000 in
theorem copen_any (n key:Nat) (w:World) (h1:1≤n) (h8:n≤8) :
  Calls Tryz.prog 6 #[.int .i64 n,.int .u64 key] w fun e w'=>∃C w1 ps v,e=.returned (.pointer (some ⟨C,0,none⟩))∧Opening w key n ps v w1∧C=w1.heap.size∧w'=w1.alloc (.cells #[.pointer (some ⟨w.heap.size,0,none⟩)] 59):=by
 have H:=hid (vopen_any n key w h1 h8)
 go_enter Tryz.func6,Tryz.ntmps6
 go_wp2_with fail
 refine H.out.mono ?_
 rintro e w1 ⟨ps,v,rfl,hop⟩
 have HOP:=hid hop
 clear hop
 go_wp2
 go_ret
 exact ⟨_,w1,ps,v,rfl,HOP.out,rfl,rfl⟩
set_option maxRecDepth 100000 in
theorem cget_of (C V size:Nat) (nm:ByteArray) (J:List UInt8) (w:World) (h:Cf w C V) (hJ:size=J.length)
  (hv:Calls Tryz.prog 46 #[.pointer (some ⟨V,0,none⟩),.string nm] w fun e w'=>∃av cv,e=.returned (.tuple #[.slice av size cv,.nilIface])∧Rd w' av (bs J)∧Below w.heap.size w w') :
  Calls Tryz.prog 23 #[.pointer (some ⟨C,0,none⟩),.string nm] w fun e w'=>e=.returned (.tuple #[.string ⟨J.toArray⟩,.int .i64 0])∧Below w.heap.size w w':=by
 have c0:w.cell? ⟨C,0,none⟩=some (.pointer (some ⟨V,0,none⟩)):=by rw [cells_at h];rfl
 have HV:=hid hv
 have HJ:=hid hJ
 clear h hv hJ
 go_enter Tryz.func23,Tryz.ntmps23
 go_wp2_with fail
 refine HV.out.mono ?_
 rintro e w1 ⟨av,cv,rfl,hrd,hb1⟩
 have HRD:=hid hrd
 clear hrd
 go_wp2_with (go_at_call 43;refine (told_ok av cv size J _ HJ.out HRD.out).mono ?_;rintro e w2 ⟨rfl,rfl⟩)
 go_ret2
 exact ⟨rfl,hb1⟩
theorem Opening.parts {w w1:World} {key n:Nat} {ps:List Nat} {v:Value} (h:Opening w key n ps v w1) (h1:1≤n):∃B bc,Vt w1 w.heap.size key n B bc (fun i=>ps[i]!) 0 false 0 false∧(∀i,i<n→Sto w1 (ps[i]!) false (.slice none 0 0) [])∧(∀i j,i<j→j<n→ps[i]! ≠ ps[j]!)∧w.heap.size≤B∧∀i,i<n→w.heap.size≤ps[i]! := by
 obtain ⟨g,cap,rfl,hg1,hg2⟩:=row_some h.row (by omega)
 have hlen:=h.len
 rcases h.row with ⟨_,⟨hx,_⟩|⟨g',cap',cur,hv,_,h4,_,_,_,h8⟩⟩
 ·cases hx
 ·cases hv
  have hmem:∀i,i<n→ps[i]! ∈ ps:=fun i hi=>by rw [getElem!_pos ps i (by omega)];exact List.getElem_mem _
  refine ⟨g,cap,⟨h.hp,cur,h4,fun i hi=>?_⟩,fun i hi=>⟨(h.st _ (hmem i hi)).1,⟨rfl,.inl ⟨rfl,rfl⟩⟩,sorted_nil,by simp⟩,fun i j hij hj e=>?_,hg1,fun i hi=>Nat.le_of_lt (h.st _ (hmem i hi)).2⟩
  ·have e1:(cur.toList.take (n*1))[i]?=(ptrs ps)[i]?:=by rw [h8]
   rw [List.getElem?_take,if_pos (by omega)] at e1
   rw [←Array.getElem?_toList,e1,getElem!_pos ps i (by omega)]
   simp [ptrs,show i<ps.length by omega]
  ·rw [getElem!_pos ps i (by omega),getElem!_pos ps j (by omega)] at e
   exact List.pairwise_iff_getElem.1 h.nd i j (by omega) (by omega) hij e
set_option maxRecDepth 100000 in
theorem checkTape_bad (tape:ByteArray) (need:Nat) (w:World) (h:tape.size<need) (hn:need≤1000) (hT:Tab w) :
  Calls Tryz.prog 116 #[.string tape,.int .i64 need] w fun e w'=>∃ev,e=.returned ev∧Chain w' 7 1 ev∧Below w.heap.size w w':=by
 have h1:¬(need:Int)≤(tape.size:Int):=by omega
 have HS:=hid (show I64 (tape.size:Int) by unfold I64;omega)
 go_enter Tryz.func116,Tryz.ntmps116
 go_wp2_with (go_at_call 77;refine (atCount_any _ _ _ 7 0 _ HS.out (by decide) hT .hit).mono ?_;rintro e w3 ⟨ev,rfl,hch,hb3⟩)
 go_ret
 exact ⟨_,rfl,hch,hb3⟩
set_option maxRecDepth 100000 in
set_option maxHeartbeats 1000000 in
theorem cutSplit_tape (mode t l n:Nat) (v tape:ByteArray) (w:World) (hT:Tab w) (h:IsPlan mode t l n) (hv:v.size≤60) (hsh:tape.size<Cof.tsize mode t*Cof.ngroups mode t l v.size) :
  Calls Tryz.prog 88 #[.string v,.agg #[.int .i64 mode,.int .i64 t,.int .i64 l],.int .i64 n,.string tape] w fun e w' =>
   ∃ev,e=.returned (.tuple #[.slice none 0 0,ev])∧Chain w' 7 2 ev∧Below w.heap.size w w':=by
 have hng:=ngroups_le h v.size hv
 have hts:Cof.tsize mode t≤8:=by obtain ⟨_,_,_,_,_,h6⟩:=h;unfold Cof.tsize;split<;>omega
 have hba:=(Below.refl w.heap.size w).alloc (Nat.le_refl _) (.cells #[.int .i64 mode,.int .i64 t,.int .i64 l] 29)
 have HT:=hid (hT.keeps hba (Nat.le_refl _))
 clear hT
 go_enter Tryz.func88,Tryz.ntmps88
 go_wp2_with fail
 refine (layoutFor_ok mode t l n v.size _ h hv).mono ?_
 rintro e w1 ⟨ag,cg,at',ct,rfl,hlay,hb1⟩
 generalize Cof.gsize mode t l=gs at *
 generalize Cof.tsize mode t=ts at *
 generalize Cof.ngroups mode t l v.size=ng at *
 have hbl:=(Below.refl w1.heap.size w1).alloc (Nat.le_refl _) (.cells #[.slice ag gs cg,.slice at' ts ct,.int .i64 ng] 181)
 have HT1:=hid ((HT.out.keeps hb1 (Nat.le_refl _)).keeps hbl (Nat.le_refl _))
 have hb01:Below w.heap.size w w1:=hba.trans (hb1.mono (by simp))
 have hq480:ts*ng≤8*60:=Nat.mul_le_mul hts hng
 clear hlay h hb1
 go_wp2_with fail
 refine (tapeNeed_any ag at' gs cg ts ct ng _ hts hng).mono ?_
 rintro e w2 ⟨rfl,hb2⟩
 have HT2:=hid (HT1.out.keeps hb2 (Nat.le_refl _))
 generalize ts*ng=need at *
 have HSH:=hid hsh
 clear hsh
 go_wp2_with fail
 refine (checkTape_bad tape need _ HSH.out (by omega) HT2.out).mono ?_
 rintro e w3 ⟨ev,rfl,hch,hb3⟩
 obtain ⟨te,ve,rfl⟩:=hch.shape
 have HC:=hid hch
 clear hch
 go_wp2_with (go_at_call 53;refine (at_chain _ _ 7 1 _ HC.out).mono ?_;rintro e w4 ⟨ev,rfl,hch,hb4⟩)
 go_ret2
 have z1:=hb01.size
 have z2:=hb2.size
 have z3:=hb3.size
 simp at z2
 exact ⟨_,rfl,hch,(((hb01.trans (hbl.mono z1)).trans (hb2.mono (by simp;omega))).trans (hb3.mono (by omega))).trans (hb4.mono (by omega))⟩
end Go.Proofs.YtcegdgmbponapabGreatDoor