import Derived.Test.YtcegdgmbponapaaGreatDoorPart01
set_option maxRecDepth 100000
set_option maxHeartbeats 4000000
namespace Go.Proofs.YtcegdgmbponapaaGreatDoor
open Go.RowKit
attribute [local go_sem ↓] Go.wp_at_zero Go.wp_at_succ
theorem qao {mode t l n:Nat} (h:qaj mode t l n) (size:Nat) (hs:size≤60):Cof.ngroups mode t l size≤60:=by
 have h1:1≤Cof.gsize mode t l:=by have:=h.t1;have:=h.l1;unfold Cof.gsize;split<;>omega
 unfold Cof.ngroups
 generalize Cof.gsize mode t l=g at h1
 refine Nat.le_trans (m:=size) ?_ hs
 rcases Nat.eq_zero_or_pos size with h0 | h0
 ·subst h0
  have:(0+g-1) / g=0:=Nat.div_eq_of_lt (by omega)
  omega
 ·refine Nat.div_le_of_le_mul ?_
  have e:g*size=g+g*(size-1):=by
   obtain ⟨m,rfl⟩:∃m,size=m+1:=⟨size-1,by omega⟩
   rw [Nat.mul_add];simp;omega
  have:size-1≤g*(size-1):=Nat.le_mul_of_pos_left _ h1
  omega
def qcu (w:World) (vs:List Value) (rows:List (List UInt8)):Prop:=vs.length=rows.length∧∀(k:Nat) (v:Value),vs[k]?=some v→∃a' cap',v=.slice a' (rows.getD k []).length cap'∧Rd w a' (bs (rows.getD k []))
theorem qcu.below {B:Nat} {w w':World} {vs:List Value} {rows:List (List UInt8)} (h:qcu w vs rows) (hb:Below B w w') (hB:w.heap.size≤B):qcu w' vs rows:=by
 refine ⟨h.1,fun k v hk=>?_⟩
 obtain ⟨a',cap',h4,h5⟩:=h.2 k v hk
 exact ⟨a',cap',h4,h5.below hb hB⟩
theorem qcu.one {w:World} {vs:List Value} {rows:List (List UInt8)} (h:qcu w vs rows) (u:Value) (hu:u∈vs):u.oneCell'=true:=by
 obtain ⟨k,hk⟩:=List.mem_iff_getElem?.1 hu
 obtain ⟨a',cap',h4,_⟩:=h.2 k u hk
 rw [h4];rfl
theorem qcu.append {w:World} {vs vs':List Value} {rows rows':List (List UInt8)} (h:qcu w vs rows) (h':qcu w vs' rows'):qcu w (vs++vs') (rows++rows'):=by
 refine ⟨by simp [h.1,h'.1],fun k v hk=>?_⟩
 have e:=h.1
 by_cases hl:k<vs.length
 ·rw [List.getElem?_append_left hl] at hk
  have:=h.2 k v hk
  rw [List.getD_eq_getElem?_getD,List.getElem?_append_left (by omega),←List.getD_eq_getElem?_getD]
  exact this
 ·rw [List.getElem?_append_right (by omega)] at hk
  have:=h'.2 _ v hk
  rw [List.getD_eq_getElem?_getD,List.getElem?_append_right (by omega),←List.getD_eq_getElem?_getD,←e]
  exact this
theorem qaE.split {w:World} {a:Option Addr} {rows:List (List UInt8)} (h:qaE w a rows):∃vs,Rd w a vs∧qcu w vs rows:=by
 obtain ⟨vs,h1,h2,h3⟩:=h
 exact ⟨vs,h2,h1,h3⟩
theorem qaV (text:List UInt8) (width groups:Nat):(Cof.deal text width groups).length=width:=by simp [Cof.deal]
theorem qcg (mode t l n:Nat) (v tape:ByteArray) (w:World) (h:qaj mode t l n) (hv:v.size≤60) (htp:Cof.tsize mode t*Cof.ngroups mode t l v.size≤tape.size) :
  Calls Tryz.prog 53 #[.string v,.agg #[.int .i64 mode,.int .i64 t,.int .i64 l],.int .i64 n,.string tape] w fun e w' =>
   ∃g,e=.returned (.tuple #[.slice (some ⟨g,0,none⟩) n n,.nilIface])∧qaE w' (some ⟨g,0,none⟩) (Cof.split v.data.toList mode t l n tape.data.toList)∧Below w.heap.size w w'∧OwnR w' w.heap.size g n 50:=by
 have hn8:=h.n8
 have hng:=qao h v.size hv
 have hgs:Cof.gsize mode t l≤8:=by obtain ⟨_,_,_,_,_,h6⟩:=h;unfold Cof.gsize;split<;>omega
 have hts:Cof.tsize mode t≤8:=by obtain ⟨_,_,_,_,_,h6⟩:=h;unfold Cof.tsize;split<;>omega
 go_enter Tryz.func53,Tryz.ntmps53
 go_wp2_with fail
 refine (qbx mode t l n v.size _ h hv).mono ?_
 rintro e w1 ⟨ag,cg,at',ct,rfl,hlay,hb1⟩
 generalize hG:Cof.gsize mode t l=gs at *
 generalize hT:Cof.tsize mode t=ts at *
 generalize hN:Cof.ngroups mode t l v.size=ng at *
 have HG:=hid hG
 have HT:=hid hT
 have HN:=hid hN
 clear hG hT hN
 go_wp2_with fail
 refine (qcr ag at' gs cg ts ct ng _ hts hng).mono ?_
 rintro e w2 ⟨rfl,hb2⟩
 generalize hq:ts*ng=need at *
 have HQ:=hid hq
 clear hq
 go_wp2_with fail
 have hz1:w1.heap.size<w2.heap.size:=by have:=hb2.size;simp at this;omega
 have c0:w2.cell? ⟨w1.heap.size,0,none⟩=some (.slice ag gs cg):=(hb2.cell (by simp)).trans (by simp)
 have c1:w2.cell? ⟨w1.heap.size,1,none⟩=some (.slice at' ts ct):=(hb2.cell (by simp)).trans (by simp)
 have c2:w2.cell? ⟨w1.heap.size,2,none⟩=some (.int .i64 ng):=(hb2.cell (by simp)).trans (by simp)
 have hb02:Below w.heap.size w w2:=((((Below.refl _ _).alloc nl _).trans (hb1.mono (by simp))).alloc (by have:=hb1.size;simp at this;omega) _).trans (hb2.mono (by have:=hb1.size;simp at this;simp;omega))
 have hlay2:=(hlay.below ((Below.refl w1.heap.size w1).alloc nl _) nl).below hb2 nl
 clear hlay hb1 hb2
 refine (qgz tape need _ htp).mono ?_
 rintro e w2' ⟨rfl,rfl⟩
 have d0:∀c t,(w2'.alloc (.cells c t)).cell? ⟨w1.heap.size,0,none⟩=some (.slice ag gs cg):=fun c t=>(((Below.refl w2'.heap.size w2').alloc nl (.cells c t)).cell (by exact hz1)).trans c0
 go_wp2_with fail
 have hba:=(Below.refl w2'.heap.size w2').alloc nl (.cells #[.slice ag gs cg,.slice at' ts ct] 163)
 have hlg:(bs (Cof.groupAt mode t l)).length=gs:=by
  rw [qag,←HG.out];unfold Cof.groupAt Cof.gsize;split<;>simp [Cof.length_run]
 have hlt:(bs (Cof.tapeAt mode t)).length=ts:=by
  rw [qag,←HT.out];unfold Cof.tapeAt Cof.tsize;split<;>simp [Cof.length_run]
 refine (qlQ w2'.heap.size gs cg ts ct ag at' (bs (Cof.groupAt mode t l)) (bs (Cof.tapeAt mode t)) _ (by simp) (by simp) (by simp) (by exact hlay2.g.below hba nl) (by exact hlay2.t.below hba nl) hlg hlt hlay2.gz hlay2.tz (qcJ _) (qcJ _) (by omega) (by omega)).mono ?_
 rintro e w3 ⟨v3,rfl,hown3,hb3⟩
 obtain ⟨a3,cap3,rfl,hrd3⟩:=qaw hown3
 have hz3:w2'.heap.size<w3.heap.size:=by have:=hb3.size;simp at this;omega
 have e0:w3.cell? ⟨w1.heap.size,0,none⟩=some (.slice ag gs cg):=(hb3.cell (by simp;omega)).trans ((hba.cell (by exact hz1)).trans c0)
 have e1:w3.cell? ⟨w1.heap.size,1,none⟩=some (.slice at' ts ct):=(hb3.cell (by simp;omega)).trans ((hba.cell (by exact hz1)).trans c1)
 have e2:w3.cell? ⟨w1.heap.size,2,none⟩=some (.int .i64 ng):=(hb3.cell (by simp;omega)).trans ((hba.cell (by exact hz1)).trans c2)
 have hb03:Below w.heap.size w w3:=hb02.trans ((hba.mono hb02.size).trans (hb3.mono (by have:=hb02.size;simp;omega)))
 clear hown3 hba hb3 hlay2 hlg hlt d0 c0 c1 c2
 go_wp2_with fail
 go_region_held3 (fun w'=>w'.cell? ⟨w1.heap.size,0,none⟩=some (.slice ag gs cg)∧w'.cell? ⟨w1.heap.size,1,none⟩=some (.slice at' ts ct)∧w'.cell? ⟨w1.heap.size,2,none⟩=some (.int .i64 ng)) (first | exact ⟨(hb7.cell (by simp;omega)).trans ((hba.cell (by show w1.heap.size<w6.heap.size;omega)).trans k0),(hb7.cell (by simp;omega)).trans ((hba.cell (by show w1.heap.size<w6.heap.size;omega)).trans k1),(hb7.cell (by simp;omega)).trans ((hba.cell (by show w1.heap.size<w6.heap.size;omega)).trans k2)⟩|exact ⟨(hba.cell (by show w1.heap.size<w6.heap.size;omega)).trans k0,(hba.cell (by show w1.heap.size<w6.heap.size;omega)).trans k1,(hba.cell (by show w1.heap.size<w6.heap.size;omega)).trans k2⟩|exact ⟨k0,k1,k2⟩|exact ⟨j0,j1,j2⟩|exact ⟨i0,i1,i2⟩|go_keep)
  (first
   | (go_at_call_of 96 (Value.string v);refine (qfL v gs ng _ hgs hng).mono ?_;rintro e w4 ⟨g4,rfl,hr4,hb4⟩;obtain ⟨vs4,hx4,hq4⟩:=hr4.split;have l4:=hq4.1.trans (qaV _ _ _);have HL4:=hid l4;clear l4 hr4;have z4:w3.heap.size≤w4.heap.size:=hb4.size;have i0:w4.cell? ⟨w1.heap.size,0,none⟩=some (.slice ag gs cg):=(hb4.cell (by show w1.heap.size<w3.heap.size;omega)).trans e0;have i1:w4.cell? ⟨w1.heap.size,1,none⟩=some (.slice at' ts ct):=(hb4.cell (by show w1.heap.size<w3.heap.size;omega)).trans e1;have i2:w4.cell? ⟨w1.heap.size,2,none⟩=some (.int .i64 ng):=(hb4.cell (by show w1.heap.size<w3.heap.size;omega)).trans e2)
   | (go_at_call 93;refine (qie ag at' gs cg ts ct ng need _ hts hng HQ.out).mono ?_;rintro e w5 ⟨rfl,hb5⟩;have z5:w4.heap.size≤w5.heap.size:=hb5.size;have j0:w5.cell? ⟨w1.heap.size,0,none⟩=some (.slice ag gs cg):=(hb5.cell (by show w1.heap.size<w4.heap.size;omega)).trans i0;have j1:w5.cell? ⟨w1.heap.size,1,none⟩=some (.slice at' ts ct):=(hb5.cell (by show w1.heap.size<w4.heap.size;omega)).trans i1;have j2:w5.cell? ⟨w1.heap.size,2,none⟩=some (.int .i64 ng):=(hb5.cell (by show w1.heap.size<w4.heap.size;omega)).trans i2)
   | (go_at_call 96;refine (qfL _ ts ng _ hts hng).mono ?_;rintro e w6 ⟨g6,rfl,hr6,hb6⟩;obtain ⟨vs6,hx6,hq6⟩:=hr6.split;have l6:=hq6.1.trans (qaV _ _ _);have HL6:=hid l6;clear l6 hr6;have z6:w5.heap.size≤w6.heap.size:=hb6.size;have k0:w6.cell? ⟨w1.heap.size,0,none⟩=some (.slice ag gs cg):=(hb6.cell (by show w1.heap.size<w5.heap.size;omega)).trans j0;have k1:w6.cell? ⟨w1.heap.size,1,none⟩=some (.slice at' ts ct):=(hb6.cell (by show w1.heap.size<w5.heap.size;omega)).trans j1;have k2:w6.cell? ⟨w1.heap.size,2,none⟩=some (.int .i64 ng):=(hb6.cell (by show w1.heap.size<w5.heap.size;omega)).trans j2;have hba:=(Below.refl w6.heap.size w6).alloc nl (.cells #[.slice (some ⟨g4,0,none⟩) gs gs,.slice (some ⟨g6,0,none⟩) ts ts] 109);have hb46:Below w4.heap.size w4 w6:=hb5.trans (hb6.mono z5))
   | (go_at_call 95;refine (qlw w6.heap.size gs gs ts ts (some ⟨g4,0,none⟩) (some ⟨g6,0,none⟩) vs4 vs6 _ (by simp) (by simp) (by simp) (by exact (hx4.below hb46 nl).below hba nl) (by exact hx6.below hba nl) HL4.out HL6.out (fun h=>by cases h) (fun h=>by cases h) hq4.one hq6.one (by omega) (by omega)).mono ?_;rintro e w7 ⟨v7,rfl,hown7,hb7⟩;obtain ⟨a7,cap7,rfl,hrd7⟩:=qaw hown7;have z7:w6.heap.size<w7.heap.size:=by have:=hb7.size;simp at this;omega))
 have hrows7:qcu w7 (vs4++vs6) (Cof.deal v.data.toList gs ng++Cof.deal _ ts ng):=(((hq4.below hb46 nl).below hba nl).below hb7 nl).append ((hq6.below hba nl).below hb7 nl)
 have hb37:Below w3.heap.size w3 w7:=(((Below.refl _ _).drew).trans hb4).trans ((hb46.mono z4).trans ((hba.mono (by omega)).trans (hb7.mono (by simp;omega))))
 clear hown7 hx4 hx6 hq4 hq6 i0 i1 i2 j0 j1 j2 k0 k1 k2 e0 e1 e2 hba hb7 hb46 hb4 hb5 hb6
 have HR7:=hid hrows7
 clear hrows7
 go_wp2_with fail
 refine (run_any 1 n _ (by omega)).mono ?_
 rintro e w8 ⟨g8,rfl,hrd8,hb8,_⟩
 have hfrm:Rd w8 a3 (bs (Cof.groupAt mode t l++Cof.tapeAt mode t)):=by
  have:=(hrd3.below hb37 nl).below hb8 nl
  simpa [bs] using this
 have hlg:(Cof.groupAt mode t l).length=gs:=by
  rw [←HG.out];unfold Cof.groupAt Cof.gsize;split<;>simp [Cof.length_run]
 have hlt:(Cof.tapeAt mode t).length=ts:=by
  rw [←HT.out];unfold Cof.tapeAt Cof.tsize;split<;>simp [Cof.length_run]
 have hrw:qaE w8 a7 (Cof.deal v.data.toList gs ng++Cof.deal (tape.extract 0 need).data.toList ts ng):=qaE.below ⟨_,HR7.out.1,hrd7,HR7.out.2⟩ hb8 nl
 have hm1:gs*ng≤8*60:=Nat.mul_le_mul hgs hng
 have hm2:ts*ng≤8*60:=Nat.mul_le_mul hts hng
 have hlen:∀k,((Cof.deal v.data.toList gs ng++Cof.deal (tape.extract 0 need).data.toList ts ng).getD k []).length≤500:=by
  intro k
  rcases Nat.lt_or_ge k gs with hk | hk
  ·rw [List.getD_eq_getElem?_getD,List.getElem?_append_left (by rw [qaV];exact hk)]
   simp only [Cof.deal,List.getElem?_map,List.getElem?_range hk,Option.map_some,Option.getD_some]
   exact Nat.le_trans (qdw _ _ _ _) (by omega)
  ·rw [List.getD_eq_getElem?_getD,List.getElem?_append_right (by rw [qaV];exact hk),qaV]
   rcases Nat.lt_or_ge (k-gs) ts with hk2 | hk2
   ·simp only [Cof.deal,List.getElem?_map,List.getElem?_range hk2,Option.map_some,Option.getD_some]
    exact Nat.le_trans (qdw _ _ _ _) (by omega)
   ·rw [List.getElem?_eq_none (by rw [qaV];exact hk2)];simp
 have HLG:=hid hlg
 have HLT:=hid hlt
 clear hm1 hm2 hlg hlt
 go_wp2_with fail
 refine (qep a3 a7 _ (gs+ts) cap3 (gs+ts) cap7 n n (Cof.groupAt mode t l++Cof.tapeAt mode t) (Cof.run 1 n) (Cof.deal v.data.toList gs ng++Cof.deal (tape.extract 0 need).data.toList ts ng) _ (by rw [List.length_append,HLG.out,HLT.out]) (by rw [List.length_append,qaV,qaV]) (by rw [Cof.length_run]) hfrm hrw hrd8 (by omega) nl (by omega) hlen).mono ?_
 rintro e w9 ⟨g9,rfl,hrd9,hb9,vs9,hown9⟩
 have HOW9:=hid hown9
 clear hown9
 have HE:Hid (Cof.split v.data.toList mode t l n tape.data.toList=Cof.carry (Cof.groupAt mode t l++Cof.tapeAt mode t) (Cof.deal v.data.toList gs ng++Cof.deal (tape.extract 0 need).data.toList ts ng) (Cof.run 1 n)):=by
  have e1:v.data.toList.length=v.size:=rfl
  have e2:(tape.extract 0 need).data.toList=tape.data.toList.take need:=by simp
  show Cof.split _ _ _ _ _ _=_
  unfold Cof.split
  rw [e1,HN.out,HG.out,HT.out,HQ.out,e2]
 have hs37:=hb37.size
 have hs8:=hb8.size
 go_wp2
 go_ret2
 exact ⟨_,rfl,by rw [HE.out];exact hrd9,hb03.trans ((hb37.mono hb03.size).trans ((hb8.mono (by have:=hb03.size;omega)).trans (hb9.mono (by have:=hb03.size;omega)))),_,qaf HOW9.out (by have:=hb03.size;omega)⟩
def rowV (F:Nat→Value) (z:Value) (n k:Nat):List Value:=(List.range n).map fun i=>if i<k then F i else z
theorem qiK (F:Nat→Value) (z:Value) (n:Nat):rowV F z n 0=List.replicate n z:=by
 apply List.ext_getElem
 ·simp [rowV]
 ·intro i h1 h2;simp [rowV]
theorem qks (F:Nat→Value) (z:Value) (n:Nat):rowV F z n n=(List.range n).map F:=by
 apply List.map_congr_left
 intro i hi
 simp [List.mem_range.1 hi]
theorem qkK (F:Nat→Value) (z:Value) (n k:Nat):(rowV F z n k).set k (F k)=rowV F z n (k+1):=by
 apply List.ext_getElem
 ·simp [rowV]
 ·intro i h1 h2
  simp only [List.getElem_set]
  split
  ·rename_i h;subst h;simp [rowV]
  ·rename_i h
   simp only [rowV,List.getElem_map,List.getElem_range]
   by_cases hi:i<k
   ·simp [hi,show i<k+1 from by omega]
   ·simp [hi,show ¬i<k+1 from by omega]
theorem qlM (F:Nat→Value) (z:Value) (n k:Nat) (h:k<n):(rowV F z n k)[k]?=some z:=by simp [rowV,h]
def str (r:List UInt8):Value:=.string ⟨r.toArray⟩
def strs (rows:List (List UInt8)):List Value:=rows.map str
theorem Tryz.infoS:(Tryz.prog.info? 9).map (fun i=>(i.zero,i.size,i.bytes))=some (some (.string ByteArray.empty),1,16):=by kernel_rfl
theorem qky {w w1:World} {e:TypeId} {n:Nat} (F:Nat→Value) (h:w1.ownsRow w.heap.size e 1 (.slice (some ⟨w.heap.size,0,none⟩) n n) n (madeCells (Value.string ByteArray.empty).cells (n*1)).toList) :
  w1.ownsRow w.heap.size e 1 (.slice (some ⟨w.heap.size,0,none⟩) n n) n (rowV F (.string ByteArray.empty) n 0):=by
 have e:(madeCells (Value.string ByteArray.empty).cells (n*1)).toList=rowV F (.string ByteArray.empty) n 0:=by
  rw [Nat.mul_one,qiK]
  show (madeCells #[Value.string ByteArray.empty] n).toList=_
  rw [toList_madeCells_one]
 rw [e] at h;exact h
theorem qbm (v:List UInt8) (mode t l n:Nat) (tape:List UInt8):(Cof.split v mode t l n tape).length=n:=by simp [Cof.split,Cof.carry,Cof.run]
theorem qkk (ao:Option Addr) (n c:Nat) (rows:List (List UInt8)) (w:World) (hr:qaE w ao rows) (hl:rows.length=n) (hn:n≤8) :
  Calls Tryz.prog 54 #[.slice ao n c] w fun e w' =>
   ∃g,e=.returned (.slice (some ⟨g,0,none⟩) n n)∧w'.ownsRow w.heap.size 9 1 (.slice (some ⟨g,0,none⟩) n n) n (strs rows)∧Below w.heap.size w w':=by
 obtain ⟨i0,hi,hz0,hz1,hz2⟩:=info_parts Tryz.infoS
 have HRL:=hid hl
 have HRD:=hid hr
 clear hl hr
 go_enter Tryz.func54,Tryz.ntmps54
 go_wp2_with (first | (at_make;refine wpList_make_full _ rfl (.tmp 7) (.tmp 7) 30 rfl w.heap.size 9 i0 (.string ByteArray.empty) 1 Tryz.underlying30 hi hz0 hz1 .i64 .i64 _ _ n rfl rfl rfl rfl (by rw [hz2];omega) (by unfold maxLen;omega) nl ?_;intro w2 hown2 hgrow2;have hb2:=grown_below hgrow2;have HO2:=hid (qky (fun i=>str (rows.getD i [])) hown2);clear hown2 hgrow2)|fail)
 go_loopw [11] (fun i wr=>∃k:Nat,k≤n∧i=.int .i64 k∧wr.ownsRow w.heap.size 9 1 (.slice (some ⟨w.heap.size,0,none⟩) n n) n (rowV (fun i=>str (rows.getD i [])) (.string ByteArray.empty) n k)∧Below w.heap.size w wr)
  (fun i _=>n-(intOf i).toNat)
 case atStart=>exact ⟨0,Nat.zero_le _,rfl,HO2.out,hb2⟩
 case round =>
  obtain ⟨k,hk,rfl,hown,hbel⟩:=hrel
  by_cases hlt:k<n
  ·obtain ⟨b,o,a',c',rfl,hbb,hc,hrk⟩:=(HRD.out.below hbel nl).at k (by rw [HRL.out];exact hlt)
   have hconv:=qa6 wr a' c' _ _ rfl hrk
   obtain ⟨m,hm⟩:∃m,m=(rows.getD k []).length:=⟨_,rfl⟩
   rw [←hm] at hc hconv
   have hs:=hown.frozenAt k
   have hcell:wr.cell? ⟨w.heap.size,k,none⟩=some (.string ByteArray.empty):=by rw [hown.cellAt k (by omega),qlM _ _ _ _ hlt]
   have hst:=(hown.stored k (str (rows.getD k []))).1
   rw [qkK (fun i=>str (rows.getD i []))] at hst
   have HST:=hid hst
   have HM:=hid hm
   have hlt':(k:Int)<(n:Int):=by omega
   clear hst hm hown hrk
   unfold str at HST
   generalize (⟨(rows.getD k []).toArray⟩:ByteArray)=bk at *
   go_wp2
   go_roundw
   case rel=>exact ⟨k+1,by omega,by go_num,HST.out,hbel.setCell nl _⟩
   case measure=>simp [intOf];omega
  ·have hkn:k=n:=by omega
   subst hkn
   have e:strs rows=rowV (fun i=>str (rows.getD i [])) (.string ByteArray.empty) k k:=by
    rw [qks]
    apply List.ext_getElem
    ·simp [strs,HRL.out]
    ·intro i h1 h2
     simp [strs] at h1 ⊢
     simp [h1]
   rw [←e] at hown
   have HO:=hid hown
   clear hown e
   go_wp2
   go_ret
   exact ⟨_,rfl,HO.out,hbel⟩
def I64 (c:Int):Prop:=-9223372036854775808≤c∧c≤9223372036854775807
theorem qkb (xs:List UInt8) (k:Nat) (x:UInt8):(bs xs).set k (.int .u8 x.toNat)=bs (xs.set k x):=by simp [bs,List.map_set]
theorem qjL {w:World} {base g n k:Nat} {e:TypeId} {ys:List UInt8} (h:w.ownsRow base e 1 (.slice (some ⟨g,0,none⟩) n n) n (bs ys)) (z:UInt8) :
  (w.setCell ⟨g,k,none⟩ (.int .u8 z.toNat)).ownsRow base e 1 (.slice (some ⟨g,0,none⟩) n n) n (bs (ys.set k z)):=by
 have:=(h.stored k (.int .u8 z.toNat)).1
 rw [qkb] at this
 exact this
def FB (w:World) (g:Nat) (xs:List UInt8):Prop :=
 ∃C:Array Value,w.heap[g]?=some (.cells C 5 (C.size,C.size+1))∧xs.length≤C.size∧C.toList.take xs.length=bs xs
theorem FB.at {w:World} {g:Nat} {xs:List UInt8} (h:FB w g xs) (k:Nat) (hk:k<xs.length):w.cell? ⟨g,k,none⟩=some (.int .u8 (xs.getD k 0).toNat)∧w.frozen? ⟨g,k,none⟩=false:=by
 obtain ⟨C,h1,h2,h3⟩:=h
 constructor
 ·have:C.toList[k]?=(bs xs)[k]?:=by rw [←h3,List.getElem?_take,if_pos hk]
  rw [qaX _ _ hk] at this
  simp only [World.cell?,h1]
  simpa using this
 ·simp only [World.frozen?,h1]
  simp;omega
theorem FB.set {w:World} {g:Nat} {xs:List UInt8} (h:FB w g xs) (k:Nat) (x:UInt8):FB (w.setCell ⟨g,k,none⟩ (.int .u8 x.toNat)) g (xs.set k x):=by
 obtain ⟨C,h1,h2,h3⟩:=h
 refine ⟨C.setIfInBounds k (.int .u8 x.toNat),?_,by simpa using h2,?_⟩
 ·rw [setCell_eq_setRow w g k C _ _ _ h1,setRow_heap w g C _ _ _ h1]
  simp
 ·rw [List.length_set,←qkb,←h3]
  simp [List.take_set]
theorem FB.rd {w:World} {g:Nat} {xs:List UInt8} (h:FB w g xs) (hg:g<w.heap.size):Rd w (some ⟨g,0,none⟩) (bs xs):=by
 intro k v hk
 have hkl:k<xs.length:=by
  rcases Nat.lt_or_ge k xs.length with h' | h'
  ·exact h'
  ·rw [List.getElem?_eq_none (by rw [qag];exact h')] at hk;simp at hk
 refine ⟨g,0,rfl,hg,?_⟩
 rw [Nat.zero_add,(h.at k hkl).1,←qaX _ _ hkl,hk]
theorem qdK (w:World) (s:ByteArray):∃cap w',(convert 9 50 (.string s)).run Tryz.prog w=.ok (.slice (some ⟨w.heap.size,0,none⟩) s.size cap) w'∧FB w' w.heap.size s.data.toList∧Below w.heap.size w w'∧w'.heap.size=w.heap.size+1:=by
 refine ⟨_,_,run_bytes_of_string w 9 50 5 s Tryz.underlying9 Tryz.underlying50 Tryz.underlying5,?_,((Below.refl _ _).drew).alloc nl _,by simp⟩
 refine ⟨bytesRow s (grownCap w s.size 0 5),?_,?_,?_⟩
 ·show (w.heap.push _)[w.heap.size]?=_
  simp
 ·simp [bytesRow]
 ·simp [bytesRow,bs]
theorem qhU (F:Nat→UInt8) (Z:List UInt8) (n k:Nat):(qaO F Z n k).set k (F k)=qaO F Z n (k+1):=by
 apply List.ext_getElem
 ·simp [qaO]
 ·intro i h1 h2
  simp only [List.getElem_set]
  split
  ·rename_i h;subst h;simp [qaO]
  ·rename_i h
   simp only [qaO,List.getElem_map,List.getElem_range]
   by_cases hi:i<k
   ·simp [hi,show i<k+1 from by omega]
   ·simp [hi,show ¬i<k+1 from by omega]
theorem qiQ (F:Nat→UInt8) (Z:List UInt8) (n k:Nat) (h:k<n):(qaO F Z n k).getD k 0=Z.getD k 0:=by simp [qaO,h]
theorem qlU (b:ByteArray) (k:Nat) (h:k<b.size):b.data.toList.getD k 0=b[k]:=by
 have h':k<b.data.toList.length:=h
 rw [List.getD_eq_getElem?_getD,List.getElem?_eq_getElem h']
 rfl
def ints (ss:List Nat):List Value:=ss.map fun (s:Nat)=>.int .i64 (s:Int)
def pcs (rows:List (List UInt8)) (ss:List Nat):List Value:=ss.flatMap fun (s:Nat)=>[.int .i64 (s:Int),str (rows.getD s [])]
theorem pcs_at (rows:List (List UInt8)) (ss:List Nat) (k:Nat) (h:k<ss.length):(pcs rows ss)[k*2]?=some (.int .i64 ss[k])∧(pcs rows ss)[k*2+1]?=some (str (rows.getD ss[k] [])):=by
 induction ss generalizing k with
 | nil=>simp at h
 | cons s r ih =>
  cases k with
  | zero=>simp [pcs]
  | succ k =>
   have:=ih k (by simpa using h)
   simp only [pcs,List.flatMap_cons] at this ⊢
   rw [show (k+1)*2=k*2+2 from by omega,show k*2+2+1=(k*2+1)+2 from by omega]
   simpa using this
theorem Tryz.infoPiece:(Tryz.prog.info? 63).map (fun i=>(i.zero,i.size,i.bytes))=some (some (.agg #[.int .i64 0,.string ByteArray.empty]),2,24):=by kernel_rfl
end Go.Proofs.YtcegdgmbponapaaGreatDoor