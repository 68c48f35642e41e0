import Derived.Test.YtcegdgmbponapaaGreatDoorPart22
set_option maxRecDepth 100000
set_option maxHeartbeats 4000000
namespace Go.Proofs.YtcegdgmbponapaaGreatDoor
open Go.RowKit
attribute [local go_sem ↓] Go.wp_at_zero Go.wp_at_succ
def Bytes (w:World) (base:Nat) (a:Option Addr) (n c:Nat) (xs:List UInt8):Prop :=
 ∃(g:Nat) (C:Array Value) (fz:Nat × Nat),a=some ⟨g,0,none⟩∧base≤g∧w.heap[g]?=some (.cells C 5 fz)∧xs.length=n∧n≤c∧n≤C.size∧C.toList.take n=bs xs∧∀k,k<n→¬(fz.1≤k∧k<fz.2)
section
variable {w w':World} {base n c:Nat} {a:Option Addr} {xs:List UInt8}
theorem Bytes.len (h:Bytes w base a n c xs):xs.length=n:=by obtain ⟨_,_,_,_,_,_,h,_⟩:=h;exact h
theorem Bytes.caps (h:Bytes w base a n c xs):n≤c:=by obtain ⟨_,_,_,_,_,_,_,h,_⟩:=h;exact h
theorem Bytes.block (h:Bytes w base a n c xs):∃(g:Nat) (C:Array Value) (fz:Nat × Nat),a=some ⟨g,0,none⟩∧base≤g∧w.heap[g]?=some (.cells C 5 fz):=by obtain ⟨g,C,fz,h1,h2,h3,_⟩:=h;exact ⟨g,C,fz,h1,h2,h3⟩
theorem Bytes.at (h:Bytes w base a n c xs) {g:Nat} (hg:a=some ⟨g,0,none⟩) (k:Nat) (hk:k<n):w.cell? ⟨g,k,none⟩=some (.int .u8 (xs.getD k 0).toNat)∧w.frozen? ⟨g,k,none⟩=false∧g<w.heap.size:=by
 obtain ⟨g',C,fz,h1,h2,h3,h4,h5,h6,h7,h8⟩:=h
 rw [h1] at hg
 cases hg
 refine ⟨?_,?_,cells_lt h3⟩
 ·have:C.toList[k]?=(bs xs)[k]?:=by rw [←h7,List.getElem?_take,if_pos hk]
  rw [qaX _ _ (by omega)] at this
  simp only [World.cell?,h3]
  simpa using this
 ·have:=h8 k hk
  simp only [World.frozen?,h3]
  simp only [Bool.and_eq_false_iff,decide_eq_false_iff_not]
  omega
theorem Bytes.rd (h:Bytes w base a n c xs):Rd w a (bs xs):=by
 obtain ⟨g,C,fz,h1,h2,h3⟩:=h.block
 subst h1
 intro k v hk
 have hkl:k<xs.length:=by
  rcases Nat.lt_or_ge k xs.length with h' | h'
  ·exact h'
  ·rw [List.getElem?_eq_none (by rw [qag];exact h')] at hk;simp at hk
 refine ⟨g,0,rfl,cells_lt h3,?_⟩
 rw [Nat.zero_add,(h.at rfl k (by rw [←h.len];exact hkl)).1,←qaX _ _ hkl,hk]
theorem Bytes.keeps {own:Nat→Prop} (h:Bytes w base a n c xs) (hs:qaa own w w') (ho:∀g,a=some ⟨g,0,none⟩→¬own g):Bytes w' base a n c xs:=by
 obtain ⟨g,C,fz,h1,h2,h3,h4⟩:=h
 exact ⟨g,C,fz,h1,h2,hs.heap h3 (ho g h1),h4⟩
theorem Bytes.mono {base':Nat} (h:Bytes w base a n c xs) (hb:base'≤base):Bytes w base' a n c xs:=by
 obtain ⟨g,C,fz,h1,h2,h3⟩:=h
 exact ⟨g,C,fz,h1,Nat.le_trans hb h2,h3⟩
theorem Bytes.of_owns (h:w.ownsRow base 5 1 (.slice a n c) n (bs xs)) (h0:0<n):Bytes w base a n c xs:=by
 obtain ⟨h1,⟨_,hx⟩|⟨g,cap,cur,hv,h3,h4,h5,h6,h7,h8⟩⟩:=h
 ·omega
 ·cases hv
  rw [qag,Nat.mul_one] at h1
  rw [Nat.mul_one] at h7 h8
  exact ⟨g,cur,(0,0),rfl,h3,h4,h1,h5,by omega,h8,fun k _=>by simp⟩
theorem Bytes.set (h:Bytes w base a n c xs) {g:Nat} (hg:a=some ⟨g,0,none⟩) (k:Nat) (x:UInt8):Bytes (w.setCell ⟨g,k,none⟩ (.int .u8 x.toNat)) base a n c (xs.set k x):=by
 obtain ⟨g',C,fz,h1,h2,h3,h4,h5,h6,h7,h8⟩:=h
 have eg:g'=g:=by rw [h1] at hg;cases hg;rfl
 subst eg
 refine ⟨g',C.setIfInBounds k (.int .u8 x.toNat),fz,h1,h2,?_,by simpa using h4,h5,by simpa using h6,?_,h8⟩
 ·rw [setCell_eq_setRow w g' k C _ _ _ h3,setRow_heap w g' C _ _ _ h3]
 ·rw [←qkb,←h7]
  simp [List.take_set]
end
structure qdp (w:World) (base V key n B bc:Nat) (sp:Nat→Nat) (down:Nat→Bool) (mode t l size epoch:Nat) (nm:ByteArray) (len:Nat) (X:Nat→List UInt8) (vs:Nat→Value) (rss:Nat→List RecV):Prop where
 vt:∃done crashes ahead,Vt w V key n B bc sp done crashes ahead false
 st:∀i,i<n→Sto w (sp i) (down i) (vs i) (rss i)
 has:∀i,i<n→hasName (rss i) nm=true
 e:∀i,i<n→(qac (rss i) nm).name=nm∧(qac (rss i) nm).mode=mode∧(qac (rss i) nm).t=t∧(qac (rss i) nm).l=l∧(qac (rss i) nm).size=size∧(qac (rss i) nm).epoch=epoch
 sn:∀i,i<n→(qac (rss i) nm).sn=10+nm.size+len+8
 own:∀i,i<n→Bytes w base (qac (rss i) nm).sa (qac (rss i) nm).sn (qac (rss i) nm).sc (X i)
theorem qdp.below {w w':World} {base V key n B bc:Nat} {sp:Nat→Nat} {down:Nat→Bool} {mode t l size epoch:Nat} {nm:ByteArray} {len:Nat} {X:Nat→List UInt8} {vs:Nat→Value} {rss:Nat→List RecV} (h:qdp w base V key n B bc sp down mode t l size epoch nm len X vs rss) (hb:Below w.heap.size w w'):qdp w' base V key n B bc sp down mode t l size epoch nm len X vs rss:=by
 obtain ⟨done,cra,ahead,hvt⟩:=h.vt
 have hs:=qaa.ofBelow (own:=fun _=>False) hb nl
 exact ⟨⟨done,cra,ahead,hvt.keeps hs (fun h=>h) (fun h=>h)⟩,fun i hi=>(h.st i hi).keeps hs (fun h=>h) (fun _ _ h=>h),h.has,h.e,h.sn,fun i hi=>(h.own i hi).keeps hs (fun _ _ h=>h)⟩
theorem qdp.bytes {w:World} {base V key n B bc:Nat} {sp:Nat→Nat} {down:Nat→Bool} {mode t l size epoch:Nat} {nm:ByteArray} {len:Nat} {X:Nat→List UInt8} {vs:Nat→Value} {rss:Nat→List RecV} (h:qdp w base V key n B bc sp down mode t l size epoch nm len X vs rss) (i:Nat) (hi:i<n):(X i).length=10+nm.size+len+8:=by
 rw [(h.own i hi).len,h.sn i hi]
theorem qdp.piece_good {w:World} {base V key n B bc:Nat} {sp:Nat→Nat} {down:Nat→Bool} {mode t l size epoch:Nat} {nm:ByteArray} {X:Nat→List UInt8} {vs:Nat→Value} {rss:Nat→List RecV} (h:qdp w base V key n B bc sp down mode t l size epoch nm (Cof.ngroups mode t l size) X vs rss)
  (hp:qaj mode t l n) (he:epoch≤100) (hz:size≤60) (hn1:1≤nm.size) (hnm:nm.size≤12) (hk:key<18446744073709551616) (hl:Cof.ngroups mode t l size≤60) (i:Nat) (hi:i<n) (P:List UInt8) (hg:Cof.Good key (Cof.head mode t l n i epoch size nm.data.toList) (Cof.ngroups mode t l size) (X i) P) (w':World) (hb:Below w.heap.size w w') (hT:Tab w') :
  Calls Tryz.prog 132 #[.pointer (some ⟨V,0,none⟩),.int .i64 i,.agg #[.string nm,.int .i64 mode,.int .i64 t,.int .i64 l,.int .i64 size,.int .i64 epoch]] w' fun e w'' =>
   ∃pv,e=.returned (.tuple #[pv,.nilIface])∧w''.ownsRow w'.heap.size 5 1 pv (Cof.ngroups mode t l size) (bs P)∧Below w'.heap.size w' w'':=by
 have h':=h.below hb
 obtain ⟨done,cra,ahead,hvt⟩:=h'.vt
 obtain ⟨a,c,_,hst⟩:=(h'.st i hi).st
 have hrd':=(h'.own i hi).rd
 exact qgW V key n B bc sp i (down i) a c (rss i) (qac (rss i) nm) mode t l size epoch nm w' (hvt.rdy hp.n1 hp.n8) hi hst (h.has i hi) rfl _ rfl _ P hp he hz hn1 hnm hk hl hrd' (by rw [h.sn i hi,h.bytes i hi]) (h'.own i hi).caps hg hT
theorem qdp.piece_bad {w:World} {base V key n B bc:Nat} {sp:Nat→Nat} {down:Nat→Bool} {mode t l size epoch:Nat} {nm:ByteArray} {X:Nat→List UInt8} {vs:Nat→Value} {rss:Nat→List RecV} (h:qdp w base V key n B bc sp down mode t l size epoch nm (Cof.ngroups mode t l size) X vs rss)
  (hp:qaj mode t l n) (he:epoch≤100) (hz:size≤60) (hn1:1≤nm.size) (hnm:nm.size≤12) (hk:key<18446744073709551616) (hl:Cof.ngroups mode t l size≤60) (i:Nat) (hi:i<n) (hg:¬∃P,Cof.Good key (Cof.head mode t l n i epoch size nm.data.toList) (Cof.ngroups mode t l size) (X i) P) (w':World) (hb:Below w.heap.size w w') (hT:Tab w') :
  Calls Tryz.prog 132 #[.pointer (some ⟨V,0,none⟩),.int .i64 i,.agg #[.string nm,.int .i64 mode,.int .i64 t,.int .i64 l,.int .i64 size,.int .i64 epoch]] w' fun e w'' =>
   ∃ev,e=.returned (.tuple #[.slice none 0 0,ev])∧Chain w'' 12 2 ev∧Below w'.heap.size w' w'':=by
 have h':=h.below hb
 obtain ⟨done,cra,ahead,hvt⟩:=h'.vt
 obtain ⟨a,c,_,hst⟩:=(h'.st i hi).st
 have hrd':=(h'.own i hi).rd
 exact qit V key n B bc sp i (down i) a c (rss i) (qac (rss i) nm) mode t l size epoch nm w' (hvt.rdy hp.n1 hp.n8) hi hst (h.has i hi) rfl _ rfl _ hp he hz hn1 hnm hk hl hrd' (by rw [h.sn i hi,h.bytes i hi]) (h'.own i hi).caps (h.bytes i hi) hg hT
theorem qdE (base V key n B bc:Nat) (sp:Nat→Nat) (down bad:Nat→Bool) (mode t l size epoch:Nat) (nm:ByteArray) (X P:Nat→List UInt8) (vs:Nat→Value) (rss:Nat→List RecV) (w:World) (h:qdp w base V key n B bc sp down mode t l size epoch nm (Cof.ngroups mode t l size) X vs rss)
  (hp:qaj mode t l n) (he:epoch≤100) (hz:size≤60) (hn1:1≤nm.size) (hnm:nm.size≤12) (hk:key<18446744073709551616) (hl:Cof.ngroups mode t l size≤60) (hJ:qd7 key mode t l n epoch size nm (Cof.ngroups mode t l size) down bad X P) (hT:Tab w) :
  Calls Tryz.prog 87 #[.pointer (some ⟨V,0,none⟩),.agg #[.string nm,.int .i64 mode,.int .i64 t,.int .i64 l,.int .i64 size,.int .i64 epoch]] w fun e w' =>
   ∃v,e=.returned v∧w'.ownsRow w.heap.size 63 2 v (upTo (fun i=>down i || bad i) n).length (pcs ((List.range n).map P) (upTo (fun i=>down i || bad i) n))∧Below w.heap.size w w':=by
 obtain ⟨i0,hi,hz0,hz1,hz2⟩:=info_parts Tryz.infoPiece
 have hba:=(Below.refl w.heap.size w).alloc nl (.cells #[.string nm,.int .i64 mode,.int .i64 t,.int .i64 l,.int .i64 size,.int .i64 epoch] 55)
 obtain ⟨done,cra,ahead,hvt⟩:=h.vt
 have hn8:=hp.n8
 have HR:=hid ((hvt.rdy hp.n1 hn8).keeps hba nl)
 have HPC:=hid (fun i hi hg w' hb hT=>h.piece_good hp he hz hn1 hnm hk hl i hi (P i) hg w' hb hT)
 have HPB:=hid (fun i hi hg w' hb hT=>h.piece_bad hp he hz hn1 hnm hk hl i hi hg w' hb hT)
 have HJ:=hid hJ
 have HDN:=hid (show ∀i,i<n→w.cell? ⟨sp i,0,none⟩=some (.bool (down i)) from fun i hi=>by rw [cells_at (h.st i hi).hp];rfl)
 have HLT:=hid (show ∀i,i<n→sp i<w.heap.size from fun i hi=>cells_lt (h.st i hi).hp)
 have HT:=hid hT
 obtain ⟨ng,hng⟩:∃ng,ng=Cof.ngroups mode t l size:=⟨_,rfl⟩
 rw [←hng] at HPC HPB HJ hl
 obtain ⟨rows,hrows⟩:∃rows,rows=(List.range n).map P:=⟨_,rfl⟩
 rw [←hrows]
 have HRG:=hid (show ∀i,i<n→rows.getD i []=P i from fun i hi=>by rw [hrows];simp [hi])
 clear h hp hz hn1 hnm hk hJ hT hng hvt hrows
 have hc1':=HR.out.va.c1
 have hlV:=HR.out.va.lt
 go_enter Tryz.func87,Tryz.ntmps87
 go_wp2_with fail
 obtain ⟨w1,hw1⟩:∃w1,w1=w.alloc (.cells #[.string nm,.int .i64 mode,.int .i64 t,.int .i64 l,.int .i64 size,.int .i64 epoch] 55):=⟨_,rfl⟩
 have HOB:=hid (show w1.heap[w.heap.size]?=some (.cells #[.string nm,.int .i64 mode,.int .i64 t,.int .i64 l,.int .i64 size,.int .i64 epoch] 55) by rw [hw1];exact alloc_at _ _)
 have hz1':w.heap.size<w1.heap.size:=cells_lt HOB.out
 rw [←hw1] at hba HR hc1' hlV ⊢
 clear hw1
 go_loopw [5,15] (fun ov u wr=>∃(k:Nat),k≤n∧u=.int .i64 k∧wr.ownsRow w1.heap.size 63 2 ov (upTo (fun i=>down i || bad i) k).length (pcs rows (upTo (fun i=>down i || bad i) k))∧Below w1.heap.size w1 wr) (fun _ u _=>n-(intOf u).toNat)
 case atStart=>exact ⟨0,Nat.zero_le _,rfl,⟨rfl,.inl ⟨rfl,rfl⟩⟩,bl⟩
 case round =>
  obtain ⟨k,hkn,rfl,hrow,hbr⟩:=hrel
  by_cases hlt:k<n
  ·have hb0r:=hba.trans (hbr.mono (by omega))
   have k1:=(HR.out.keeps hbr nl).st k hlt
   have dk:wr.cell? ⟨sp k,0,none⟩=some (.bool (down k)):=(hb0r.cell (HLT.out k hlt)).trans (HDN.out k hlt)
   have hlt':(k:Int)<(n:Int):=by omega
   have HROW:=hid hrow
   clear hrow
   cases hdk:down k with
   | true =>
    rw [hdk] at dk
    have HX:=hid (qf7 (fun i=>down i || bad i) k (by simp [hdk]))
    have HCU:=hid (qd5 (sp k) wr dk)
    clear hdk
    go_wp2_with (go_at_call 140;refine HCU.out.mono ?_;rintro e w3 ⟨rfl,rfl⟩)
    go_roundw
    case rel=>exact ⟨k+1,by omega,by go_num,by rw [HX.out];exact HROW.out,hbr⟩
    case measure=>simp [intOf];omega
   | false =>
    rw [hdk] at dk
    have HCU:=hid (qds (sp k) wr dk)
    have HOBR:=hid (show wr.heap[w.heap.size]?=_ from (hbr.block _ hz1').trans HOB.out)
    have o0:wr.cell? ⟨w.heap.size,0,none⟩=some (.string nm):=cq HOBR.out rfl
    have o1:wr.cell? ⟨w.heap.size,1,none⟩=some (.int .i64 mode):=cq HOBR.out rfl
    have o2:wr.cell? ⟨w.heap.size,2,none⟩=some (.int .i64 t):=cq HOBR.out rfl
    have o3:wr.cell? ⟨w.heap.size,3,none⟩=some (.int .i64 l):=cq HOBR.out rfl
    have o4:wr.cell? ⟨w.heap.size,4,none⟩=some (.int .i64 size):=cq HOBR.out rfl
    have o5:wr.cell? ⟨w.heap.size,5,none⟩=some (.int .i64 epoch):=cq HOBR.out rfl
    cases hbk:bad k with
    | true =>
    have HX:=hid (qf7 (fun i=>down i || bad i) k (by simp [hbk]))
    have HPI:=hid (HPB.out k hlt ((HJ.out k hlt hdk).2 hbk) wr hb0r (HT.out.keeps hb0r nl))
    clear hdk hbk
    go_wp2_with (go_at_call 140;refine HCU.out.mono ?_;rintro e w3 ⟨rfl,rfl⟩)
    refine HPI.out.mono ?_
    rintro e w4 ⟨ev,rfl,hch,hb4⟩
    obtain ⟨te,ve,rfl⟩:=hch.shape
    have hbr4:=hbr.trans (hb4.mono hbr.size)
    have HRW4:=hid (qal HROW.out hb4 nl)
    clear hch
    go_wp2_with fail
    go_roundw
    case rel=>exact ⟨k+1,by omega,by go_num,by rw [HX.out];exact HRW4.out,hbr4⟩
    case measure=>simp [intOf];omega
    | false =>
    have HX:=hid (qfB (fun i=>down i || bad i) k (by simp [hdk,hbk]))
    have hgk:=(HJ.out k hlt hdk).1 hbk
    have HPLk:=hid (show (P k).length=ng from hgk.1)
    have HPI:=hid (HPC.out k hlt hgk wr hb0r (HT.out.keeps hb0r nl))
    clear hdk hbk hgk
    go_wp2_with (go_at_call 140;refine HCU.out.mono ?_;rintro e w3 ⟨rfl,rfl⟩)
    refine HPI.out.mono ?_
    rintro e w4 ⟨pv,rfl,hpo,hb4⟩
    obtain ⟨pa,pc,rfl,hprd⟩:=qad hpo
    have hconv:=qa6 w4 pa pc ng (P k) HPLk.out.symm hprd
    have HST:=hid (show str (rows.getD k [])=.string ⟨(P k).toArray⟩ by rw [HRG.out k hlt];rfl)
    generalize (⟨(P k).toArray⟩:ByteArray)=bk at *
    have hbr4:=hbr.trans (hb4.mono hbr.size)
    have hba4:=(Below.refl w4.heap.size w4).alloc nl (.cells #[.int .i64 k,.string bk] 63)
    have HRW4:=hid (qal (qal HROW.out hb4 nl) hba4 nl)
    have hul:=qfs (fun i=>down i || bad i) k
    clear hpo hprd
    go_wp2_with (first | (at_builtin;refine wpList_append_own _ rfl (.tmp 32) (.tmp 37) 61 rfl w1.heap.size 63 i0 _ 2 24 Tryz.underlying61 hi hz0 hz1 hz2 rfl (by decide) _ (upTo (fun i=>down i || bad i) k).length (pcs rows (upTo (fun i=>down i || bad i) k)) rfl HRW4.out ⟨w4.heap.size,0,none⟩ 1 1 [.int .i64 k,.string bk] rfl rfl (fun j u hj=>by rw [qaW,World.cell?_alloc_at _ _ _ _ rfl,Nat.zero_add];simpa using hj) (fun u hu=>by simp at hu;rcases hu with rfl | rfl<;>rfl) (by unfold maxLen;omega) (by omega) (by have:=hbr4.size;simp;omega) ?_;intro v2 w5 hown2 hgrow2 _;(have HO2:=hid hown2);(have HB2:=hid ((hbr4.trans (hba4.mono hbr4.size)).grown hgrow2 (by have:=hbr4.size;simp;omega) (fun q hq=>(HRW4.out.lt q hq).1)));clear hown2 hgrow2)|fail)
    go_roundw
    case rel=>exact ⟨k+1,by omega,by go_num,by rw [HX.out,ql3,HST.out,List.length_append];exact HO2.out,HB2.out⟩
    case measure=>simp [intOf];omega
  ·have hkk:k=n:=by omega
   subst hkk
   have HROW:=hid hrow
   clear hrow
   go_wp2
   go_ret
   exact ⟨_,rfl,World.ownsRow.mono HROW.out (by omega),hba.trans (hbr.mono (by omega))⟩
theorem qjO (base V key n B bc:Nat) (sp:Nat→Nat) (down bad:Nat→Bool) (mode t l size epoch:Nat) (nm:ByteArray) (X P:Nat→List UInt8) (vs:Nat→Value) (rss:Nat→List RecV) (w:World) (h:qdp w base V key n B bc sp down mode t l size epoch nm (Cof.ngroups mode t l size) X vs rss)
  (hp:qaj mode t l n) (he:epoch≤100) (hz:size≤60) (hn1:1≤nm.size) (hnm:nm.size≤12) (hk:key<18446744073709551616) (hl:Cof.ngroups mode t l size≤60) (hjd:qd7 key mode t l n epoch size nm (Cof.ngroups mode t l size) down bad X P) (hT:Tab w)
  (N:Nat) (hN:N=Cof.gsize mode t l+Cof.tsize mode t) (hen:N≤(upTo (fun i=>down i || bad i) n).length) (J:List UInt8) (hJ:Cof.join mode t l size ((upTo (fun i=>down i || bad i) n).take N) (((upTo (fun i=>down i || bad i) n).take N).map P)=J) :
  Calls Tryz.prog 50 #[.pointer (some ⟨V,0,none⟩),.string nm] w fun e w' =>
   ∃av cv,e=.returned (.tuple #[.slice av size cv,.nilIface])∧Rd w' av (bs J)∧Below w.heap.size w w':=by
 have hn1':=hp.n1
 have hn8:=hp.n8
 obtain ⟨done,cra,ahead,hvt⟩:=h.vt
 have hR:=hvt.rdy hn1' hn8
 obtain ⟨a0,c0',_,hst0⟩:=(h.st 0 (by omega)).st
 have hok0:=h.e 0 (by omega)
 have HOBJ:=hid (qbB V key n B bc sp (down 0) a0 c0' (rss 0) (qac (rss 0) nm) nm w hR hst0 (h.has 0 (by omega)) rfl)
 rw [hok0.1,hok0.2.1,hok0.2.2.1,hok0.2.2.2.1,hok0.2.2.2.2.1,hok0.2.2.2.2.2] at HOBJ
 have HRE:=hid (fun w' hb=>qdE base V key n B bc sp down bad mode t l size epoch nm X P vs rss w' (h.below hb) hp he hz hn1 hnm hk hl hjd (hT.keeps hb nl))
 have hul:=qfs (fun i=>down i || bad i) n
 have hlt:∀s∈upTo (fun i=>down i || bad i) n,s<n:=fun s hs=>by unfold upTo at hs;exact List.mem_range.1 (List.mem_filter.1 hs).1
 have hP:∀s∈upTo (fun i=>down i || bad i) n,(P s).length=Cof.ngroups mode t l size:=fun s hs=>by
  have h2:=(List.mem_filter.1 hs).2
  simp at h2
  exact ((hjd s (hlt s hs) h2.1).1 h2.2).1
 have hnd:(upTo (fun i=>down i || bad i) n).Nodup:=by unfold upTo;exact List.nodup_range.filter _
 have hmap:(upTo (fun i=>down i || bad i) n).map (fun s=>(⟨(((List.range n).map P).getD s []).toArray⟩:ByteArray))=(upTo (fun i=>down i || bad i) n).map (fun s=>⟨(P s).toArray⟩):=List.map_congr_left fun s hs=>by simp [hlt s hs]
 have HJO:=hid (fun (w':World) (aP:Option Addr) (c:Nat) (hc:(upTo (fun i=>down i || bad i) n).length≤c) (hrd:PRd w' aP (upTo (fun i=>down i || bad i) n) ((upTo (fun i=>down i || bad i) n).map fun s=>(⟨(((List.range n).map P).getD s []).toArray⟩:ByteArray))) =>
  qhQ mode t l n size (upTo (fun i=>down i || bad i) n).length c N aP (upTo (fun i=>down i || bad i) n) _ w' ⟨hp,hz,rfl,hrd,by omega,hc,hlt,hnd,fun i hi=>by rw [hmap];simp [hi,ByteArray.size];exact hP _ (List.getElem_mem hi)⟩ (by simp) hN hen)
 have hJ':Cof.join mode t l size ((upTo (fun i=>down i || bad i) n).take N) ((((upTo (fun i=>down i || bad i) n).map fun s=>(⟨(((List.range n).map P).getD s []).toArray⟩:ByteArray)).take N).map fun p=>p.data.toList)=J:=by
  rw [hmap,←List.map_take,List.map_map]
  exact hJ
 rw [hJ'] at HJO
 have HRR:=hid hR
 clear h hp hP hjd hT hst0 hok0 hvt hR hmap hJ hJ' hlt hnd
 go_enter Tryz.func50,Tryz.ntmps50
 go_wp2_with fail
 refine HOBJ.out.mono ?_
 rintro e w1 ⟨rfl,hb1⟩
 have hba:=hb1.alloc hb1.size (.cells #[.string nm,.int .i64 mode,.int .i64 t,.int .i64 l,.int .i64 size,.int .i64 epoch] 55)
 obtain ⟨w2,hw2⟩:∃w2,w2=w1.alloc (.cells #[.string nm,.int .i64 mode,.int .i64 t,.int .i64 l,.int .i64 size,.int .i64 epoch] 55):=⟨_,rfl⟩
 have HOB:=hid (show w2.heap[w1.heap.size]?=some (.cells #[.string nm,.int .i64 mode,.int .i64 t,.int .i64 l,.int .i64 size,.int .i64 epoch] 55) by rw [hw2];exact alloc_at _ _)
 have hl1:w1.heap.size<w2.heap.size:=cells_lt HOB.out
 rw [←hw2] at hba
 have HR2:=hid (HRR.out.keeps hba nl)
 have c1:=HR2.out.va.c1
 have lV:=HR2.out.va.lt
 have o0:w2.cell? ⟨w1.heap.size,0,none⟩=some (.string nm):=cq HOB.out rfl
 have o1:w2.cell? ⟨w1.heap.size,1,none⟩=some (.int .i64 mode):=cq HOB.out rfl
 have o2:w2.cell? ⟨w1.heap.size,2,none⟩=some (.int .i64 t):=cq HOB.out rfl
 have o3:w2.cell? ⟨w1.heap.size,3,none⟩=some (.int .i64 l):=cq HOB.out rfl
 have o4:w2.cell? ⟨w1.heap.size,4,none⟩=some (.int .i64 size):=cq HOB.out rfl
 have o5:w2.cell? ⟨w1.heap.size,5,none⟩=some (.int .i64 epoch):=cq HOB.out rfl
 have HS:=hid (show ∀w',Below w2.heap.size w2 w'→w'.cell? ⟨V,1,none⟩=some (.slice (some ⟨B,0,none⟩) n bc)∧w'.cell? ⟨w1.heap.size,0,none⟩=some (.string nm)∧w'.cell? ⟨w1.heap.size,1,none⟩=some (.int .i64 mode)∧w'.cell? ⟨w1.heap.size,2,none⟩=some (.int .i64 t)∧w'.cell? ⟨w1.heap.size,3,none⟩=some (.int .i64 l)∧w'.cell? ⟨w1.heap.size,4,none⟩=some (.int .i64 size)∧w'.cell? ⟨w1.heap.size,5,none⟩=some (.int .i64 epoch) from fun w' hb=>⟨(hb.cell lV).trans c1,(hb.cell hl1).trans o0,(hb.cell hl1).trans o1,(hb.cell hl1).trans o2,(hb.cell hl1).trans o3,(hb.cell hl1).trans o4,(hb.cell hl1).trans o5⟩)
 have HW2:=hid hw2
 go_wp2_with fail
 rw [←HW2.out]
 clear hw2 HW2
 generalize (upTo (fun i=>down i || bad i) n).length=m at *
 go_region_held3 (fun w'=>w'.cell? ⟨V,1,none⟩=some (.slice (some ⟨B,0,none⟩) n bc)∧w'.cell? ⟨w1.heap.size,0,none⟩=some (.string nm)∧w'.cell? ⟨w1.heap.size,1,none⟩=some (.int .i64 mode)∧w'.cell? ⟨w1.heap.size,2,none⟩=some (.int .i64 t)∧w'.cell? ⟨w1.heap.size,3,none⟩=some (.int .i64 l)∧w'.cell? ⟨w1.heap.size,4,none⟩=some (.int .i64 size)∧w'.cell? ⟨w1.heap.size,5,none⟩=some (.int .i64 epoch)) (first | exact HS.out _ bl|exact HS.out _ (Below.refl _ _).drew | exact D4.out | exact D3.out | go_keep)
  (first
   | (go_at_call 87;refine (HRE.out w2.drew hba.drew).mono ?_;rintro e w3 ⟨pv,rfl,hrow,hb3⟩;(have hb23:Below w2.heap.size w2 w3:=(Below.refl w2.heap.size w2).drew.trans hb3);(have D3:=hid (HS.out w3 hb23));(obtain ⟨pa,pc,rfl,hpc,hprd⟩:=qeR hrow);(have HPRD:=hid hprd);(have HPC:=hid hpc);clear hrow hprd hpc)
   | (go_at_call 55;refine (HJO.out w3 pa pc HPC.out HPRD.out).mono ?_;rintro e w4 ⟨av,cv,rfl,hrd4,hb4⟩;(have hb24:Below w2.heap.size w2 w4:=hb23.trans (hb4.mono hb23.size));(have D4:=hid (HS.out w4 hb24));(have HRD4:=hid hrd4);clear hrd4))
 have hb04:=hba.trans (hb24.mono hba.size)
 go_wp2_with (go_at_call 78;refine (at_nil _ _).mono ?_;rintro e w7 ⟨rfl,rfl⟩)
 go_ret2
 exact ⟨av,cv,rfl,HRD4.out,hb04⟩
theorem qgn (base V key n B bc:Nat) (sp:Nat→Nat) (down bad:Nat→Bool) (mode t l size epoch:Nat) (nm:ByteArray) (X P:Nat→List UInt8) (vs:Nat→Value) (rss:Nat→List RecV) (w:World) (h:qdp w base V key n B bc sp down mode t l size epoch nm (Cof.ngroups mode t l size) X vs rss)
  (hp:qaj mode t l n) (he:epoch≤100) (hz:size≤60) (hn1:1≤nm.size) (hnm:nm.size≤12) (hk:key<18446744073709551616) (hl:Cof.ngroups mode t l size≤60) (hjd:qd7 key mode t l n epoch size nm (Cof.ngroups mode t l size) down bad X P) (hT:Tab w)
  (hfew:(upTo (fun i=>down i || bad i) n).length<Cof.gsize mode t l+Cof.tsize mode t) :
  Calls Tryz.prog 50 #[.pointer (some ⟨V,0,none⟩),.string nm] w fun e w' =>
   ∃ev,e=.returned (.tuple #[.slice none 0 0,ev])∧Chain w' 10 3 ev∧Below w.heap.size w w':=by
 have hn1':=hp.n1
 have hn8:=hp.n8
 obtain ⟨done,cra,ahead,hvt⟩:=h.vt
 have hR:=hvt.rdy hn1' hn8
 obtain ⟨a0,c0',_,hst0⟩:=(h.st 0 (by omega)).st
 have hok0:=h.e 0 (by omega)
 have HOBJ:=hid (qbB V key n B bc sp (down 0) a0 c0' (rss 0) (qac (rss 0) nm) nm w hR hst0 (h.has 0 (by omega)) rfl)
 rw [hok0.1,hok0.2.1,hok0.2.2.1,hok0.2.2.2.1,hok0.2.2.2.2.1,hok0.2.2.2.2.2] at HOBJ
 have HRE:=hid (fun w' hb=>qdE base V key n B bc sp down bad mode t l size epoch nm X P vs rss w' (h.below hb) hp he hz hn1 hnm hk hl hjd (hT.keeps hb nl))
 have hul:=qfs (fun i=>down i || bad i) n
 have hlt:∀s∈upTo (fun i=>down i || bad i) n,s<n:=fun s hs=>by unfold upTo at hs;exact List.mem_range.1 (List.mem_filter.1 hs).1
 have hP:∀s∈upTo (fun i=>down i || bad i) n,(P s).length=Cof.ngroups mode t l size:=fun s hs=>by
  have h2:=(List.mem_filter.1 hs).2
  simp at h2
  exact ((hjd s (hlt s hs) h2.1).1 h2.2).1
 have hnd:(upTo (fun i=>down i || bad i) n).Nodup:=by unfold upTo;exact List.nodup_range.filter _
 have hmap:(upTo (fun i=>down i || bad i) n).map (fun s=>(⟨(((List.range n).map P).getD s []).toArray⟩:ByteArray))=(upTo (fun i=>down i || bad i) n).map (fun s=>⟨(P s).toArray⟩):=List.map_congr_left fun s hs=>by simp [hlt s hs]
 have HJO:=hid (fun (w':World) (aP:Option Addr) (c:Nat) (hc:(upTo (fun i=>down i || bad i) n).length≤c) (hrd:PRd w' aP (upTo (fun i=>down i || bad i) n) ((upTo (fun i=>down i || bad i) n).map fun s=>(⟨(((List.range n).map P).getD s []).toArray⟩:ByteArray))) =>
  qhe mode t l n size (upTo (fun i=>down i || bad i) n).length c aP (upTo (fun i=>down i || bad i) n) _ w' ⟨hp,hz,rfl,hrd,by omega,hc,hlt,hnd,fun i hi=>by rw [hmap];simp [hi,ByteArray.size];exact hP _ (List.getElem_mem hi)⟩ hfew)
 have HRR:=hid hR
 clear h hp hP hjd hT hst0 hok0 hvt hR hmap hlt hnd hfew
 go_enter Tryz.func50,Tryz.ntmps50
 go_wp2_with fail
 refine HOBJ.out.mono ?_
 rintro e w1 ⟨rfl,hb1⟩
 have hba:=hb1.alloc hb1.size (.cells #[.string nm,.int .i64 mode,.int .i64 t,.int .i64 l,.int .i64 size,.int .i64 epoch] 55)
 obtain ⟨w2,hw2⟩:∃w2,w2=w1.alloc (.cells #[.string nm,.int .i64 mode,.int .i64 t,.int .i64 l,.int .i64 size,.int .i64 epoch] 55):=⟨_,rfl⟩
 have HOB:=hid (show w2.heap[w1.heap.size]?=some (.cells #[.string nm,.int .i64 mode,.int .i64 t,.int .i64 l,.int .i64 size,.int .i64 epoch] 55) by rw [hw2];exact alloc_at _ _)
 have hl1:w1.heap.size<w2.heap.size:=cells_lt HOB.out
 rw [←hw2] at hba
 have HR2:=hid (HRR.out.keeps hba nl)
 have c1:=HR2.out.va.c1
 have lV:=HR2.out.va.lt
 have o0:w2.cell? ⟨w1.heap.size,0,none⟩=some (.string nm):=cq HOB.out rfl
 have o1:w2.cell? ⟨w1.heap.size,1,none⟩=some (.int .i64 mode):=cq HOB.out rfl
 have o2:w2.cell? ⟨w1.heap.size,2,none⟩=some (.int .i64 t):=cq HOB.out rfl
 have o3:w2.cell? ⟨w1.heap.size,3,none⟩=some (.int .i64 l):=cq HOB.out rfl
 have o4:w2.cell? ⟨w1.heap.size,4,none⟩=some (.int .i64 size):=cq HOB.out rfl
 have o5:w2.cell? ⟨w1.heap.size,5,none⟩=some (.int .i64 epoch):=cq HOB.out rfl
 have HS:=hid (show ∀w',Below w2.heap.size w2 w'→w'.cell? ⟨V,1,none⟩=some (.slice (some ⟨B,0,none⟩) n bc)∧w'.cell? ⟨w1.heap.size,0,none⟩=some (.string nm)∧w'.cell? ⟨w1.heap.size,1,none⟩=some (.int .i64 mode)∧w'.cell? ⟨w1.heap.size,2,none⟩=some (.int .i64 t)∧w'.cell? ⟨w1.heap.size,3,none⟩=some (.int .i64 l)∧w'.cell? ⟨w1.heap.size,4,none⟩=some (.int .i64 size)∧w'.cell? ⟨w1.heap.size,5,none⟩=some (.int .i64 epoch) from fun w' hb=>⟨(hb.cell lV).trans c1,(hb.cell hl1).trans o0,(hb.cell hl1).trans o1,(hb.cell hl1).trans o2,(hb.cell hl1).trans o3,(hb.cell hl1).trans o4,(hb.cell hl1).trans o5⟩)
 have HW2:=hid hw2
 go_wp2_with fail
 rw [←HW2.out]
 clear hw2 HW2
 generalize (upTo (fun i=>down i || bad i) n).length=m at *
 go_region_held3 (fun w'=>w'.cell? ⟨V,1,none⟩=some (.slice (some ⟨B,0,none⟩) n bc)∧w'.cell? ⟨w1.heap.size,0,none⟩=some (.string nm)∧w'.cell? ⟨w1.heap.size,1,none⟩=some (.int .i64 mode)∧w'.cell? ⟨w1.heap.size,2,none⟩=some (.int .i64 t)∧w'.cell? ⟨w1.heap.size,3,none⟩=some (.int .i64 l)∧w'.cell? ⟨w1.heap.size,4,none⟩=some (.int .i64 size)∧w'.cell? ⟨w1.heap.size,5,none⟩=some (.int .i64 epoch)) (first | exact HS.out _ bl|exact HS.out _ (Below.refl _ _).drew | exact D4.out | exact D3.out | go_keep)
  (first
   | (go_at_call 87;refine (HRE.out w2.drew hba.drew).mono ?_;rintro e w3 ⟨pv,rfl,hrow,hb3⟩;(have hb23:Below w2.heap.size w2 w3:=(Below.refl w2.heap.size w2).drew.trans hb3);(have D3:=hid (HS.out w3 hb23));(obtain ⟨pa,pc,rfl,hpc,hprd⟩:=qeR hrow);(have HPRD:=hid hprd);(have HPC:=hid hpc);clear hrow hprd hpc)
   | (go_at_call 55;refine (HJO.out w3 pa pc HPC.out HPRD.out).mono ?_;rintro e w4 ⟨ev,rfl,hch4,hb4⟩;(have hb24:Below w2.heap.size w2 w4:=hb23.trans (hb4.mono hb23.size));(have D4:=hid (HS.out w4 hb24));(have HCH4:=hid hch4);clear hch4))
 have hb04:=hba.trans (hb24.mono hba.size)
 go_wp2_with (go_at_call 78;refine (qav _ _ 10 2 _ HCH4.out).mono ?_;rintro e w7 ⟨e7,rfl,hc7,hb7⟩;(have HC7:=hid hc7);clear hc7)
 go_ret2
 exact ⟨e7,rfl,HC7.out,hb04.trans (hb7.mono hb04.size)⟩
structure Seat where
 base:Nat
 C:Nat
 V:Nat
 key:Nat
 n:Nat
 B:Nat
 bc:Nat
 sp:Nat→Nat
structure Sta where
 dn:Nat→Bool
 vs:Nat→Value
 rss:Nat→List RecV
 p:Pen
 X:Nat→List UInt8
def blkNo:Option Addr→Nat
 | some a=>a.block
 | none=>0
def RecV.x (X:Nat→List UInt8) (r:RecV):List UInt8:=X (blkNo r.sa)
def RecV.y (X:Nat→List UInt8) (r:RecV):List UInt8:=X (blkNo r.na)
def RecV.blks (r:RecV):List Nat:=(r.sa.toList++r.na.toList).map Addr.block
theorem qbO (r:RecV) (b:Nat):b∈r.blks↔(∃a,r.sa=some a∧a.block=b)∨(∃a,r.na=some a∧a.block=b):=by
 unfold RecV.blks
 rw [List.mem_map]
 constructor
 ·rintro ⟨a,ha,e⟩
  rcases List.mem_append.1 ha with h | h
  ·exact .inl ⟨a,by simpa using h,e⟩
  ·exact .inr ⟨a,by simpa using h,e⟩
 ·rintro (⟨a,h,e⟩|⟨a,h,e⟩)
  ·exact ⟨a,List.mem_append_left _ (by simp [h]),e⟩
  ·exact ⟨a,List.mem_append_right _ (by simp [h]),e⟩
structure qa1 (w:World) (base n:Nat) (X:Nat→List UInt8) (r:RecV):Prop where
 plan:qaj r.mode r.t r.l n
 z:r.size≤60
 e:r.epoch≤100
 m1:r.mode=1→r.epoch=0
 n1:1≤r.name.size
 n12:r.name.size≤12
 sn:r.sn=10+r.name.size+Cof.ngroups r.mode r.t r.l r.size+8
 own:Bytes w base r.sa r.sn r.sc (r.x X)
 nx:(r.na=none∧r.nn=0∧r.nc=0)∨(r.na≠none∧r.mode=0∧r.epoch<100∧r.nn=r.sn∧Bytes w base r.na r.nn r.nc (r.y X)∧blkNo r.na≠blkNo r.sa)
theorem Bytes.home {w:World} {base n c:Nat} {a:Addr} {xs:List UInt8} (h:Bytes w base (some a) n c xs):base≤a.block∧∃cs fz,w.heap[a.block]?=some (.cells cs 5 fz):=by
 obtain ⟨g,C,fz,h1,h2,h3⟩:=h.block
 cases h1
 exact ⟨h2,C,fz,h3⟩
theorem qa1.at {w:World} {base n:Nat} {X:Nat→List UInt8} {r:RecV} (h:qa1 w base n X r) {b:Nat} (hb:b∈r.blks):base≤b∧∃cs fz,w.heap[b]?=some (.cells cs 5 fz):=by
 rcases (qbO r b).1 hb with ⟨a,ha,rfl⟩|⟨a,ha,rfl⟩
 ·have:=h.own
  rw [ha] at this
  exact this.home
 ·rcases h.nx with ⟨h1,_⟩|⟨_,_,_,_,h5,_⟩
  ·rw [h1] at ha;cases ha
  ·rw [ha] at h5
   exact h5.home
theorem qa1.lt {w:World} {base n:Nat} {X:Nat→List UInt8} {r:RecV} (h:qa1 w base n X r) {b:Nat} (hb:b∈r.blks):b<w.heap.size:=by
 obtain ⟨_,cs,fz,h⟩:=h.at hb
 exact cells_lt h
theorem qa1.sa {w:World} {base n:Nat} {X:Nat→List UInt8} {r:RecV} (h:qa1 w base n X r):∃g,r.sa=some ⟨g,0,none⟩∧g∈r.blks∧base≤g:=by
 obtain ⟨g,C,fz,e,h3,_⟩:=h.own.block
 exact ⟨g,e,(qbO r g).2 (.inl ⟨_,e,rfl⟩),h3⟩
theorem qa1.bytes {w:World} {base n:Nat} {X:Nat→List UInt8} {r:RecV} (h:qa1 w base n X r):(r.x X).length=r.sn:=h.own.len
theorem qa1.keeps {own:Nat→Prop} {w w':World} {base n:Nat} {X X':Nat→List UInt8} {r:RecV} (h:qa1 w base n X r) (hs:qaa own w w') (ho:∀b∈r.blks,¬own b) (hX:∀b∈r.blks,X' b=X b):qa1 w' base n X' r:=by
 obtain ⟨g,hsa,hg,_⟩:=h.sa
 refine ⟨h.plan,h.z,h.e,h.m1,h.n1,h.n12,h.sn,?_,?_⟩
 ·have h1:=h.own.keeps hs (fun b hb=>ho b (by rw [hsa] at hb;cases hb;exact hg))
  have:r.x X'=r.x X:=by unfold RecV.x;rw [hsa];exact hX g hg
  rw [this]
  exact h1
 ·rcases h.nx with hn | ⟨h1,h2,h3,h4,h5,h6⟩
  ·exact .inl hn
  ·obtain ⟨a,ha⟩:=Option.ne_none_iff_exists'.1 h1
   have hm:a.block∈r.blks:=(qbO r _).2 (.inr ⟨a,ha,rfl⟩)
   refine .inr ⟨h1,h2,h3,h4,?_,h6⟩
   have h1:=h5.keeps hs (fun b hb=>ho b (by rw [ha] at hb;cases hb;exact hm))
   have:r.y X'=r.y X:=by unfold RecV.y;rw [ha];exact hX _ hm
   rw [this]
   exact h1
theorem qaz {w:World} {base n size:Nat} {e e':TypeId} {L:List Value} {v:Value} {b:Nat} {cs:Array Value} {fz:Nat × Nat} (h:w.ownsRow base e size v n L) (hb:w.heap[b]?=some (.cells cs e' fz)) (he:e≠e'):v.ownBlock≠some b:=by
 intro hv
 rcases h with ⟨_,⟨rfl,_⟩|⟨g,cap,cur,rfl,_,h4,_⟩⟩
 ·cases hv
 ·cases hv
  rw [h4] at hb
  cases hb
  exact he rfl
def qfo (n:Nat) (rss:Nat→List RecV):Prop:=∀i j,i<n→j<n→∀r∈rss i,∀q∈rss j,∀b,b∈r.blks→b∈q.blks→i=j∧r=q
structure Bank (w:World) (L:Seat) (s:Sta):Prop where
 cf:Cf w L.C L.V
 vp:Vp w L.V L.key L.n L.B L.bc L.sp s.p
 n1:1≤L.n
 n8:L.n≤8
 hk:L.key<18446744073709551616
 st:∀i,i<L.n→Sto w (L.sp i) (s.dn i) (s.vs i) (s.rss i)
 si:∀i j,i<L.n→j<L.n→i≠j→L.sp i≠L.sp j
 vi:∀i j,i<L.n→j<L.n→i≠j→∀b,(s.vs i).ownBlock=some b→(s.vs j).ownBlock≠some b
 G:Glob w L.base
 bC:L.base≤L.C
 bV:L.base≤L.V
 bB:L.base≤L.B
 bsp:∀i,i<L.n→L.base≤L.sp i
 bv:∀i,i<L.n→∀b,(s.vs i).ownBlock=some b→L.base≤b
 ok:∀i,i<L.n→∀r∈s.rss i,qa1 w L.base L.n s.X r
 ap:qfo L.n s.rss
section
variable {w w':World} {L:Seat} {s:Sta}
theorem Bank.so (h:Bank w L s) (i:Nat) (hi:i<L.n):Sorted (s.rss i):=(h.st i hi).so
theorem Bank.not_own (h:Bank w L s) {b:Nat} {cs:Array Value} {fz:Nat × Nat} (hb:w.heap[b]?=some (.cells cs 5 fz)):b≠L.C∧b≠L.V∧b≠L.B∧¬qaA L.n L.sp s.vs b:=by
 obtain ⟨Lb,hL,_⟩:=h.vp.hb
 refine ⟨fun e=>?_,fun e=>?_,fun e=>?_,?_⟩
 ·rw [e,h.cf] at hb;cases hb
 ·rw [e,h.vp.hp] at hb;cases hb
 ·rw [e,hL] at hb;cases hb
 ·rintro ⟨i,hi,e | e⟩
  ·rw [e,(h.st i hi).hp] at hb;cases hb
  ·exact qaz (h.st i hi).row hb (by decide) e
theorem Bank.spared {own:Nat→Prop} (h:Bank w L s) (hs:qaa own w w') (ho:∀b,own b→w.heap.size≤b):Bank w' L s:=by
 have hn:∀{b o},w.heap[b]?=some o→¬own b:=fun hb e=>by have:=cells_lt hb;have:=ho _ e;omega
 obtain ⟨Lb,hL,_⟩:=h.vp.hb
 exact ⟨h.cf.keeps hs (hn h.cf),h.vp.keeps hs (hn h.vp.hp) (hn hL),h.n1,h.n8,h.hk,fun i hi=>(h.st i hi).keeps hs (hn (h.st i hi).hp) (fun b hb e=>by have:=((h.st i hi).row.lt b hb).2;have:=ho _ e;omega),h.si,h.vi,h.G.spared hs (fun b e=>Nat.le_trans h.G.bs (ho b e)),h.bC,h.bV,h.bB,h.bsp,h.bv,fun i hi r hr=>(h.ok i hi r hr).keeps hs (fun b hb e=>by have:=(h.ok i hi r hr).lt hb;have:=ho _ e;omega) (fun _ _=>rfl),h.ap⟩
theorem Bank.below (h:Bank w L s) (hb:Below w.heap.size w w'):Bank w' L s:=h.spared (qaa.ofBelow (own:=fun _=>False) hb nl) (fun _ h=>h.elim)
theorem Bank.next (h:Bank w L s) (s':Sta) (hs:qaa (fun b=>b=L.V∨qaA L.n L.sp s.vs b) w w') (hvp:Vp w' L.V L.key L.n L.B L.bc L.sp s'.p) (hst:∀i,i<L.n→Sto w' (L.sp i) (s'.dn i) (s'.vs i) (s'.rss i))
  (hblk:∀i,i<L.n→(s'.vs i).ownBlock=(s.vs i).ownBlock∨∃b,(s'.vs i).ownBlock=some b∧w.heap.size≤b) (hdis:∀i j,i<L.n→j<L.n→i≠j→∀b,(s'.vs i).ownBlock=some b→(s'.vs j).ownBlock≠some b)
  (hok:∀i,i<L.n→∀r∈s'.rss i,qa1 w' L.base L.n s'.X r) (hap:qfo L.n s'.rss):Bank w' L s':=by
 refine ⟨h.cf.keeps hs ?_,hvp,h.n1,h.n8,h.hk,hst,h.si,hdis,h.G.spared hs ?_,h.bC,h.bV,h.bB,h.bsp,fun i hi b hb=>?_,hok,hap⟩
 ·rintro (e | ⟨i,hi,e | e⟩)
  ·have:=h.cf;unfold Cf at this;rw [e,h.vp.hp] at this;cases this
  ·have:=h.cf;unfold Cf at this;rw [e,(h.st i hi).hp] at this;cases this
  ·exact row_ne (h.st i hi).row h.cf (by decide) e
 ·rintro b (e | ⟨i,hi,e | e⟩)
  ·rw [e];exact h.bV
  ·rw [e];exact h.bsp i hi
  ·exact h.bv i hi b e
 ·rcases hblk i hi with e | ⟨b',e,hge⟩
  ·exact h.bv i hi b (by rw [←e];exact hb)
  ·rw [hb] at e
   cases e
   exact Nat.le_trans h.G.bs hge
theorem Bank.stays (h:Bank w L s) (hs:qaa (fun b=>b=L.V∨qaA L.n L.sp s.vs b) w w') (X':Nat→List UInt8) (hX:∀b,b<w.heap.size→X' b=s.X b) (i:Nat) (hi:i<L.n) (r:RecV) (hr:r∈s.rss i):qa1 w' L.base L.n X' r:=by
 have hg:=h.ok i hi r hr
 refine hg.keeps hs (fun b hb e=>?_) (fun b hb=>hX b (hg.lt hb))
 obtain ⟨_,cs,fz,hc⟩:=hg.at hb
 obtain ⟨_,h2,_,h4⟩:=h.not_own hc
 exact e.elim h2 h4
theorem Bank.ask (h:Bank w L s) (hc:s.p.crashed=false):Ask w L.C L.V L.key L.n L.B L.bc L.sp s.dn s.vs s.rss :=
 ⟨h.cf,Vt.rdy (h:=by have:=h.vp;unfold Vp at this;rw [hc] at this;exact this) h.n1 h.n8,h.st,h.G.tb,h.G.et⟩
end
def Mine (L:Seat) (s:Sta) (b:Nat):Prop:=b=L.V∨qaA L.n L.sp s.vs b∨∃i,i<L.n∧∃r∈s.rss i,b∈r.blks
theorem Bank.mine_lt {w:World} {L:Seat} {s:Sta} (h:Bank w L s) {b:Nat} (hb:Mine L s b):b<w.heap.size:=by
 rcases hb with e | ⟨i,hi,e | e⟩|⟨i,hi,r,hr,hb⟩
 ·rw [e];exact cells_lt h.vp.hp
 ·rw [e];exact cells_lt (h.st i hi).hp
 ·exact ((h.st i hi).row.lt b e).2
 ·exact (h.ok i hi r hr).lt hb
theorem Mine.of {L:Seat} {s:Sta} {w w':World} (h:qaa (fun b=>b=L.V∨qaA L.n L.sp s.vs b) w w'):qaa (Mine L s) w w':=h.mono fun _ hb=>hb.imp id .inl
theorem Mine.below {L:Seat} {s:Sta} {w w':World} (h:Below w.heap.size w w'):qaa (Mine L s) w w':=qaa.ofBelow h nl
def Calm (L:Seat) (s:Sta):Prop:=s.p.crashed=false∧Even L.n s.rss
def Both (k:Int) (d:Nat) (R0 R1:World→Prop) (e:Ending) (w':World):Prop:=(e=.returned .nilIface∧R0 w')∨(∃ev,e=.returned ev∧Chain w' k d ev∧qaJ w'∧R1 w')
def qlC (k:Int) (R0 R1:World→Prop) (e:Ending) (w':World):Prop:=(e=.returned (.int .i64 0)∧∃w1,R0 w1∧Below w1.heap.size w1 w')∨(e=.returned (.int .i64 k)∧∃w1,R1 w1∧Below w1.heap.size w1 w')
theorem qgx (C V d:Nat) (k:Int) (nm:ByteArray) (w:World) (R0 R1:World→Prop) (h:Cf w C V) (hd:d≤10)
  (hv:Calls Tryz.prog 102 #[.pointer (some ⟨V,0,none⟩),.string nm] w fun e w'=>Both k d R0 R1 e w') :
  Calls Tryz.prog 57 #[.pointer (some ⟨C,0,none⟩),.string nm] w fun e w'=>qlC k R0 R1 e w':=by
 have c0:w.cell? ⟨C,0,none⟩=some (.pointer (some ⟨V,0,none⟩)):=cq h rfl
 have HV:=hid hv
 clear h hv
 go_enter Tryz.func57,Tryz.ntmps57
 go_wp2_with fail
 refine HV.out.mono ?_
 rintro e w1 (⟨rfl,hr⟩|⟨ev,rfl,hch,hE,hr⟩)
 ·have HR:=hid hr
  clear hr
  go_wp2_with (go_at_call 44;refine (qbY _).mono ?_;rintro e w2 ⟨rfl,rfl⟩)
  go_ret
  exact .inl ⟨rfl,_,HR.out,bl⟩
 ·have HNU:=hid (qaD k w1 d ev hch hd hE)
  have HR:=hid hr
  obtain ⟨te,ve,rfl⟩:=hch.shape
  clear hch hr
  go_wp2_with (go_at_call 44;refine HNU.out.mono ?_;rintro e w2 ⟨rfl,hb2⟩)
  go_ret
  exact .inr ⟨rfl,w1,HR.out,hb2⟩
theorem qfC (C V d:Nat) (k:Int) (nm tape:ByteArray) (w:World) (R0 R1:World→Prop) (h:Cf w C V) (hd:d≤10)
  (hv:Calls Tryz.prog 45 #[.pointer (some ⟨V,0,none⟩),.string nm,.string tape] w fun e w'=>Both k d R0 R1 e w') :
  Calls Tryz.prog 17 #[.pointer (some ⟨C,0,none⟩),.string nm,.string tape] w fun e w'=>qlC k R0 R1 e w':=by
 have c0:w.cell? ⟨C,0,none⟩=some (.pointer (some ⟨V,0,none⟩)):=cq h rfl
 have HV:=hid hv
 clear h hv
 go_enter Tryz.func17,Tryz.ntmps17
 go_wp2_with fail
 refine HV.out.mono ?_
 rintro e w1 (⟨rfl,hr⟩|⟨ev,rfl,hch,hE,hr⟩)
 ·have HR:=hid hr
  clear hr
  go_wp2_with (go_at_call 44;refine (qbY _).mono ?_;rintro e w2 ⟨rfl,rfl⟩)
  go_ret
  exact .inl ⟨rfl,_,HR.out,bl⟩
 ·have HNU:=hid (qaD k w1 d ev hch hd hE)
  have HR:=hid hr
  obtain ⟨te,ve,rfl⟩:=hch.shape
  clear hch hr
  go_wp2_with (go_at_call 44;refine HNU.out.mono ?_;rintro e w2 ⟨rfl,hb2⟩)
  go_ret
  exact .inr ⟨rfl,w1,HR.out,hb2⟩
theorem qhg {k:Int} {d:Nat} {R0 R1:World→Prop} {e:Ending} {w:World} (hd:d≤10) (h:Both k d R0 R1 e w):∃ev x,e=.returned ev∧(ev=.nilIface∨∃te ve,ev=.iface te ve)∧(Calls Tryz.prog 44 #[ev] w fun e' w'=>e'=.returned (.int .i64 x)∧Below w.heap.size w w')∧((x=0∧R0 w)∨(x=k∧R1 w)):=by
 rcases h with ⟨rfl,hr⟩|⟨ev,rfl,hch,hE,hr⟩
 ·refine ⟨_,0,rfl,.inl rfl,(qbY w).mono ?_,.inl ⟨rfl,hr⟩⟩
  rintro e' w' ⟨rfl,rfl⟩
  exact ⟨rfl,bl⟩
 ·exact ⟨ev,k,rfl,.inr hch.shape,qaD k w d ev hch hd hE,.inr ⟨rfl,hr⟩⟩
theorem qkn (C V d:Nat) (k mode t l:Int) (nm vl tape:ByteArray) (w:World) (own:Nat→Prop) (R0 R1:World→Prop) (h:Cf w C V) (hd:d≤10) (hoC:¬own C) (hown:∀b,own b→b<w.heap.size)
  (hv:∀w1,Below w.heap.size w w1→Calls Tryz.prog 75 #[.pointer (some ⟨V,0,none⟩),.string nm,.string vl,.agg #[.int .i64 mode,.int .i64 t,.int .i64 l],.string tape] w1 fun e w'=>Both k d R0 R1 e w'∧qaa own w1 w') :
  Calls Tryz.prog 43 #[.pointer (some ⟨C,0,none⟩),.string nm,.string vl,.agg #[.int .i64 mode,.int .i64 t,.int .i64 l],.string tape] w fun e w'=>qlC k R0 R1 e w':=by
 have hba:=(Below.refl w.heap.size w).alloc nl (.cells #[.int .i64 mode,.int .i64 t,.int .i64 l] 29)
 have hl:=cells_lt h
 obtain ⟨w1,hw1⟩:∃w1,w1=w.alloc (.cells #[.int .i64 mode,.int .i64 t,.int .i64 l] 29):=⟨_,rfl⟩
 have HPB:=hid (show w1.heap[w.heap.size]?=some (.cells #[.int .i64 mode,.int .i64 t,.int .i64 l] 29) by rw [hw1];exact alloc_at _ _)
 rw [←hw1] at hba
 have h1:Cf w1 C V:=h.keeps (qaa.ofBelow (own:=fun _=>False) hba nl) (fun h=>h)
 have c0:w1.cell? ⟨C,0,none⟩=some (.pointer (some ⟨V,0,none⟩)):=cq h1 rfl
 have p0:w1.cell? ⟨w.heap.size,0,none⟩=some (.int .i64 mode):=cq HPB.out rfl
 have p1:w1.cell? ⟨w.heap.size,1,none⟩=some (.int .i64 t):=cq HPB.out rfl
 have p2:w1.cell? ⟨w.heap.size,2,none⟩=some (.int .i64 l):=cq HPB.out rfl
 have HV:=hid (hv w1.drew hba.drew)
 have HCF:=hid h1
 have HOC:=hid hoC
 have HOW:=hid (show ¬own w.heap.size from fun h=>by have:=hown _ h;omega)
 have HS:=hid (show ∀w',qaa own w1 w'→w'.cell? ⟨C,0,none⟩=some (.pointer (some ⟨V,0,none⟩))∧w'.cell? ⟨w.heap.size,0,none⟩=some (.int .i64 mode)∧w'.cell? ⟨w.heap.size,1,none⟩=some (.int .i64 t)∧w'.cell? ⟨w.heap.size,2,none⟩=some (.int .i64 l) from fun w' hs=>⟨(World.cell?_of_block (hs.block C (cells_lt HCF.out) HOC.out)).trans c0,(World.cell?_of_block (hs.block _ (cells_lt HPB.out) HOW.out)).trans p0,(World.cell?_of_block (hs.block _ (cells_lt HPB.out) HOW.out)).trans p1,(World.cell?_of_block (hs.block _ (cells_lt HPB.out) HOW.out)).trans p2⟩)
 have HW1:=hid hw1
 clear h hv h1 hoC hown
 go_enter Tryz.func43,Tryz.ntmps43
 go_wp2_with fail
 rw [←HW1.out]
 clear hw1 HW1
 go_region_held3 (fun w'=>w'.cell? ⟨C,0,none⟩=some (.pointer (some ⟨V,0,none⟩))∧w'.cell? ⟨w.heap.size,0,none⟩=some (.int .i64 mode)∧w'.cell? ⟨w.heap.size,1,none⟩=some (.int .i64 t)∧w'.cell? ⟨w.heap.size,2,none⟩=some (.int .i64 l)) (first | exact ⟨c0,p0,p1,p2⟩|exact D3.out | exact D2.out | go_keep)
  (first
   | (go_at_call 75;refine HV.out.mono ?_;rintro e w2 ⟨hbo,hs⟩;(obtain ⟨ev,x,rfl,hsh,hnum,hr⟩:=qhg hd hbo);(have HR:=hid hr);(have HNU:=hid hnum);(have HSS:=hid (show qaa own w1 w2 from ((qaa.refl own w1).drew).trans hs));(have D2:=hid (HS.out w2 HSS.out));clear hr hs hnum hbo;clear hsh)
   | (go_at_call 44;refine HNU.out.mono ?_;rintro e w3 ⟨rfl,hb3⟩;(have D3:=hid (HS.out w3 (HSS.out.trans (qaa.ofBelow hb3 nl))))))
 go_wp2
 go_ret
 rcases HR.out with ⟨rfl,hr⟩|⟨rfl,hr⟩
 ·exact .inl ⟨rfl,w2,hr,hb3⟩
 ·exact .inr ⟨rfl,w2,hr,hb3⟩
theorem Bank.putOwn {w:World} {L:Seat} {s:Sta} (h:Bank w L s):¬(L.C=L.V∨qaA L.n L.sp s.vs L.C)∧∀b,(b=L.V∨qaA L.n L.sp s.vs b)→b<w.heap.size:=by
 constructor
 ·rintro (e | ⟨i,hi,e | e⟩)
  ·have:=h.cf;unfold Cf at this;rw [e,h.vp.hp] at this;cases this
  ·have:=h.cf;unfold Cf at this;rw [e,(h.st i hi).hp] at this;cases this
  ·exact row_ne (h.st i hi).row h.cf (by decide) e
 ·rintro b (e | ⟨i,hi,e | e⟩)
  ·rw [e];exact cells_lt h.vp.hp
  ·rw [e];exact cells_lt (h.st i hi).hp
  ·exact ((h.st i hi).row.lt b e).2
section
variable {n:Nat} {rss rss':Nat→List RecV} {nm:ByteArray}
theorem qf0 (hn:1≤n) (hev:Even n rss) (hso:∀i,i<n→Sorted (rss i)) (hso':∀i,i<n→Sorted (rss' i)) (hm:∀i,i<n→∀r:RecV,r.name≠nm→(r∈rss' i↔r∈rss i)) (hsm:Small n rss') (hnm:qki n rss' nm→codeOf n rss' nm=some 5):Even n rss':=by
 refine qlF hn hso' hsm fun x hk=>?_
 by_cases e:x=nm
 ·subst e;exact hnm hk
 ·have hm':∀i,i<n→∀r:RecV,r.name=x→(r∈rss' i↔r∈rss i):=fun i hi r hr=>hm i hi r (by rw [hr];exact e)
  rw [qkl hso' hso hm']
  exact hev.code hn hso x (qiu hm' hk)
theorem qho {rs:List RecV} (hs:Sorted rs) {nm:ByteArray} {r:RecV} (hr:r∈rs) (hn:r.name=nm):hasName rs nm=true∧qac rs nm=r:=⟨(qay hs nm).2 ⟨r,hr,hn⟩,qfA hs hr hn⟩
def putL (rss:Nat→List RecV) (ys:List RecV) (k i:Nat):List RecV:=if i<k then insR (rss i) (ys[i]!) else rss i
theorem qdS (hso:∀i,i<n→Sorted (rss i)) (hno:∀i,i<n→hasName (rss i) nm=false) {ys:List RecV} (hy:∀i,i<n→(ys[i]!).name=nm) (k i:Nat) (hi:i<n):Sorted (putL rss ys k i):=by
 unfold putL
 split
 ·exact qed (hso i hi) _ (by rw [hy i hi];exact hno i hi)
 ·exact hso i hi
theorem qbP (rss:Nat→List RecV) (ys:List RecV) (k i:Nat) (r:RecV):r∈putL rss ys k i↔(i<k∧r=ys[i]!)∨r∈rss i:=by
 unfold putL
 split
 ·rename_i h
  rw [qkC]
  simp [h]
 ·rename_i h
  simp [h]
theorem qfe {ys:List RecV} (hy:∀i,i<n→(ys[i]!).name=nm) (k i:Nat) (hi:i<n) (r:RecV) (hr:r.name≠nm):r∈putL rss ys k i↔r∈rss i:=by
 rw [qbP]
 exact ⟨fun h=>h.elim (fun ⟨_,e⟩=>absurd (by rw [e,hy i hi]) hr) id,.inr⟩
theorem qld (hn:1≤n) (hev:Even n rss) (hso:∀i,i<n→Sorted (rss i)) (hno:∀i,i<n→hasName (rss i) nm=false) {ys:List RecV} {o:Ob} (hy:∀i,i<n→(ys[i]!).ob=o∧(ys[i]!).na=none) (ho:o.name=nm) (hs:o.epoch≤1000∧nm.size≤1000):Even n (putL rss ys n):=by
 have hyn:∀i,i<n→(ys[i]!).name=nm:=fun i hi=>(congrArg Ob.name (hy i hi).1).trans ho
 have hso':=fun i hi=>qdS hso hno hyn n i hi
 have hl:∀i,i<n→hasName (putL rss ys n i) nm=true∧qac (putL rss ys n i) nm=ys[i]! := fun i hi=>qho (hso' i hi) ((qbP _ _ _ _ _).2 (.inl ⟨hi,rfl⟩)) (hyn i hi)
 refine qf0 (nm:=nm) hn hev hso hso' (fun i hi r hr=>qfe hyn n i hi r hr) (fun i hi r hr=>?_) (fun _=>qdx hn fun i hi=>?_)
 ·rcases (qbP _ _ _ _ _).1 hr with ⟨_,rfl⟩|hr
  ·have e1:=congrArg Ob.epoch (hy i hi).1
   have e2:=hyn i hi
   exact ⟨by rw [show (ys[i]!).epoch=o.epoch from e1];exact hs.1,by rw [e2];exact hs.2⟩
  ·exact hev.ep i hi r hr
 ·refine ⟨(hl i hi).1,by rw [(hl i hi).2];exact (hy i hi).2,?_⟩
  rw [(hl i hi).2,(hl 0 (by omega)).2,(hy i hi).1,(hy 0 (by omega)).1]
def delL (rss:Nat→List RecV) (nm:ByteArray) (k i:Nat):List RecV:=if i<k then remR (rss i) nm else rss i
theorem qem (hso:∀i,i<n→Sorted (rss i)) (k i:Nat) (hi:i<n):Sorted (delL rss nm k i):=by
 unfold delL
 split
 ·exact qer (hso i hi) nm
 ·exact hso i hi
theorem qdO (k i:Nat) (r:RecV) (h:r∈delL rss nm k i):r∈rss i:=by
 unfold delL at h
 split at h
 ·exact ((qfq _ _ _).1 h).1
 ·exact h
theorem qeW (k i:Nat) (r:RecV) (hr:r.name≠nm):r∈delL rss nm k i↔r∈rss i:=by
 unfold delL
 split
 ·rw [qfq]
  exact ⟨fun h=>h.1,fun h=>⟨h,hr⟩⟩
 ·exact Iff.rfl
theorem qk3 (hn:1≤n) (hev:Even n rss) (hso:∀i,i<n→Sorted (rss i)):Even n (delL rss nm n):=by
 refine qf0 (nm:=nm) hn hev hso (fun i hi=>qem hso n i hi) (fun i hi r hr=>qeW n i r hr) (fun i hi r hr=>hev.ep i hi r (qdO n i r hr)) ?_
 rintro ⟨i,hi,r,hr,e⟩
 unfold delL at hr
 rw [if_pos hi] at hr
 exact absurd e ((qfq _ _ _).1 hr).2
theorem qfz {ys:List RecV} {k q:Nat} (xs:Nat→RecV):(qaq n xs ys k q).name=(xs q).name:=by
 unfold qaq
 split
 ·rfl
 ·split<;>rfl
theorem qdo {ys:List RecV} (hyes:∀i,i<n→hasName (rss i) nm=true) (k i:Nat) (hi:i<n):(qaq n (fun q=>qac (rss q) nm) ys k i).name=nm:=by
 rw [qfz]
 exact qaS (hyes i hi)
theorem qcX (hso:∀i,i<n→Sorted (rss i)) (hyes:∀i,i<n→hasName (rss i) nm=true) {ys:List RecV} (k i:Nat) (hi:i<n):Sorted (refL n rss nm ys k i):=qgU (hso i hi) (hyes i hi) _ (qdo hyes k i hi)
theorem qcl (hso:∀i,i<n→Sorted (rss i)) (hyes:∀i,i<n→hasName (rss i) nm=true) {ys:List RecV} (k i:Nat) (hi:i<n) (r:RecV):r∈refL n rss nm ys k i↔r=qaq n (fun q=>qac (rss q) nm) ys k i∨(r∈rss i∧r.name≠nm):=qkA (hso i hi) (hyes i hi) _ r
theorem qeX (hso:∀i,i<n→Sorted (rss i)) (hyes:∀i,i<n→hasName (rss i) nm=true) {ys:List RecV} (k i:Nat) (hi:i<n) (r:RecV) (hr:r.name≠nm):r∈refL n rss nm ys k i↔r∈rss i:=by
 rw [qcl hso hyes k i hi]
 exact ⟨fun h=>h.elim (fun e=>absurd (by rw [e];exact qdo hyes k i hi) hr) (fun h=>h.1),fun h=>.inr ⟨h,hr⟩⟩
theorem qgg (hso:∀i,i<n→Sorted (rss i)) (hyes:∀i,i<n→hasName (rss i) nm=true) {ys:List RecV} (k i:Nat) (hi:i<n):hasName (refL n rss nm ys k i) nm=true∧qac (refL n rss nm ys k i) nm=qaq n (fun q=>qac (rss q) nm) ys k i :=
 qho (qcX hso hyes k i hi) ((qcl hso hyes k i hi _).2 (.inl rfl)) (qdo hyes k i hi)
theorem qkL (hn:1≤n) (hev:Even n rss) (hso:∀i,i<n→Sorted (rss i)) (hyes:∀i,i<n→hasName (rss i) nm=true) {ys:List RecV} {o:Ob} (hob:∀i,i<n→(qac (rss i) nm).ob=o) (he:o.epoch<1000):Even n (refL n rss nm ys (2*n)):=by
 have hl:=fun i hi=>qgg hso hyes (ys:=ys) (2*n) i hi
 have hst:∀i,i<n→qaq n (fun q=>qac (rss q) nm) ys (2*n) i=((qac (rss i) nm).laid (ys[i]!)).turned:=fun i hi=>by unfold qaq;rw [if_pos (by omega)]
 have hto:∀i,i<n→(((qac (rss i) nm).laid (ys[i]!)).turned).ob=⟨o.name,o.mode,o.t,o.l,o.size,o.epoch+1⟩:=fun i hi=>by
  have:=hob i hi
  simp only [RecV.ob] at this
  subst this
  rfl
 refine qf0 (nm:=nm) hn hev hso (fun i hi=>qcX hso hyes _ i hi) (fun i hi r hr=>qeX hso hyes _ i hi r hr) (fun i hi r hr=>?_) (fun _=>qdx hn fun i hi=>?_)
 ·rcases (qcl hso hyes _ i hi r).1 hr with e | ⟨hr,_⟩
  ·have h1:=congrArg Ob.epoch (hto i hi)
   have h2:=congrArg Ob.name (hob i hi)
   have h3:=(hev.ep i hi _ (qas (hyes i hi)).1).2
   rw [e,hst i hi]
   refine ⟨?_,h3⟩
   have:(((qac (rss i) nm).laid (ys[i]!)).turned).epoch=o.epoch+1:=h1
   omega
  ·exact hev.ep i hi r hr
 ·refine ⟨(hl i hi).1,?_,?_⟩
  ·rw [(hl i hi).2,hst i hi]
   rfl
  ·rw [(hl i hi).2,(hl 0 (by omega)).2,hst i hi,hst 0 (by omega),hto i hi,hto 0 (by omega)]
end
def newX (X:Nat→List UInt8) (W n:Nat) (ys:List RecV) (Z:Nat→List UInt8) (b:Nat):List UInt8 :=
 if b<W then X b else match (List.range n).find? (fun i=>decide ((ys[i]!).blk=some b)) with
  | some i=>Z i
  | none=>[]
theorem qh7 {X:Nat→List UInt8} {W n:Nat} {ys:List RecV} {Z:Nat→List UInt8} {b:Nat} (h:b<W):newX X W n ys Z b=X b:=by unfold newX;rw [if_pos h]
theorem qh6 {X:Nat→List UInt8} {W n:Nat} {ys:List RecV} {Z:Nat→List UInt8} (hinj:∀i j,i<j→j<n→(ys[i]!).blk≠(ys[j]!).blk) {i b:Nat} (hi:i<n) (hb:(ys[i]!).blk=some b) (hW:W≤b):newX X W n ys Z b=Z i:=by
 unfold newX
 rw [if_neg (by omega)]
 cases hf:(List.range n).find? (fun i=>decide ((ys[i]!).blk=some b)) with
 | none =>
  rw [List.find?_eq_none] at hf
  exact absurd (decide_eq_true hb) (hf i (List.mem_range.2 hi))
 | some j =>
  have h1:=List.find?_some hf
  have h2:=List.mem_range.1 (List.mem_of_find?_eq_some hf)
  have hj:=of_decide_eq_true h1
  have:j=i:=by
   rcases Nat.lt_trichotomy j i with h | h | h
   ·exact absurd (hj.trans hb.symm) (hinj j i h hi)
   ·exact h
   ·exact absurd (hb.trans hj.symm) (hinj i j h h2)
  rw [this]
def qaR (key:Nat) (o:Ob) (n i:Nat) (P:List UInt8):List UInt8:=Cof.sealed key (Cof.head o.mode o.t o.l n i o.epoch o.size o.name.data.toList++P)
theorem qc7.good {w:World} {base W key mode t l n size epoch:Nat} {nm:ByteArray} {P:List UInt8} {i:Nat} {r:RecV} {X:Nat→List UInt8} (h:qc7 w W key mode t l n size epoch nm P i r) (hW:base≤W) (hp:qaj mode t l n) (hz:size≤60) (he:epoch≤100) (hm:mode=1→epoch=0) (h1:1≤nm.size) (h12:nm.size≤12) (hP:P.length=Cof.ngroups mode t l size)
  (hX:r.x X=Cof.sealed key (Cof.head mode t l n i epoch size nm.data.toList++P)):qa1 w base n X r:=by
 obtain ⟨e1,e2,e3,e4,e5,e6,e7,e8,e9⟩:=h.e
 refine ⟨by rw [e2,e3,e4];exact hp,by omega,by omega,by rw [e2,e6];exact hm,by rw [e1];exact h1,by rw [e1];exact h12,by rw [h.sn,e1,e2,e3,e4,e5,hP],?_,.inl ⟨e7,e8,e9⟩⟩
 rw [hX]
 exact (Bytes.of_owns h.own (by have:=h.sn;omega)).mono hW
theorem qc7.blkNo {w:World} {W key mode t l n size epoch:Nat} {nm:ByteArray} {P:List UInt8} {i:Nat} {r:RecV} (h:qc7 w W key mode t l n size epoch nm P i r):∃b,r.sa=some ⟨b,0,none⟩∧r.blk=some b∧W≤b∧b<w.heap.size∧r.blks=[b]:=by
 have e7:=h.e.2.2.2.2.2.2.1
 obtain ⟨_,⟨_,hx⟩|⟨g,cap,cur,hv,h3,h4,_⟩⟩:=h.own
 ·have:=h.sn;omega
 ·have e:r.sa=some ⟨g,0,none⟩:=by have:=hv;simp only [Value.slice.injEq] at this;exact this.1
  exact ⟨g,e,by unfold RecV.blk;rw [e];rfl,h3,cells_lt h4,by unfold RecV.blks;rw [e,e7];rfl⟩
structure News (L:Seat) (s s':Sta) (o:Ob) (Z:Nat→List UInt8) (ys:List RecV):Prop where
 dn:∀i,i<L.n→s'.dn i=s.dn i
 old:∀i,i<L.n→∀r∈s.rss i,r.x s'.X=r.x s.X
 ob:∀i,i<L.n→(ys[i]!).ob=o∧(ys[i]!).na=none∧(ys[i]!).sa≠none
 new:∀i,i<L.n→(ys[i]!).x s'.X=Z i
section
variable {w:World} {L:Seat} {s:Sta}
theorem Pen.ticks_fine {p:Pen} (h:p.crashed=false) (k:Nat):(p.ticks k).crashed=false:=(Pen.ticks_crashes p k).2.trans h
theorem qkY (h:Bank w L s) {w':World} {W key mode t l size:Nat} {nm:ByteArray} {Z:Nat→List UInt8} {ys:List RecV} (hW:w.heap.size≤W) (hys:∀i,i<L.n→qc7 w' W key mode t l L.n size 0 nm (Z i) i (ys[i]!)) (hinj:∀i j,i<j→j<L.n→(ys[i]!).blk≠(ys[j]!).blk) (k:Nat):qfo L.n (putL s.rss ys k):=by
 intro i j hi hj r hr q hq b hb1 hb2
 rcases (qbP _ _ _ _ _).1 hr with ⟨_,rfl⟩|hr
 ·obtain ⟨g,hg1,hg2,hg3,_,hg5⟩:=(hys i hi).blkNo
  rw [hg5,List.mem_singleton] at hb1
  subst hb1
  rcases (qbP _ _ _ _ _).1 hq with ⟨_,rfl⟩|hq
  ·obtain ⟨g',_,hg2',_,_,hg5'⟩:=(hys j hj).blkNo
   rw [hg5',List.mem_singleton] at hb2
   subst hb2
   have:i=j:=by
    rcases Nat.lt_trichotomy i j with h | h | h
    ·exact absurd (hg2.trans hg2'.symm) (hinj i j h hj)
    ·exact h
    ·exact absurd (hg2'.trans hg2.symm) (hinj j i h hi)
   subst this
   exact ⟨rfl,rfl⟩
  ·have:=(h.ok j hj q hq).lt hb2
   omega
 ·rcases (qbP _ _ _ _ _).1 hq with ⟨_,rfl⟩|hq
  ·obtain ⟨g',_,hg2',hg3',_,hg5'⟩:=(hys j hj).blkNo
   rw [hg5',List.mem_singleton] at hb2
   subst hb2
   have:=(h.ok i hi r hr).lt hb1
   omega
  ·exact h.ap i j hi hj r hr q hq b hb1 hb2
end
section
variable {w:World} {L:Seat} {s:Sta}
theorem Bank.held (h:Bank w L s) (hc:Calm L s) (nm:ByteArray) (hyes:hasName (s.rss 0) nm=true) (o:Ob) (ho:o=(qac (s.rss 0) nm).ob) :
  qdp w L.base L.V L.key L.n L.B L.bc L.sp s.dn o.mode o.t o.l o.size o.epoch nm (Cof.ngroups o.mode o.t o.l o.size) (fun i=>(qac (s.rss i) nm).x s.X) s.vs s.rss∧(∀i,i<L.n→hasName (s.rss i) nm=true∧(qac (s.rss i) nm).ob=o∧qa1 w L.base L.n s.X (qac (s.rss i) nm)∧(qac (s.rss i) nm).na=none)∧o.name=nm:=by
 obtain ⟨hcr,hev⟩:=hc
 have hy:∀i,i<L.n→hasName (s.rss i) nm=true:=fun i hi=>by rw [hev.hasName h.n1 h.so nm i hi];exact hyes
 have h0:=qas hyes
 have hob:∀i,i<L.n→(qac (s.rss i) nm).ob=o:=fun i hi=>by
  have:=(hev.has h.so 0 i (by have:=h.n1;omega) hi _ h0.1).2.1
  rw [h0.2] at this
  rw [this,ho]
 have hg:∀i,i<L.n→qa1 w L.base L.n s.X (qac (s.rss i) nm):=fun i hi=>h.ok i hi _ (qas (hy i hi)).1
 have hnm:∀i,i<L.n→(qac (s.rss i) nm).name=nm:=fun i hi=>(qas (hy i hi)).2
 refine ⟨⟨⟨s.p.done,s.p.crashes,s.p.ahead,by have:=h.vp;unfold Vp at this;rw [hcr] at this;exact this⟩,h.st,hy,fun i hi=>?_,fun i hi=>?_,fun i hi=>(hg i hi).own⟩,fun i hi=>⟨hy i hi,hob i hi,hg i hi,hev.bare i hi _ (qas (hy i hi)).1⟩,by rw [ho];exact h0.2⟩
 ·have:=hob i hi
  subst this
  exact ⟨hnm i hi,rfl,rfl,rfl,rfl,rfl⟩
 ·have h1:=(hg i hi).sn
  rw [hnm i hi] at h1
  have:=hob i hi
  subst this
  exact h1
end
end Go.Proofs.YtcegdgmbponapaaGreatDoor