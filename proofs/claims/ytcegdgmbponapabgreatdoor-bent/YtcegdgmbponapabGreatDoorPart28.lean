/-
  What is held is got back, from the stores that are up and whose shards are good: among several objects.
  A coffer with several objects, as it lies: what holds behind every call.
  What Put, Delete and Refresh leave at the stores, done or cut off: of lists of records alone.
  Put, Delete and Refresh of a coffer with several objects: what is at the stores behind them, done or cut off.
-/
import Derived.Test.YtcegdgmbponapabGreatDoorPart27
namespace Go.Proofs.YtcegdgmbponapabGreatDoor
open Go.RowKit
attribute [local go_sem ↓] Go.wp_at_zero Go.wp_at_succ
def Bytes (w:World) (base:Nat) (a:Option Addr) (n c:Nat) (xs:List UInt8):Prop :=
 ∃(g:Nat) (C:Array Value) (fz:Nat × Nat),a=some ⟨g,0,none⟩∧base≤g∧w.heap[g]?=some (.cells C 5 fz)∧xs.length=n∧n≤c∧n≤C.size∧C.toList.take n=bs xs∧∀k,k<n→¬(fz.1≤k∧k<fz.2)
section
variable {w w':World} {base n c:Nat} {a:Option Addr} {xs:List UInt8}
theorem Bytes.len (h:Bytes w base a n c xs):xs.length=n:=by obtain ⟨_,_,_,_,_,_,h,_⟩:=h;exact h
theorem Bytes.caps (h:Bytes w base a n c xs):n≤c:=by obtain ⟨_,_,_,_,_,_,_,h,_⟩:=h;exact h
theorem Bytes.block (h:Bytes w base a n c xs):∃(g:Nat) (C:Array Value) (fz:Nat × Nat),a=some ⟨g,0,none⟩∧base≤g∧w.heap[g]?=some (.cells C 5 fz):=by obtain ⟨g,C,fz,h1,h2,h3,_⟩:=h;exact ⟨g,C,fz,h1,h2,h3⟩
theorem Bytes.at (h:Bytes w base a n c xs) {g:Nat} (hg:a=some ⟨g,0,none⟩) (k:Nat) (hk:k<n):w.cell? ⟨g,k,none⟩=some (.int .u8 (xs.getD k 0).toNat)∧w.frozen? ⟨g,k,none⟩=false∧g<w.heap.size:=by
 obtain ⟨g',C,fz,h1,h2,h3,h4,h5,h6,h7,h8⟩:=h
 rw [h1] at hg
 cases hg
 refine ⟨?_,?_,cells_lt h3⟩
 ·have:C.toList[k]?=(bs xs)[k]?:=by rw [←h7,List.getElem?_take,if_pos hk]
  rw [bs_get _ _ (by omega)] at this
  simp only [World.cell?,h3]
  simpa using this
 ·have:=h8 k hk
  simp only [World.frozen?,h3]
  simp only [Bool.and_eq_false_iff,decide_eq_false_iff_not]
  omega
theorem Bytes.rd (h:Bytes w base a n c xs):Rd w a (bs xs):=by
 obtain ⟨g,C,fz,h1,h2,h3⟩:=h.block
 subst h1
 intro k v hk
 have hkl:k<xs.length:=by
  rcases Nat.lt_or_ge k xs.length with h' | h'
  ·exact h'
  ·rw [List.getElem?_eq_none (by rw [bs_length];exact h')] at hk;simp at hk
 refine ⟨g,0,rfl,cells_lt h3,?_⟩
 rw [Nat.zero_add,(h.at rfl k (by rw [←h.len];exact hkl)).1,←bs_get _ _ hkl,hk]
theorem Bytes.keeps {own:Nat→Prop} (h:Bytes w base a n c xs) (hs:Spared own w w') (ho:∀g,a=some ⟨g,0,none⟩→¬own g):Bytes w' base a n c xs:=by
 obtain ⟨g,C,fz,h1,h2,h3,h4⟩:=h
 exact ⟨g,C,fz,h1,h2,hs.heap h3 (ho g h1),h4⟩
theorem Bytes.mono {base':Nat} (h:Bytes w base a n c xs) (hb:base'≤base):Bytes w base' a n c xs:=by
 obtain ⟨g,C,fz,h1,h2,h3⟩:=h
 exact ⟨g,C,fz,h1,Nat.le_trans hb h2,h3⟩
theorem Bytes.of_owns (h:w.ownsRow base 5 1 (.slice a n c) n (bs xs)) (h0:0<n):Bytes w base a n c xs:=by
 obtain ⟨h1,⟨_,hx⟩|⟨g,cap,cur,hv,h3,h4,h5,h6,h7,h8⟩⟩:=h
 ·omega
 ·cases hv
  rw [bs_length,Nat.mul_one] at h1
  rw [Nat.mul_one] at h7 h8
  exact ⟨g,cur,(0,0),rfl,h3,h4,h1,h5,by omega,h8,fun k _=>by simp⟩
theorem Bytes.of_FB {g:Nat} (h:FB w g xs) (hg:base≤g) (hn:xs.length=n) (hc:n≤c):Bytes w base (some ⟨g,0,none⟩) n c xs:=by
 obtain ⟨C,h1,h2,h3⟩:=h
 subst hn
 exact ⟨g,C,_,rfl,hg,h1,rfl,hc,h2,h3,fun k hk=>by simp only;omega⟩
theorem Bytes.set (h:Bytes w base a n c xs) {g:Nat} (hg:a=some ⟨g,0,none⟩) (k:Nat) (x:UInt8):Bytes (w.setCell ⟨g,k,none⟩ (.int .u8 x.toNat)) base a n c (xs.set k x):=by
 obtain ⟨g',C,fz,h1,h2,h3,h4,h5,h6,h7,h8⟩:=h
 have eg:g'=g:=by rw [h1] at hg;cases hg;rfl
 subst eg
 refine ⟨g',C.setIfInBounds k (.int .u8 x.toNat),fz,h1,h2,?_,by simpa using h4,h5,by simpa using h6,?_,h8⟩
 ·rw [setCell_eq_setRow w g' k C _ _ _ h3,setRow_heap w g' C _ _ _ h3]
 ·rw [←bs_set,←h7]
  simp [List.take_set]
end
structure HeldL (w:World) (base V key n B bc:Nat) (sp:Nat→Nat) (down:Nat→Bool) (mode t l size epoch:Nat) (nm:ByteArray) (len:Nat) (X:Nat→List UInt8) (vs:Nat→Value) (rss:Nat→List RecV):Prop where
 vt:∃done crashes ahead,Vt w V key n B bc sp done crashes ahead false
 st:∀i,i<n→Sto w (sp i) (down i) (vs i) (rss i)
 has:∀i,i<n→hasName (rss i) nm=true
 e:∀i,i<n→(recOf (rss i) nm).name=nm∧(recOf (rss i) nm).mode=mode∧(recOf (rss i) nm).t=t∧(recOf (rss i) nm).l=l∧(recOf (rss i) nm).size=size∧(recOf (rss i) nm).epoch=epoch
 sn:∀i,i<n→(recOf (rss i) nm).sn=10+nm.size+len+8
 own:∀i,i<n→Bytes w base (recOf (rss i) nm).sa (recOf (rss i) nm).sn (recOf (rss i) nm).sc (X i)
theorem HeldL.below {w w':World} {base V key n B bc:Nat} {sp:Nat→Nat} {down:Nat→Bool} {mode t l size epoch:Nat} {nm:ByteArray} {len:Nat} {X:Nat→List UInt8} {vs:Nat→Value} {rss:Nat→List RecV} (h:HeldL w base V key n B bc sp down mode t l size epoch nm len X vs rss) (hb:Below w.heap.size w w'):HeldL w' base V key n B bc sp down mode t l size epoch nm len X vs rss:=by
 obtain ⟨done,cra,ahead,hvt⟩:=h.vt
 have hs:=Spared.ofBelow (own:=fun _=>False) hb (Nat.le_refl _)
 exact ⟨⟨done,cra,ahead,hvt.keeps hs (fun h=>h) (fun h=>h)⟩,fun i hi=>(h.st i hi).keeps hs (fun h=>h) (fun _ _ h=>h),h.has,h.e,h.sn,fun i hi=>(h.own i hi).keeps hs (fun _ _ h=>h)⟩
theorem HeldL.bytes {w:World} {base V key n B bc:Nat} {sp:Nat→Nat} {down:Nat→Bool} {mode t l size epoch:Nat} {nm:ByteArray} {len:Nat} {X:Nat→List UInt8} {vs:Nat→Value} {rss:Nat→List RecV} (h:HeldL w base V key n B bc sp down mode t l size epoch nm len X vs rss) (i:Nat) (hi:i<n):(X i).length=10+nm.size+len+8:=by
 rw [(h.own i hi).len,h.sn i hi]
theorem HeldL.piece_good {w:World} {base V key n B bc:Nat} {sp:Nat→Nat} {down:Nat→Bool} {mode t l size epoch:Nat} {nm:ByteArray} {X:Nat→List UInt8} {vs:Nat→Value} {rss:Nat→List RecV} (h:HeldL w base V key n B bc sp down mode t l size epoch nm (Cof.ngroups mode t l size) X vs rss)
  (hp:IsPlan mode t l n) (he:epoch≤100) (hz:size≤60) (hn1:1≤nm.size) (hnm:nm.size≤12) (hk:key<18446744073709551616) (hl:Cof.ngroups mode t l size≤60) (i:Nat) (hi:i<n) (P:List UInt8) (hg:Cof.Good key (Cof.head mode t l n i epoch size nm.data.toList) (Cof.ngroups mode t l size) (X i) P) (w':World) (hb:Below w.heap.size w w') (hT:Tab w') :
  Calls Tryz.prog 94 #[.pointer (some ⟨V,0,none⟩),.int .i64 i,.agg #[.string nm,.int .i64 mode,.int .i64 t,.int .i64 l,.int .i64 size,.int .i64 epoch]] w' fun e w'' =>
   ∃pv,e=.returned (.tuple #[pv,.nilIface])∧w''.ownsRow w'.heap.size 5 1 pv (Cof.ngroups mode t l size) (bs P)∧Below w'.heap.size w' w'':=by
 have h':=h.below hb
 obtain ⟨done,cra,ahead,hvt⟩:=h'.vt
 obtain ⟨a,c,_,hst⟩:=(h'.st i hi).st
 have hrd':=(h'.own i hi).rd
 exact vpiece_good V key n B bc sp i (down i) a c (rss i) (recOf (rss i) nm) mode t l size epoch nm w' (hvt.rdy hp.n1 hp.n8) hi hst (h.has i hi) rfl _ rfl _ P hp he hz hn1 hnm hk hl hrd' (by rw [h.sn i hi,h.bytes i hi]) (h'.own i hi).caps hg hT
theorem HeldL.piece_bad {w:World} {base V key n B bc:Nat} {sp:Nat→Nat} {down:Nat→Bool} {mode t l size epoch:Nat} {nm:ByteArray} {X:Nat→List UInt8} {vs:Nat→Value} {rss:Nat→List RecV} (h:HeldL w base V key n B bc sp down mode t l size epoch nm (Cof.ngroups mode t l size) X vs rss)
  (hp:IsPlan mode t l n) (he:epoch≤100) (hz:size≤60) (hn1:1≤nm.size) (hnm:nm.size≤12) (hk:key<18446744073709551616) (hl:Cof.ngroups mode t l size≤60) (i:Nat) (hi:i<n) (hg:¬∃P,Cof.Good key (Cof.head mode t l n i epoch size nm.data.toList) (Cof.ngroups mode t l size) (X i) P) (w':World) (hb:Below w.heap.size w w') (hT:Tab w') :
  Calls Tryz.prog 94 #[.pointer (some ⟨V,0,none⟩),.int .i64 i,.agg #[.string nm,.int .i64 mode,.int .i64 t,.int .i64 l,.int .i64 size,.int .i64 epoch]] w' fun e w'' =>
   ∃ev,e=.returned (.tuple #[.slice none 0 0,ev])∧Chain w'' 12 2 ev∧Below w'.heap.size w' w'':=by
 have h':=h.below hb
 obtain ⟨done,cra,ahead,hvt⟩:=h'.vt
 obtain ⟨a,c,_,hst⟩:=(h'.st i hi).st
 have hrd':=(h'.own i hi).rd
 exact vpiece_bad V key n B bc sp i (down i) a c (rss i) (recOf (rss i) nm) mode t l size epoch nm w' (hvt.rdy hp.n1 hp.n8) hi hst (h.has i hi) rfl _ rfl _ hp he hz hn1 hnm hk hl hrd' (by rw [h.sn i hi,h.bytes i hi]) (h'.own i hi).caps (h.bytes i hi) hg hT
set_option maxRecDepth 100000 in
set_option maxHeartbeats 2000000 in
theorem reached_list (base V key n B bc:Nat) (sp:Nat→Nat) (down bad:Nat→Bool) (mode t l size epoch:Nat) (nm:ByteArray) (X P:Nat→List UInt8) (vs:Nat→Value) (rss:Nat→List RecV) (w:World) (h:HeldL w base V key n B bc sp down mode t l size epoch nm (Cof.ngroups mode t l size) X vs rss)
  (hp:IsPlan mode t l n) (he:epoch≤100) (hz:size≤60) (hn1:1≤nm.size) (hnm:nm.size≤12) (hk:key<18446744073709551616) (hl:Cof.ngroups mode t l size≤60) (hJ:Judged key mode t l n epoch size nm (Cof.ngroups mode t l size) down bad X P) (hT:Tab w) :
  Calls Tryz.prog 72 #[.pointer (some ⟨V,0,none⟩),.agg #[.string nm,.int .i64 mode,.int .i64 t,.int .i64 l,.int .i64 size,.int .i64 epoch]] w fun e w' =>
   ∃v,e=.returned v∧w'.ownsRow w.heap.size 187 2 v (upTo (fun i=>down i || bad i) n).length (pcs ((List.range n).map P) (upTo (fun i=>down i || bad i) n))∧Below w.heap.size w w':=by
 obtain ⟨i0,hi,hz0,hz1,hz2⟩:=info_parts Tryz.infoPiece
 have hba:=(Below.refl w.heap.size w).alloc (Nat.le_refl _) (.cells #[.string nm,.int .i64 mode,.int .i64 t,.int .i64 l,.int .i64 size,.int .i64 epoch] 65)
 obtain ⟨done,cra,ahead,hvt⟩:=h.vt
 have hn8:=hp.n8
 have HR:=hid ((hvt.rdy hp.n1 hn8).keeps hba (Nat.le_refl _))
 have HPC:=hid (fun i hi hg w' hb hT=>h.piece_good hp he hz hn1 hnm hk hl i hi (P i) hg w' hb hT)
 have HPB:=hid (fun i hi hg w' hb hT=>h.piece_bad hp he hz hn1 hnm hk hl i hi hg w' hb hT)
 have HJ:=hid hJ
 have HDN:=hid (show ∀i,i<n→w.cell? ⟨sp i,0,none⟩=some (.bool (down i)) from fun i hi=>by rw [cells_at (h.st i hi).hp];rfl)
 have HLT:=hid (show ∀i,i<n→sp i<w.heap.size from fun i hi=>cells_lt (h.st i hi).hp)
 have HT:=hid hT
 obtain ⟨ng,hng⟩:∃ng,ng=Cof.ngroups mode t l size:=⟨_,rfl⟩
 rw [←hng] at HPC HPB HJ hl
 obtain ⟨rows,hrows⟩:∃rows,rows=(List.range n).map P:=⟨_,rfl⟩
 rw [←hrows]
 have HRG:=hid (show ∀i,i<n→rows.getD i []=P i from fun i hi=>by rw [hrows];simp [hi])
 clear h hp hz hn1 hnm hk hJ hT hng hvt hrows
 have hc1':=HR.out.va.c1
 have hlV:=HR.out.va.lt
 go_enter Tryz.func72,Tryz.ntmps72
 go_wp2_with fail
 obtain ⟨w1,hw1⟩:∃w1,w1=w.alloc (.cells #[.string nm,.int .i64 mode,.int .i64 t,.int .i64 l,.int .i64 size,.int .i64 epoch] 65):=⟨_,rfl⟩
 have HOB:=hid (show w1.heap[w.heap.size]?=some (.cells #[.string nm,.int .i64 mode,.int .i64 t,.int .i64 l,.int .i64 size,.int .i64 epoch] 65) by rw [hw1];exact alloc_at _ _)
 have hz1':w.heap.size<w1.heap.size:=cells_lt HOB.out
 rw [←hw1] at hba HR hc1' hlV ⊢
 clear hw1
 go_loopw [5,15] (fun ov u wr=>∃(k:Nat),k≤n∧u=.int .i64 k∧wr.ownsRow w1.heap.size 187 2 ov (upTo (fun i=>down i || bad i) k).length (pcs rows (upTo (fun i=>down i || bad i) k))∧Below w1.heap.size w1 wr) (fun _ u _=>n-(intOf u).toNat)
 case atStart=>exact ⟨0,Nat.zero_le _,rfl,⟨rfl,.inl ⟨rfl,rfl⟩⟩,Below.refl _ _⟩
 case round =>
  obtain ⟨k,hkn,rfl,hrow,hbr⟩:=hrel
  by_cases hlt:k<n
  ·have hb0r:=hba.trans (hbr.mono (by omega))
   have k1:=(HR.out.keeps hbr (Nat.le_refl _)).st k hlt
   have dk:wr.cell? ⟨sp k,0,none⟩=some (.bool (down k)):=(hb0r.cell (HLT.out k hlt)).trans (HDN.out k hlt)
   have hlt':(k:Int)<(n:Int):=by omega
   have HROW:=hid hrow
   clear hrow
   cases hdk:down k with
   | true =>
    rw [hdk] at dk
    have HX:=hid (upTo_no (fun i=>down i || bad i) k (by simp [hdk]))
    have HCU:=hid (checkUp_down (sp k) wr dk)
    clear hdk
    go_wp2_with (go_at_call 96;refine HCU.out.mono ?_;rintro e w3 ⟨rfl,rfl⟩)
    go_roundw
    case rel=>exact ⟨k+1,by omega,by go_num,by rw [HX.out];exact HROW.out,hbr⟩
    case measure=>simp [intOf];omega
   | false =>
    rw [hdk] at dk
    have HCU:=hid (checkUp_up (sp k) wr dk)
    have HOBR:=hid (show wr.heap[w.heap.size]?=_ from (hbr.block _ hz1').trans HOB.out)
    have o0:wr.cell? ⟨w.heap.size,0,none⟩=some (.string nm):=by rw [cells_at HOBR.out];rfl
    have o1:wr.cell? ⟨w.heap.size,1,none⟩=some (.int .i64 mode):=by rw [cells_at HOBR.out];rfl
    have o2:wr.cell? ⟨w.heap.size,2,none⟩=some (.int .i64 t):=by rw [cells_at HOBR.out];rfl
    have o3:wr.cell? ⟨w.heap.size,3,none⟩=some (.int .i64 l):=by rw [cells_at HOBR.out];rfl
    have o4:wr.cell? ⟨w.heap.size,4,none⟩=some (.int .i64 size):=by rw [cells_at HOBR.out];rfl
    have o5:wr.cell? ⟨w.heap.size,5,none⟩=some (.int .i64 epoch):=by rw [cells_at HOBR.out];rfl
    cases hbk:bad k with
    | true =>
    have HX:=hid (upTo_no (fun i=>down i || bad i) k (by simp [hbk]))
    have HPI:=hid (HPB.out k hlt ((HJ.out k hlt hdk).2 hbk) wr hb0r (HT.out.keeps hb0r (Nat.le_refl _)))
    clear hdk hbk
    go_wp2_with (go_at_call 96;refine HCU.out.mono ?_;rintro e w3 ⟨rfl,rfl⟩)
    refine HPI.out.mono ?_
    rintro e w4 ⟨ev,rfl,hch,hb4⟩
    obtain ⟨te,ve,rfl⟩:=hch.shape
    have hbr4:=hbr.trans (hb4.mono hbr.size)
    have HRW4:=hid (owns_below_size HROW.out hb4 (Nat.le_refl _))
    clear hch
    go_wp2_with fail
    go_roundw
    case rel=>exact ⟨k+1,by omega,by go_num,by rw [HX.out];exact HRW4.out,hbr4⟩
    case measure=>simp [intOf];omega
    | false =>
    have HX:=hid (upTo_yes (fun i=>down i || bad i) k (by simp [hdk,hbk]))
    have hgk:=(HJ.out k hlt hdk).1 hbk
    have HPLk:=hid (show (P k).length=ng from hgk.1)
    have HPI:=hid (HPC.out k hlt hgk wr hb0r (HT.out.keeps hb0r (Nat.le_refl _)))
    clear hdk hbk hgk
    go_wp2_with (go_at_call 96;refine HCU.out.mono ?_;rintro e w3 ⟨rfl,rfl⟩)
    refine HPI.out.mono ?_
    rintro e w4 ⟨pv,rfl,hpo,hb4⟩
    obtain ⟨pa,pc,rfl,hprd⟩:=owns_rd_size hpo
    have hconv:=conv_string w4 pa pc ng (P k) HPLk.out.symm hprd
    have HST:=hid (show str (rows.getD k [])=.string ⟨(P k).toArray⟩ by rw [HRG.out k hlt];rfl)
    generalize (⟨(P k).toArray⟩:ByteArray)=bk at *
    have hbr4:=hbr.trans (hb4.mono hbr.size)
    have hba4:=(Below.refl w4.heap.size w4).alloc (Nat.le_refl _) (.cells #[.int .i64 k,.string bk] 187)
    have HRW4:=hid (owns_below_size (owns_below_size HROW.out hb4 (Nat.le_refl _)) hba4 (Nat.le_refl _))
    have hul:=upTo_le (fun i=>down i || bad i) k
    clear hpo hprd
    go_wp2_with (first | (at_builtin;refine wpList_append_own _ rfl (.tmp 32) (.tmp 37) 131 rfl w1.heap.size 187 i0 _ 2 24 Tryz.underlying131 hi hz0 hz1 hz2 rfl (by decide) _ (upTo (fun i=>down i || bad i) k).length (pcs rows (upTo (fun i=>down i || bad i) k)) rfl HRW4.out ⟨w4.heap.size,0,none⟩ 1 1 [.int .i64 k,.string bk] rfl rfl (fun j u hj=>by rw [add_at,World.cell?_alloc_at _ _ _ _ rfl,Nat.zero_add];simpa using hj) (fun u hu=>by simp at hu;rcases hu with rfl | rfl<;>rfl) (by unfold maxLen;omega) (by omega) (by have:=hbr4.size;simp;omega) ?_;intro v2 w5 hown2 hgrow2 _;(have HO2:=hid hown2);(have HB2:=hid ((hbr4.trans (hba4.mono hbr4.size)).grown hgrow2 (by have:=hbr4.size;simp;omega) (fun q hq=>(HRW4.out.lt q hq).1)));clear hown2 hgrow2)|fail)
    go_roundw
    case rel=>exact ⟨k+1,by omega,by go_num,by rw [HX.out,pcs_one,HST.out,List.length_append];exact HO2.out,HB2.out⟩
    case measure=>simp [intOf];omega
  ·have hkk:k=n:=by omega
   subst hkk
   have HROW:=hid hrow
   clear hrow
   go_wp2
   go_ret
   exact ⟨_,rfl,World.ownsRow.mono HROW.out (by omega),hba.trans (hbr.mono (by omega))⟩
set_option maxRecDepth 100000 in
set_option maxHeartbeats 2000000 in
theorem vget_list (base V key n B bc:Nat) (sp:Nat→Nat) (down bad:Nat→Bool) (mode t l size epoch:Nat) (nm:ByteArray) (X P:Nat→List UInt8) (vs:Nat→Value) (rss:Nat→List RecV) (w:World) (h:HeldL w base V key n B bc sp down mode t l size epoch nm (Cof.ngroups mode t l size) X vs rss)
  (hp:IsPlan mode t l n) (he:epoch≤100) (hz:size≤60) (hn1:1≤nm.size) (hnm:nm.size≤12) (hk:key<18446744073709551616) (hl:Cof.ngroups mode t l size≤60) (hjd:Judged key mode t l n epoch size nm (Cof.ngroups mode t l size) down bad X P) (hT:Tab w)
  (N:Nat) (hN:N=Cof.gsize mode t l+Cof.tsize mode t) (hen:N≤(upTo (fun i=>down i || bad i) n).length) (J:List UInt8) (hJ:Cof.join mode t l size ((upTo (fun i=>down i || bad i) n).take N) (((upTo (fun i=>down i || bad i) n).take N).map P)=J) :
  Calls Tryz.prog 46 #[.pointer (some ⟨V,0,none⟩),.string nm] w fun e w' =>
   ∃av cv,e=.returned (.tuple #[.slice av size cv,.nilIface])∧Rd w' av (bs J)∧Below w.heap.size w w':=by
 have hn1':=hp.n1
 have hn8:=hp.n8
 obtain ⟨done,cra,ahead,hvt⟩:=h.vt
 have hR:=hvt.rdy hn1' hn8
 obtain ⟨a0,c0',_,hst0⟩:=(h.st 0 (by omega)).st
 have hok0:=h.e 0 (by omega)
 have HOBJ:=hid (object_yes V key n B bc sp (down 0) a0 c0' (rss 0) (recOf (rss 0) nm) nm w hR hst0 (h.has 0 (by omega)) rfl)
 rw [hok0.1,hok0.2.1,hok0.2.2.1,hok0.2.2.2.1,hok0.2.2.2.2.1,hok0.2.2.2.2.2] at HOBJ
 have HRE:=hid (fun w' hb=>reached_list base V key n B bc sp down bad mode t l size epoch nm X P vs rss w' (h.below hb) hp he hz hn1 hnm hk hl hjd (hT.keeps hb (Nat.le_refl _)))
 have hul:=upTo_le (fun i=>down i || bad i) n
 have hlt:∀s∈upTo (fun i=>down i || bad i) n,s<n:=fun s hs=>by unfold upTo at hs;exact List.mem_range.1 (List.mem_filter.1 hs).1
 have hP:∀s∈upTo (fun i=>down i || bad i) n,(P s).length=Cof.ngroups mode t l size:=fun s hs=>by
  have h2:=(List.mem_filter.1 hs).2
  simp at h2
  exact ((hjd s (hlt s hs) h2.1).1 h2.2).1
 have hnd:(upTo (fun i=>down i || bad i) n).Nodup:=by unfold upTo;exact List.nodup_range.filter _
 have hmap:(upTo (fun i=>down i || bad i) n).map (fun s=>(⟨(((List.range n).map P).getD s []).toArray⟩:ByteArray))=(upTo (fun i=>down i || bad i) n).map (fun s=>⟨(P s).toArray⟩):=List.map_congr_left fun s hs=>by simp [hlt s hs]
 have HJO:=hid (fun (w':World) (aP:Option Addr) (c:Nat) (hc:(upTo (fun i=>down i || bad i) n).length≤c) (hrd:PRd w' aP (upTo (fun i=>down i || bad i) n) ((upTo (fun i=>down i || bad i) n).map fun s=>(⟨(((List.range n).map P).getD s []).toArray⟩:ByteArray))) =>
  cutJoin_ok mode t l n size (upTo (fun i=>down i || bad i) n).length c N aP (upTo (fun i=>down i || bad i) n) _ w' ⟨hp,hz,rfl,hrd,by omega,hc,hlt,hnd,fun i hi=>by rw [hmap];simp [hi,ByteArray.size];exact hP _ (List.getElem_mem hi)⟩ (by simp) hN hen)
 have hJ':Cof.join mode t l size ((upTo (fun i=>down i || bad i) n).take N) ((((upTo (fun i=>down i || bad i) n).map fun s=>(⟨(((List.range n).map P).getD s []).toArray⟩:ByteArray)).take N).map fun p=>p.data.toList)=J:=by
  rw [hmap,←List.map_take,List.map_map]
  exact hJ
 rw [hJ'] at HJO
 have HRR:=hid hR
 clear h hp hP hjd hT hst0 hok0 hvt hR hmap hJ hJ' hlt hnd
 go_enter Tryz.func46,Tryz.ntmps46
 go_wp2_with fail
 refine HOBJ.out.mono ?_
 rintro e w1 ⟨rfl,hb1⟩
 have hba:=hb1.alloc hb1.size (.cells #[.string nm,.int .i64 mode,.int .i64 t,.int .i64 l,.int .i64 size,.int .i64 epoch] 65)
 obtain ⟨w2,hw2⟩:∃w2,w2=w1.alloc (.cells #[.string nm,.int .i64 mode,.int .i64 t,.int .i64 l,.int .i64 size,.int .i64 epoch] 65):=⟨_,rfl⟩
 have HOB:=hid (show w2.heap[w1.heap.size]?=some (.cells #[.string nm,.int .i64 mode,.int .i64 t,.int .i64 l,.int .i64 size,.int .i64 epoch] 65) by rw [hw2];exact alloc_at _ _)
 have hl1:w1.heap.size<w2.heap.size:=cells_lt HOB.out
 rw [←hw2] at hba
 have HR2:=hid (HRR.out.keeps hba (Nat.le_refl _))
 have c1:=HR2.out.va.c1
 have lV:=HR2.out.va.lt
 have o0:w2.cell? ⟨w1.heap.size,0,none⟩=some (.string nm):=by rw [cells_at HOB.out];rfl
 have o1:w2.cell? ⟨w1.heap.size,1,none⟩=some (.int .i64 mode):=by rw [cells_at HOB.out];rfl
 have o2:w2.cell? ⟨w1.heap.size,2,none⟩=some (.int .i64 t):=by rw [cells_at HOB.out];rfl
 have o3:w2.cell? ⟨w1.heap.size,3,none⟩=some (.int .i64 l):=by rw [cells_at HOB.out];rfl
 have o4:w2.cell? ⟨w1.heap.size,4,none⟩=some (.int .i64 size):=by rw [cells_at HOB.out];rfl
 have o5:w2.cell? ⟨w1.heap.size,5,none⟩=some (.int .i64 epoch):=by rw [cells_at HOB.out];rfl
 have HS:=hid (show ∀w',Below w2.heap.size w2 w'→w'.cell? ⟨V,1,none⟩=some (.slice (some ⟨B,0,none⟩) n bc)∧w'.cell? ⟨w1.heap.size,0,none⟩=some (.string nm)∧w'.cell? ⟨w1.heap.size,1,none⟩=some (.int .i64 mode)∧w'.cell? ⟨w1.heap.size,2,none⟩=some (.int .i64 t)∧w'.cell? ⟨w1.heap.size,3,none⟩=some (.int .i64 l)∧w'.cell? ⟨w1.heap.size,4,none⟩=some (.int .i64 size)∧w'.cell? ⟨w1.heap.size,5,none⟩=some (.int .i64 epoch) from fun w' hb=>⟨(hb.cell lV).trans c1,(hb.cell hl1).trans o0,(hb.cell hl1).trans o1,(hb.cell hl1).trans o2,(hb.cell hl1).trans o3,(hb.cell hl1).trans o4,(hb.cell hl1).trans o5⟩)
 have HW2:=hid hw2
 go_wp2_with fail
 rw [←HW2.out]
 clear hw2 HW2
 generalize (upTo (fun i=>down i || bad i) n).length=m at *
 go_region_held3 (fun w'=>w'.cell? ⟨V,1,none⟩=some (.slice (some ⟨B,0,none⟩) n bc)∧w'.cell? ⟨w1.heap.size,0,none⟩=some (.string nm)∧w'.cell? ⟨w1.heap.size,1,none⟩=some (.int .i64 mode)∧w'.cell? ⟨w1.heap.size,2,none⟩=some (.int .i64 t)∧w'.cell? ⟨w1.heap.size,3,none⟩=some (.int .i64 l)∧w'.cell? ⟨w1.heap.size,4,none⟩=some (.int .i64 size)∧w'.cell? ⟨w1.heap.size,5,none⟩=some (.int .i64 epoch)) (first | exact HS.out _ (Below.refl _ _)|exact HS.out _ (Below.refl _ _).drew | exact D4.out | exact D3.out | go_keep)
  (first
   | (go_at_call 72;refine (HRE.out w2.drew hba.drew).mono ?_;rintro e w3 ⟨pv,rfl,hrow,hb3⟩;(have hb23:Below w2.heap.size w2 w3:=(Below.refl w2.heap.size w2).drew.trans hb3);(have D3:=hid (HS.out w3 hb23));(obtain ⟨pa,pc,rfl,hpc,hprd⟩:=prd_of_pcs hrow);(have HPRD:=hid hprd);(have HPC:=hid hpc);clear hrow hprd hpc)
   | (go_at_call 71;refine (HJO.out w3 pa pc HPC.out HPRD.out).mono ?_;rintro e w4 ⟨av,cv,rfl,hrd4,hb4⟩;(have hb24:Below w2.heap.size w2 w4:=hb23.trans (hb4.mono hb23.size));(have D4:=hid (HS.out w4 hb24));(have HRD4:=hid hrd4);clear hrd4))
 have hb04:=hba.trans (hb24.mono hba.size)
 go_wp2_with (go_at_call 53;refine (at_nil _ _).mono ?_;rintro e w7 ⟨rfl,rfl⟩)
 go_ret2
 exact ⟨av,cv,rfl,HRD4.out,hb04⟩
set_option maxRecDepth 100000 in
set_option maxHeartbeats 2000000 in
theorem vget_listFew (base V key n B bc:Nat) (sp:Nat→Nat) (down bad:Nat→Bool) (mode t l size epoch:Nat) (nm:ByteArray) (X P:Nat→List UInt8) (vs:Nat→Value) (rss:Nat→List RecV) (w:World) (h:HeldL w base V key n B bc sp down mode t l size epoch nm (Cof.ngroups mode t l size) X vs rss)
  (hp:IsPlan mode t l n) (he:epoch≤100) (hz:size≤60) (hn1:1≤nm.size) (hnm:nm.size≤12) (hk:key<18446744073709551616) (hl:Cof.ngroups mode t l size≤60) (hjd:Judged key mode t l n epoch size nm (Cof.ngroups mode t l size) down bad X P) (hT:Tab w)
  (hfew:(upTo (fun i=>down i || bad i) n).length<Cof.gsize mode t l+Cof.tsize mode t) :
  Calls Tryz.prog 46 #[.pointer (some ⟨V,0,none⟩),.string nm] w fun e w' =>
   ∃ev,e=.returned (.tuple #[.slice none 0 0,ev])∧Chain w' 10 3 ev∧Below w.heap.size w w':=by
 have hn1':=hp.n1
 have hn8:=hp.n8
 obtain ⟨done,cra,ahead,hvt⟩:=h.vt
 have hR:=hvt.rdy hn1' hn8
 obtain ⟨a0,c0',_,hst0⟩:=(h.st 0 (by omega)).st
 have hok0:=h.e 0 (by omega)
 have HOBJ:=hid (object_yes V key n B bc sp (down 0) a0 c0' (rss 0) (recOf (rss 0) nm) nm w hR hst0 (h.has 0 (by omega)) rfl)
 rw [hok0.1,hok0.2.1,hok0.2.2.1,hok0.2.2.2.1,hok0.2.2.2.2.1,hok0.2.2.2.2.2] at HOBJ
 have HRE:=hid (fun w' hb=>reached_list base V key n B bc sp down bad mode t l size epoch nm X P vs rss w' (h.below hb) hp he hz hn1 hnm hk hl hjd (hT.keeps hb (Nat.le_refl _)))
 have hul:=upTo_le (fun i=>down i || bad i) n
 have hlt:∀s∈upTo (fun i=>down i || bad i) n,s<n:=fun s hs=>by unfold upTo at hs;exact List.mem_range.1 (List.mem_filter.1 hs).1
 have hP:∀s∈upTo (fun i=>down i || bad i) n,(P s).length=Cof.ngroups mode t l size:=fun s hs=>by
  have h2:=(List.mem_filter.1 hs).2
  simp at h2
  exact ((hjd s (hlt s hs) h2.1).1 h2.2).1
 have hnd:(upTo (fun i=>down i || bad i) n).Nodup:=by unfold upTo;exact List.nodup_range.filter _
 have hmap:(upTo (fun i=>down i || bad i) n).map (fun s=>(⟨(((List.range n).map P).getD s []).toArray⟩:ByteArray))=(upTo (fun i=>down i || bad i) n).map (fun s=>⟨(P s).toArray⟩):=List.map_congr_left fun s hs=>by simp [hlt s hs]
 have HJO:=hid (fun (w':World) (aP:Option Addr) (c:Nat) (hc:(upTo (fun i=>down i || bad i) n).length≤c) (hrd:PRd w' aP (upTo (fun i=>down i || bad i) n) ((upTo (fun i=>down i || bad i) n).map fun s=>(⟨(((List.range n).map P).getD s []).toArray⟩:ByteArray))) =>
  cutJoin_few mode t l n size (upTo (fun i=>down i || bad i) n).length c aP (upTo (fun i=>down i || bad i) n) _ w' ⟨hp,hz,rfl,hrd,by omega,hc,hlt,hnd,fun i hi=>by rw [hmap];simp [hi,ByteArray.size];exact hP _ (List.getElem_mem hi)⟩ hfew)
 have HRR:=hid hR
 clear h hp hP hjd hT hst0 hok0 hvt hR hmap hlt hnd hfew
 go_enter Tryz.func46,Tryz.ntmps46
 go_wp2_with fail
 refine HOBJ.out.mono ?_
 rintro e w1 ⟨rfl,hb1⟩
 have hba:=hb1.alloc hb1.size (.cells #[.string nm,.int .i64 mode,.int .i64 t,.int .i64 l,.int .i64 size,.int .i64 epoch] 65)
 obtain ⟨w2,hw2⟩:∃w2,w2=w1.alloc (.cells #[.string nm,.int .i64 mode,.int .i64 t,.int .i64 l,.int .i64 size,.int .i64 epoch] 65):=⟨_,rfl⟩
 have HOB:=hid (show w2.heap[w1.heap.size]?=some (.cells #[.string nm,.int .i64 mode,.int .i64 t,.int .i64 l,.int .i64 size,.int .i64 epoch] 65) by rw [hw2];exact alloc_at _ _)
 have hl1:w1.heap.size<w2.heap.size:=cells_lt HOB.out
 rw [←hw2] at hba
 have HR2:=hid (HRR.out.keeps hba (Nat.le_refl _))
 have c1:=HR2.out.va.c1
 have lV:=HR2.out.va.lt
 have o0:w2.cell? ⟨w1.heap.size,0,none⟩=some (.string nm):=by rw [cells_at HOB.out];rfl
 have o1:w2.cell? ⟨w1.heap.size,1,none⟩=some (.int .i64 mode):=by rw [cells_at HOB.out];rfl
 have o2:w2.cell? ⟨w1.heap.size,2,none⟩=some (.int .i64 t):=by rw [cells_at HOB.out];rfl
 have o3:w2.cell? ⟨w1.heap.size,3,none⟩=some (.int .i64 l):=by rw [cells_at HOB.out];rfl
 have o4:w2.cell? ⟨w1.heap.size,4,none⟩=some (.int .i64 size):=by rw [cells_at HOB.out];rfl
 have o5:w2.cell? ⟨w1.heap.size,5,none⟩=some (.int .i64 epoch):=by rw [cells_at HOB.out];rfl
 have HS:=hid (show ∀w',Below w2.heap.size w2 w'→w'.cell? ⟨V,1,none⟩=some (.slice (some ⟨B,0,none⟩) n bc)∧w'.cell? ⟨w1.heap.size,0,none⟩=some (.string nm)∧w'.cell? ⟨w1.heap.size,1,none⟩=some (.int .i64 mode)∧w'.cell? ⟨w1.heap.size,2,none⟩=some (.int .i64 t)∧w'.cell? ⟨w1.heap.size,3,none⟩=some (.int .i64 l)∧w'.cell? ⟨w1.heap.size,4,none⟩=some (.int .i64 size)∧w'.cell? ⟨w1.heap.size,5,none⟩=some (.int .i64 epoch) from fun w' hb=>⟨(hb.cell lV).trans c1,(hb.cell hl1).trans o0,(hb.cell hl1).trans o1,(hb.cell hl1).trans o2,(hb.cell hl1).trans o3,(hb.cell hl1).trans o4,(hb.cell hl1).trans o5⟩)
 have HW2:=hid hw2
 go_wp2_with fail
 rw [←HW2.out]
 clear hw2 HW2
 generalize (upTo (fun i=>down i || bad i) n).length=m at *
 go_region_held3 (fun w'=>w'.cell? ⟨V,1,none⟩=some (.slice (some ⟨B,0,none⟩) n bc)∧w'.cell? ⟨w1.heap.size,0,none⟩=some (.string nm)∧w'.cell? ⟨w1.heap.size,1,none⟩=some (.int .i64 mode)∧w'.cell? ⟨w1.heap.size,2,none⟩=some (.int .i64 t)∧w'.cell? ⟨w1.heap.size,3,none⟩=some (.int .i64 l)∧w'.cell? ⟨w1.heap.size,4,none⟩=some (.int .i64 size)∧w'.cell? ⟨w1.heap.size,5,none⟩=some (.int .i64 epoch)) (first | exact HS.out _ (Below.refl _ _)|exact HS.out _ (Below.refl _ _).drew | exact D4.out | exact D3.out | go_keep)
  (first
   | (go_at_call 72;refine (HRE.out w2.drew hba.drew).mono ?_;rintro e w3 ⟨pv,rfl,hrow,hb3⟩;(have hb23:Below w2.heap.size w2 w3:=(Below.refl w2.heap.size w2).drew.trans hb3);(have D3:=hid (HS.out w3 hb23));(obtain ⟨pa,pc,rfl,hpc,hprd⟩:=prd_of_pcs hrow);(have HPRD:=hid hprd);(have HPC:=hid hpc);clear hrow hprd hpc)
   | (go_at_call 71;refine (HJO.out w3 pa pc HPC.out HPRD.out).mono ?_;rintro e w4 ⟨ev,rfl,hch4,hb4⟩;(have hb24:Below w2.heap.size w2 w4:=hb23.trans (hb4.mono hb23.size));(have D4:=hid (HS.out w4 hb24));(have HCH4:=hid hch4);clear hch4))
 have hb04:=hba.trans (hb24.mono hba.size)
 go_wp2_with (go_at_call 53;refine (at_chain _ _ 10 2 _ HCH4.out).mono ?_;rintro e w7 ⟨e7,rfl,hc7,hb7⟩;(have HC7:=hid hc7);clear hc7)
 go_ret2
 exact ⟨e7,rfl,HC7.out,hb04.trans (hb7.mono hb04.size)⟩
structure Seat where
 base:Nat
 C:Nat
 V:Nat
 key:Nat
 n:Nat
 B:Nat
 bc:Nat
 sp:Nat→Nat
structure Sta where
 dn:Nat→Bool
 vs:Nat→Value
 rss:Nat→List RecV
 p:Pen
 X:Nat→List UInt8
def blkNo:Option Addr→Nat
 | some a=>a.block
 | none=>0
def RecV.x (X:Nat→List UInt8) (r:RecV):List UInt8:=X (blkNo r.sa)
def RecV.y (X:Nat→List UInt8) (r:RecV):List UInt8:=X (blkNo r.na)
def RecV.blks (r:RecV):List Nat:=(r.sa.toList++r.na.toList).map Addr.block
theorem mem_blks (r:RecV) (b:Nat):b∈r.blks↔(∃a,r.sa=some a∧a.block=b)∨(∃a,r.na=some a∧a.block=b):=by
 unfold RecV.blks
 rw [List.mem_map]
 constructor
 ·rintro ⟨a,ha,e⟩
  rcases List.mem_append.1 ha with h | h
  ·exact .inl ⟨a,by simpa using h,e⟩
  ·exact .inr ⟨a,by simpa using h,e⟩
 ·rintro (⟨a,h,e⟩|⟨a,h,e⟩)
  ·exact ⟨a,List.mem_append_left _ (by simp [h]),e⟩
  ·exact ⟨a,List.mem_append_right _ (by simp [h]),e⟩
structure RecGood (w:World) (base n:Nat) (X:Nat→List UInt8) (r:RecV):Prop where
 plan:IsPlan r.mode r.t r.l n
 z:r.size≤60
 e:r.epoch≤100
 m1:r.mode=1→r.epoch=0
 n1:1≤r.name.size
 n12:r.name.size≤12
 sn:r.sn=10+r.name.size+Cof.ngroups r.mode r.t r.l r.size+8
 own:Bytes w base r.sa r.sn r.sc (r.x X)
 nx:(r.na=none∧r.nn=0∧r.nc=0)∨(r.na≠none∧r.mode=0∧r.epoch<100∧r.nn=r.sn∧Bytes w base r.na r.nn r.nc (r.y X)∧blkNo r.na≠blkNo r.sa)
theorem Bytes.home {w:World} {base n c:Nat} {a:Addr} {xs:List UInt8} (h:Bytes w base (some a) n c xs):base≤a.block∧∃cs fz,w.heap[a.block]?=some (.cells cs 5 fz):=by
 obtain ⟨g,C,fz,h1,h2,h3⟩:=h.block
 cases h1
 exact ⟨h2,C,fz,h3⟩
theorem RecGood.at {w:World} {base n:Nat} {X:Nat→List UInt8} {r:RecV} (h:RecGood w base n X r) {b:Nat} (hb:b∈r.blks):base≤b∧∃cs fz,w.heap[b]?=some (.cells cs 5 fz):=by
 rcases (mem_blks r b).1 hb with ⟨a,ha,rfl⟩|⟨a,ha,rfl⟩
 ·have:=h.own
  rw [ha] at this
  exact this.home
 ·rcases h.nx with ⟨h1,_⟩|⟨_,_,_,_,h5,_⟩
  ·rw [h1] at ha;cases ha
  ·rw [ha] at h5
   exact h5.home
theorem RecGood.lt {w:World} {base n:Nat} {X:Nat→List UInt8} {r:RecV} (h:RecGood w base n X r) {b:Nat} (hb:b∈r.blks):b<w.heap.size:=by
 obtain ⟨_,cs,fz,h⟩:=h.at hb
 exact cells_lt h
theorem RecGood.sa {w:World} {base n:Nat} {X:Nat→List UInt8} {r:RecV} (h:RecGood w base n X r):∃g,r.sa=some ⟨g,0,none⟩∧g∈r.blks∧base≤g:=by
 obtain ⟨g,C,fz,e,h3,_⟩:=h.own.block
 exact ⟨g,e,(mem_blks r g).2 (.inl ⟨_,e,rfl⟩),h3⟩
theorem RecGood.bytes {w:World} {base n:Nat} {X:Nat→List UInt8} {r:RecV} (h:RecGood w base n X r):(r.x X).length=r.sn:=h.own.len
theorem RecGood.keeps {own:Nat→Prop} {w w':World} {base n:Nat} {X X':Nat→List UInt8} {r:RecV} (h:RecGood w base n X r) (hs:Spared own w w') (ho:∀b∈r.blks,¬own b) (hX:∀b∈r.blks,X' b=X b):RecGood w' base n X' r:=by
 obtain ⟨g,hsa,hg,_⟩:=h.sa
 refine ⟨h.plan,h.z,h.e,h.m1,h.n1,h.n12,h.sn,?_,?_⟩
 ·have h1:=h.own.keeps hs (fun b hb=>ho b (by rw [hsa] at hb;cases hb;exact hg))
  have:r.x X'=r.x X:=by unfold RecV.x;rw [hsa];exact hX g hg
  rw [this]
  exact h1
 ·rcases h.nx with hn | ⟨h1,h2,h3,h4,h5,h6⟩
  ·exact .inl hn
  ·obtain ⟨a,ha⟩:=Option.ne_none_iff_exists'.1 h1
   have hm:a.block∈r.blks:=(mem_blks r _).2 (.inr ⟨a,ha,rfl⟩)
   refine .inr ⟨h1,h2,h3,h4,?_,h6⟩
   have h1:=h5.keeps hs (fun b hb=>ho b (by rw [ha] at hb;cases hb;exact hm))
   have:r.y X'=r.y X:=by unfold RecV.y;rw [ha];exact hX _ hm
   rw [this]
   exact h1
theorem row_nf {w:World} {base n size:Nat} {e e':TypeId} {L:List Value} {v:Value} {b:Nat} {cs:Array Value} {fz:Nat × Nat} (h:w.ownsRow base e size v n L) (hb:w.heap[b]?=some (.cells cs e' fz)) (he:e≠e'):v.ownBlock≠some b:=by
 intro hv
 rcases h with ⟨_,⟨rfl,_⟩|⟨g,cap,cur,rfl,_,h4,_⟩⟩
 ·cases hv
 ·cases hv
  rw [h4] at hb
  cases hb
  exact he rfl
def Asunder (n:Nat) (rss:Nat→List RecV):Prop:=∀i j,i<n→j<n→∀r∈rss i,∀q∈rss j,∀b,b∈r.blks→b∈q.blks→i=j∧r=q
structure Bank (w:World) (L:Seat) (s:Sta):Prop where
 cf:Cf w L.C L.V
 vp:Vp w L.V L.key L.n L.B L.bc L.sp s.p
 n1:1≤L.n
 n8:L.n≤8
 hk:L.key<18446744073709551616
 st:∀i,i<L.n→Sto w (L.sp i) (s.dn i) (s.vs i) (s.rss i)
 si:∀i j,i<L.n→j<L.n→i≠j→L.sp i≠L.sp j
 vi:∀i j,i<L.n→j<L.n→i≠j→∀b,(s.vs i).ownBlock=some b→(s.vs j).ownBlock≠some b
 G:Glob w L.base
 bC:L.base≤L.C
 bV:L.base≤L.V
 bB:L.base≤L.B
 bsp:∀i,i<L.n→L.base≤L.sp i
 bv:∀i,i<L.n→∀b,(s.vs i).ownBlock=some b→L.base≤b
 ok:∀i,i<L.n→∀r∈s.rss i,RecGood w L.base L.n s.X r
 ap:Asunder L.n s.rss
section
variable {w w':World} {L:Seat} {s:Sta}
theorem Bank.so (h:Bank w L s) (i:Nat) (hi:i<L.n):Sorted (s.rss i):=(h.st i hi).so
theorem Bank.small (h:Bank w L s):Small L.n s.rss:=fun i hi r hr=>⟨by have:=(h.ok i hi r hr).e;omega,by have:=(h.ok i hi r hr).n12;omega⟩
theorem Bank.BV (h:Bank w L s):L.B≠L.V:=by
 obtain ⟨Lb,hL,_⟩:=h.vp.hb
 intro e
 rw [e,h.vp.hp] at hL
 cases hL
theorem Bank.not_own (h:Bank w L s) {b:Nat} {cs:Array Value} {fz:Nat × Nat} (hb:w.heap[b]?=some (.cells cs 5 fz)):b≠L.C∧b≠L.V∧b≠L.B∧¬moveOwn L.n L.sp s.vs b:=by
 obtain ⟨Lb,hL,_⟩:=h.vp.hb
 refine ⟨fun e=>?_,fun e=>?_,fun e=>?_,?_⟩
 ·rw [e,h.cf] at hb;cases hb
 ·rw [e,h.vp.hp] at hb;cases hb
 ·rw [e,hL] at hb;cases hb
 ·rintro ⟨i,hi,e | e⟩
  ·rw [e,(h.st i hi).hp] at hb;cases hb
  ·exact row_nf (h.st i hi).row hb (by decide) e
theorem Bank.spared {own:Nat→Prop} (h:Bank w L s) (hs:Spared own w w') (ho:∀b,own b→w.heap.size≤b):Bank w' L s:=by
 have hn:∀{b o},w.heap[b]?=some o→¬own b:=fun hb e=>by have:=cells_lt hb;have:=ho _ e;omega
 obtain ⟨Lb,hL,_⟩:=h.vp.hb
 exact ⟨h.cf.keeps hs (hn h.cf),h.vp.keeps hs (hn h.vp.hp) (hn hL),h.n1,h.n8,h.hk,fun i hi=>(h.st i hi).keeps hs (hn (h.st i hi).hp) (fun b hb e=>by have:=((h.st i hi).row.lt b hb).2;have:=ho _ e;omega),h.si,h.vi,h.G.spared hs (fun b e=>Nat.le_trans h.G.bs (ho b e)),h.bC,h.bV,h.bB,h.bsp,h.bv,fun i hi r hr=>(h.ok i hi r hr).keeps hs (fun b hb e=>by have:=(h.ok i hi r hr).lt hb;have:=ho _ e;omega) (fun _ _=>rfl),h.ap⟩
theorem Bank.below (h:Bank w L s) (hb:Below w.heap.size w w'):Bank w' L s:=h.spared (Spared.ofBelow (own:=fun _=>False) hb (Nat.le_refl _)) (fun _ h=>h.elim)
theorem Bank.next (h:Bank w L s) (s':Sta) (hs:Spared (fun b=>b=L.V∨moveOwn L.n L.sp s.vs b) w w') (hvp:Vp w' L.V L.key L.n L.B L.bc L.sp s'.p) (hst:∀i,i<L.n→Sto w' (L.sp i) (s'.dn i) (s'.vs i) (s'.rss i))
  (hblk:∀i,i<L.n→(s'.vs i).ownBlock=(s.vs i).ownBlock∨∃b,(s'.vs i).ownBlock=some b∧w.heap.size≤b) (hdis:∀i j,i<L.n→j<L.n→i≠j→∀b,(s'.vs i).ownBlock=some b→(s'.vs j).ownBlock≠some b)
  (hok:∀i,i<L.n→∀r∈s'.rss i,RecGood w' L.base L.n s'.X r) (hap:Asunder L.n s'.rss):Bank w' L s':=by
 refine ⟨h.cf.keeps hs ?_,hvp,h.n1,h.n8,h.hk,hst,h.si,hdis,h.G.spared hs ?_,h.bC,h.bV,h.bB,h.bsp,fun i hi b hb=>?_,hok,hap⟩
 ·rintro (e | ⟨i,hi,e | e⟩)
  ·have:=h.cf;unfold Cf at this;rw [e,h.vp.hp] at this;cases this
  ·have:=h.cf;unfold Cf at this;rw [e,(h.st i hi).hp] at this;cases this
  ·exact row_ne (h.st i hi).row h.cf (by decide) e
 ·rintro b (e | ⟨i,hi,e | e⟩)
  ·rw [e];exact h.bV
  ·rw [e];exact h.bsp i hi
  ·exact h.bv i hi b e
 ·rcases hblk i hi with e | ⟨b',e,hge⟩
  ·exact h.bv i hi b (by rw [←e];exact hb)
  ·rw [hb] at e
   cases e
   exact Nat.le_trans h.G.bs hge
theorem Bank.stays (h:Bank w L s) (hs:Spared (fun b=>b=L.V∨moveOwn L.n L.sp s.vs b) w w') (X':Nat→List UInt8) (hX:∀b,b<w.heap.size→X' b=s.X b) (i:Nat) (hi:i<L.n) (r:RecV) (hr:r∈s.rss i):RecGood w' L.base L.n X' r:=by
 have hg:=h.ok i hi r hr
 refine hg.keeps hs (fun b hb e=>?_) (fun b hb=>hX b (hg.lt hb))
 obtain ⟨_,cs,fz,hc⟩:=hg.at hb
 obtain ⟨_,h2,_,h4⟩:=h.not_own hc
 exact e.elim h2 h4
theorem Bank.ask (h:Bank w L s) (hc:s.p.crashed=false):Ask w L.C L.V L.key L.n L.B L.bc L.sp s.dn s.vs s.rss :=
 ⟨h.cf,Vt.rdy (h:=by have:=h.vp;unfold Vp at this;rw [hc] at this;exact this) h.n1 h.n8,h.st,h.G.tb,h.G.et⟩
end
def Mine (L:Seat) (s:Sta) (b:Nat):Prop:=b=L.V∨moveOwn L.n L.sp s.vs b∨∃i,i<L.n∧∃r∈s.rss i,b∈r.blks
theorem Bank.mine_lt {w:World} {L:Seat} {s:Sta} (h:Bank w L s) {b:Nat} (hb:Mine L s b):b<w.heap.size:=by
 rcases hb with e | ⟨i,hi,e | e⟩|⟨i,hi,r,hr,hb⟩
 ·rw [e];exact cells_lt h.vp.hp
 ·rw [e];exact cells_lt (h.st i hi).hp
 ·exact ((h.st i hi).row.lt b e).2
 ·exact (h.ok i hi r hr).lt hb
theorem Mine.of {L:Seat} {s:Sta} {w w':World} (h:Spared (fun b=>b=L.V∨moveOwn L.n L.sp s.vs b) w w'):Spared (Mine L s) w w':=h.mono fun _ hb=>hb.imp id .inl
theorem Mine.below {L:Seat} {s:Sta} {w w':World} (h:Below w.heap.size w w'):Spared (Mine L s) w w':=Spared.ofBelow h (Nat.le_refl _)
def Calm (L:Seat) (s:Sta):Prop:=s.p.crashed=false∧Even L.n s.rss
def Torn (L:Seat) (s:Sta):Prop:=s.p.crashed=true∧∃g c,cutOf L.n s.rss=some (g,c)
def Both (k:Int) (d:Nat) (R0 R1:World→Prop) (e:Ending) (w':World):Prop:=(e=.returned .nilIface∧R0 w')∨(∃ev,e=.returned ev∧Chain w' k d ev∧ErrType w'∧R1 w')
def BothC (k:Int) (R0 R1:World→Prop) (e:Ending) (w':World):Prop:=(e=.returned (.int .i64 0)∧∃w1,R0 w1∧Below w1.heap.size w1 w')∨(e=.returned (.int .i64 k)∧∃w1,R1 w1∧Below w1.heap.size w1 w')
set_option maxRecDepth 100000 in
theorem cdelete_both (C V d:Nat) (k:Int) (nm:ByteArray) (w:World) (R0 R1:World→Prop) (h:Cf w C V) (hd:d≤10)
  (hv:Calls Tryz.prog 40 #[.pointer (some ⟨V,0,none⟩),.string nm] w fun e w'=>Both k d R0 R1 e w') :
  Calls Tryz.prog 18 #[.pointer (some ⟨C,0,none⟩),.string nm] w fun e w'=>BothC k R0 R1 e w':=by
 have c0:w.cell? ⟨C,0,none⟩=some (.pointer (some ⟨V,0,none⟩)):=by rw [cells_at h];rfl
 have HV:=hid hv
 clear h hv
 go_enter Tryz.func18,Tryz.ntmps18
 go_wp2_with fail
 refine HV.out.mono ?_
 rintro e w1 (⟨rfl,hr⟩|⟨ev,rfl,hch,hE,hr⟩)
 ·have HR:=hid hr
  clear hr
  go_wp2_with (go_at_call 36;refine (number_nil _).mono ?_;rintro e w2 ⟨rfl,rfl⟩)
  go_ret
  exact .inl ⟨rfl,_,HR.out,Below.refl _ _⟩
 ·have HNU:=hid (number_chain k w1 d ev hch hd hE)
  have HR:=hid hr
  obtain ⟨te,ve,rfl⟩:=hch.shape
  clear hch hr
  go_wp2_with (go_at_call 36;refine HNU.out.mono ?_;rintro e w2 ⟨rfl,hb2⟩)
  go_ret
  exact .inr ⟨rfl,w1,HR.out,hb2⟩
set_option maxRecDepth 100000 in
theorem crefresh_both (C V d:Nat) (k:Int) (nm tape:ByteArray) (w:World) (R0 R1:World→Prop) (h:Cf w C V) (hd:d≤10)
  (hv:Calls Tryz.prog 39 #[.pointer (some ⟨V,0,none⟩),.string nm,.string tape] w fun e w'=>Both k d R0 R1 e w') :
  Calls Tryz.prog 17 #[.pointer (some ⟨C,0,none⟩),.string nm,.string tape] w fun e w'=>BothC k R0 R1 e w':=by
 have c0:w.cell? ⟨C,0,none⟩=some (.pointer (some ⟨V,0,none⟩)):=by rw [cells_at h];rfl
 have HV:=hid hv
 clear h hv
 go_enter Tryz.func17,Tryz.ntmps17
 go_wp2_with fail
 refine HV.out.mono ?_
 rintro e w1 (⟨rfl,hr⟩|⟨ev,rfl,hch,hE,hr⟩)
 ·have HR:=hid hr
  clear hr
  go_wp2_with (go_at_call 36;refine (number_nil _).mono ?_;rintro e w2 ⟨rfl,rfl⟩)
  go_ret
  exact .inl ⟨rfl,_,HR.out,Below.refl _ _⟩
 ·have HNU:=hid (number_chain k w1 d ev hch hd hE)
  have HR:=hid hr
  obtain ⟨te,ve,rfl⟩:=hch.shape
  clear hch hr
  go_wp2_with (go_at_call 36;refine HNU.out.mono ?_;rintro e w2 ⟨rfl,hb2⟩)
  go_ret
  exact .inr ⟨rfl,w1,HR.out,hb2⟩
theorem number_both {k:Int} {d:Nat} {R0 R1:World→Prop} {e:Ending} {w:World} (hd:d≤10) (h:Both k d R0 R1 e w):∃ev x,e=.returned ev∧(ev=.nilIface∨∃te ve,ev=.iface te ve)∧(Calls Tryz.prog 36 #[ev] w fun e' w'=>e'=.returned (.int .i64 x)∧Below w.heap.size w w')∧((x=0∧R0 w)∨(x=k∧R1 w)):=by
 rcases h with ⟨rfl,hr⟩|⟨ev,rfl,hch,hE,hr⟩
 ·refine ⟨_,0,rfl,.inl rfl,(number_nil w).mono ?_,.inl ⟨rfl,hr⟩⟩
  rintro e' w' ⟨rfl,rfl⟩
  exact ⟨rfl,Below.refl _ _⟩
 ·exact ⟨ev,k,rfl,.inr hch.shape,number_chain k w d ev hch hd hE,.inr ⟨rfl,hr⟩⟩
set_option maxRecDepth 100000 in
set_option maxHeartbeats 1000000 in
theorem cput_both (C V d:Nat) (k mode t l:Int) (nm vl tape:ByteArray) (w:World) (own:Nat→Prop) (R0 R1:World→Prop) (h:Cf w C V) (hd:d≤10) (hoC:¬own C) (hown:∀b,own b→b<w.heap.size)
  (hv:∀w1,Below w.heap.size w w1→Calls Tryz.prog 38 #[.pointer (some ⟨V,0,none⟩),.string nm,.string vl,.agg #[.int .i64 mode,.int .i64 t,.int .i64 l],.string tape] w1 fun e w'=>Both k d R0 R1 e w'∧Spared own w1 w') :
  Calls Tryz.prog 16 #[.pointer (some ⟨C,0,none⟩),.string nm,.string vl,.agg #[.int .i64 mode,.int .i64 t,.int .i64 l],.string tape] w fun e w'=>BothC k R0 R1 e w':=by
 have hba:=(Below.refl w.heap.size w).alloc (Nat.le_refl _) (.cells #[.int .i64 mode,.int .i64 t,.int .i64 l] 29)
 have hl:=cells_lt h
 obtain ⟨w1,hw1⟩:∃w1,w1=w.alloc (.cells #[.int .i64 mode,.int .i64 t,.int .i64 l] 29):=⟨_,rfl⟩
 have HPB:=hid (show w1.heap[w.heap.size]?=some (.cells #[.int .i64 mode,.int .i64 t,.int .i64 l] 29) by rw [hw1];exact alloc_at _ _)
 rw [←hw1] at hba
 have h1:Cf w1 C V:=h.keeps (Spared.ofBelow (own:=fun _=>False) hba (Nat.le_refl _)) (fun h=>h)
 have c0:w1.cell? ⟨C,0,none⟩=some (.pointer (some ⟨V,0,none⟩)):=by rw [cells_at h1];rfl
 have p0:w1.cell? ⟨w.heap.size,0,none⟩=some (.int .i64 mode):=by rw [cells_at HPB.out];rfl
 have p1:w1.cell? ⟨w.heap.size,1,none⟩=some (.int .i64 t):=by rw [cells_at HPB.out];rfl
 have p2:w1.cell? ⟨w.heap.size,2,none⟩=some (.int .i64 l):=by rw [cells_at HPB.out];rfl
 have HV:=hid (hv w1.drew hba.drew)
 have HCF:=hid h1
 have HOC:=hid hoC
 have HOW:=hid (show ¬own w.heap.size from fun h=>by have:=hown _ h;omega)
 have HS:=hid (show ∀w',Spared own w1 w'→w'.cell? ⟨C,0,none⟩=some (.pointer (some ⟨V,0,none⟩))∧w'.cell? ⟨w.heap.size,0,none⟩=some (.int .i64 mode)∧w'.cell? ⟨w.heap.size,1,none⟩=some (.int .i64 t)∧w'.cell? ⟨w.heap.size,2,none⟩=some (.int .i64 l) from fun w' hs=>⟨(World.cell?_of_block (hs.block C (cells_lt HCF.out) HOC.out)).trans c0,(World.cell?_of_block (hs.block _ (cells_lt HPB.out) HOW.out)).trans p0,(World.cell?_of_block (hs.block _ (cells_lt HPB.out) HOW.out)).trans p1,(World.cell?_of_block (hs.block _ (cells_lt HPB.out) HOW.out)).trans p2⟩)
 have HW1:=hid hw1
 clear h hv h1 hoC hown
 go_enter Tryz.func16,Tryz.ntmps16
 go_wp2_with fail
 rw [←HW1.out]
 clear hw1 HW1
 go_region_held3 (fun w'=>w'.cell? ⟨C,0,none⟩=some (.pointer (some ⟨V,0,none⟩))∧w'.cell? ⟨w.heap.size,0,none⟩=some (.int .i64 mode)∧w'.cell? ⟨w.heap.size,1,none⟩=some (.int .i64 t)∧w'.cell? ⟨w.heap.size,2,none⟩=some (.int .i64 l)) (first | exact ⟨c0,p0,p1,p2⟩|exact D3.out | exact D2.out | go_keep)
  (first
   | (go_at_call 38;refine HV.out.mono ?_;rintro e w2 ⟨hbo,hs⟩;(obtain ⟨ev,x,rfl,hsh,hnum,hr⟩:=number_both hd hbo);(have HR:=hid hr);(have HNU:=hid hnum);(have HSS:=hid (show Spared own w1 w2 from ((Spared.refl own w1).drew).trans hs));(have D2:=hid (HS.out w2 HSS.out));clear hr hs hnum hbo;clear hsh)
   | (go_at_call 36;refine HNU.out.mono ?_;rintro e w3 ⟨rfl,hb3⟩;(have D3:=hid (HS.out w3 (HSS.out.trans (Spared.ofBelow hb3 (Nat.le_refl _)))))))
 go_wp2
 go_ret
 rcases HR.out with ⟨rfl,hr⟩|⟨rfl,hr⟩
 ·exact .inl ⟨rfl,w2,hr,hb3⟩
 ·exact .inr ⟨rfl,w2,hr,hb3⟩
theorem Bank.putOwn {w:World} {L:Seat} {s:Sta} (h:Bank w L s):¬(L.C=L.V∨moveOwn L.n L.sp s.vs L.C)∧∀b,(b=L.V∨moveOwn L.n L.sp s.vs b)→b<w.heap.size:=by
 constructor
 ·rintro (e | ⟨i,hi,e | e⟩)
  ·have:=h.cf;unfold Cf at this;rw [e,h.vp.hp] at this;cases this
  ·have:=h.cf;unfold Cf at this;rw [e,(h.st i hi).hp] at this;cases this
  ·exact row_ne (h.st i hi).row h.cf (by decide) e
 ·rintro b (e | ⟨i,hi,e | e⟩)
  ·rw [e];exact cells_lt h.vp.hp
  ·rw [e];exact cells_lt (h.st i hi).hp
  ·exact ((h.st i hi).row.lt b e).2
end Go.Proofs.YtcegdgmbponapabGreatDoor
namespace Go.Proofs.YtcegdgmbponapabGreatDoor
open Go.RowKit
section
variable {n:Nat} {rss rss':Nat→List RecV} {nm:ByteArray}
theorem even_upd (hn:1≤n) (hev:Even n rss) (hso:∀i,i<n→Sorted (rss i)) (hso':∀i,i<n→Sorted (rss' i)) (hm:∀i,i<n→∀r:RecV,r.name≠nm→(r∈rss' i↔r∈rss i)) (hsm:Small n rss') (hnm:Known n rss' nm→codeOf n rss' nm=some 5):Even n rss':=by
 refine even_of hn hso' hsm fun x hk=>?_
 by_cases e:x=nm
 ·subst e;exact hnm hk
 ·have hm':∀i,i<n→∀r:RecV,r.name=x→(r∈rss' i↔r∈rss i):=fun i hi r hr=>hm i hi r (by rw [hr];exact e)
  rw [code_same hso' hso hm']
  exact hev.code hn hso x (known_same hm' hk)
theorem cut_upd (hn:1≤n) (hev:Even n rss) (hso:∀i,i<n→Sorted (rss i)) (hso':∀i,i<n→Sorted (rss' i)) (hm:∀i,i<n→∀r:RecV,r.name≠nm→(r∈rss' i↔r∈rss i)) {c:Nat} (hc:c≠5) (hk:Known n rss' nm) (hnm:codeOf n rss' nm=some c):cutOf n rss'=some (nm.data.toList,c):=by
 refine cut_make hc hk hnm fun x hk e=>?_
 have hm':∀i,i<n→∀r:RecV,r.name=x→(r∈rss' i↔r∈rss i):=fun i hi r hr=>hm i hi r (by rw [hr];exact e)
 rw [code_same hso' hso hm']
 exact hev.code hn hso x (known_same hm' hk)
theorem cut_of_even (hn:1≤n) (hev:Even n rss) (hso:∀i,i<n→Sorted (rss i)):cutOf n rss=some ([],5):=cut_leave (hev.code hn hso)
theorem cutOf_congr {n:Nat} {rss rss':Nat→List RecV} (h:∀i,i<n→rss i=rss' i):cutOf n rss=cutOf n rss':=by
 have e1:∀x,codeOf n rss x=codeOf n rss' x:=fun x=>by
  unfold codeOf
  have a:(List.range n).all (fun i=>hasName (rss i) x)=(List.range n).all (fun i=>hasName (rss' i) x):=by
   rw [Bool.eq_iff_iff,List.all_eq_true,List.all_eq_true]
   exact ⟨fun H i hi=>by rw [←h i (List.mem_range.1 hi)];exact H i hi,fun H i hi=>by rw [h i (List.mem_range.1 hi)];exact H i hi⟩
  have eA:((List.range n).map fun i=>(recOf (rss i) x).ob)=(List.range n).map fun i=>(recOf (rss' i) x).ob:=List.map_congr_left fun i hi=>by rw [h i (List.mem_range.1 hi)]
  have eZ:((List.range n).map fun i=>(recOf (rss i) x).late)=(List.range n).map fun i=>(recOf (rss' i) x).late:=List.map_congr_left fun i hi=>by rw [h i (List.mem_range.1 hi)]
  rw [a,eA,eZ]
 have e2:namesUpTo rss n=namesUpTo rss' n:=by
  unfold namesUpTo
  have e:(List.range n).map (fun i=>(rss i).map fun r=>r.name.data.toList)=(List.range n).map (fun i=>(rss' i).map fun r=>r.name.data.toList):=List.map_congr_left fun i hi=>by rw [h i (List.mem_range.1 hi)]
  rw [List.flatMap_def,List.flatMap_def,e]
 unfold cutOf
 rw [e2]
 congr 1
 funext x
 exact e1 _
theorem even_congr {n:Nat} (hn:1≤n) {rss rss':Nat→List RecV} (h:∀i,i<n→rss i=rss' i) (hev:Even n rss):Even n rss' :=
 ⟨fun i hi=>by rw [←h i hi,←h 0 (by omega)];exact hev.same i hi,fun i hi r hr=>hev.bare i hi r (by rw [h i hi];exact hr),fun i hi r hr=>hev.ep i hi r (by rw [h i hi];exact hr)⟩
theorem look_of {rs:List RecV} (hs:Sorted rs) {nm:ByteArray} {r:RecV} (hr:r∈rs) (hn:r.name=nm):hasName rs nm=true∧recOf rs nm=r:=⟨(hasName_iff hs nm).2 ⟨r,hr,hn⟩,recOf_eq hs hr hn⟩
def putL (rss:Nat→List RecV) (ys:List RecV) (k i:Nat):List RecV:=if i<k then insR (rss i) (ys[i]!) else rss i
theorem putL_sorted (hso:∀i,i<n→Sorted (rss i)) (hno:∀i,i<n→hasName (rss i) nm=false) {ys:List RecV} (hy:∀i,i<n→(ys[i]!).name=nm) (k i:Nat) (hi:i<n):Sorted (putL rss ys k i):=by
 unfold putL
 split
 ·exact insR_sorted (hso i hi) _ (by rw [hy i hi];exact hno i hi)
 ·exact hso i hi
theorem putL_mem (rss:Nat→List RecV) (ys:List RecV) (k i:Nat) (r:RecV):r∈putL rss ys k i↔(i<k∧r=ys[i]!)∨r∈rss i:=by
 unfold putL
 split
 ·rename_i h
  rw [insR_mem]
  simp [h]
 ·rename_i h
  simp [h]
theorem putL_other {ys:List RecV} (hy:∀i,i<n→(ys[i]!).name=nm) (k i:Nat) (hi:i<n) (r:RecV) (hr:r.name≠nm):r∈putL rss ys k i↔r∈rss i:=by
 rw [putL_mem]
 exact ⟨fun h=>h.elim (fun ⟨_,e⟩=>absurd (by rw [e,hy i hi]) hr) id,.inr⟩
theorem even_put (hn:1≤n) (hev:Even n rss) (hso:∀i,i<n→Sorted (rss i)) (hno:∀i,i<n→hasName (rss i) nm=false) {ys:List RecV} {o:Ob} (hy:∀i,i<n→(ys[i]!).ob=o∧(ys[i]!).na=none) (ho:o.name=nm) (hs:o.epoch≤1000∧nm.size≤1000):Even n (putL rss ys n):=by
 have hyn:∀i,i<n→(ys[i]!).name=nm:=fun i hi=>(congrArg Ob.name (hy i hi).1).trans ho
 have hso':=fun i hi=>putL_sorted hso hno hyn n i hi
 have hl:∀i,i<n→hasName (putL rss ys n i) nm=true∧recOf (putL rss ys n i) nm=ys[i]! := fun i hi=>look_of (hso' i hi) ((putL_mem _ _ _ _ _).2 (.inl ⟨hi,rfl⟩)) (hyn i hi)
 refine even_upd (nm:=nm) hn hev hso hso' (fun i hi r hr=>putL_other hyn n i hi r hr) (fun i hi r hr=>?_) (fun _=>leave_code hn fun i hi=>?_)
 ·rcases (putL_mem _ _ _ _ _).1 hr with ⟨_,rfl⟩|hr
  ·have e1:=congrArg Ob.epoch (hy i hi).1
   have e2:=hyn i hi
   exact ⟨by rw [show (ys[i]!).epoch=o.epoch from e1];exact hs.1,by rw [e2];exact hs.2⟩
  ·exact hev.ep i hi r hr
 ·refine ⟨(hl i hi).1,by rw [(hl i hi).2];exact (hy i hi).2,?_⟩
  rw [(hl i hi).2,(hl 0 (by omega)).2,(hy i hi).1,(hy 0 (by omega)).1]
theorem cut_put (hn:1≤n) (hev:Even n rss) (hso:∀i,i<n→Sorted (rss i)) (hno:∀i,i<n→hasName (rss i) nm=false) {ys:List RecV} (hy:∀i,i<n→(ys[i]!).name=nm) (k:Nat) (hk:k<n):cutOf n (putL rss ys k)=if k=0 then some ([],5) else some (nm.data.toList,1):=by
 by_cases h0:k=0
 ·subst h0
  rw [if_pos rfl,cutOf_congr (rss':=rss) (fun i hi=>by unfold putL;rw [if_neg (by omega)])]
  exact cut_of_even hn hev hso
 ·rw [if_neg h0]
  have hso':=fun i hi=>putL_sorted hso hno hy k i hi
  refine cut_upd hn hev hso hso' (fun i hi r hr=>putL_other hy k i hi r hr) (by decide) ⟨0,by omega,ys[0]!,(putL_mem _ _ _ _ _).2 (.inl ⟨by omega,rfl⟩),hy 0 (by omega)⟩ ?_
  unfold codeOf
  rw [if_neg]
  intro hall
  rw [List.all_eq_true] at hall
  have:=hall k (List.mem_range.2 hk)
  rw [show putL rss ys k k=rss k by unfold putL;rw [if_neg (by omega)],hno k hk] at this
  cases this
def delL (rss:Nat→List RecV) (nm:ByteArray) (k i:Nat):List RecV:=if i<k then remR (rss i) nm else rss i
theorem delL_sorted (hso:∀i,i<n→Sorted (rss i)) (k i:Nat) (hi:i<n):Sorted (delL rss nm k i):=by
 unfold delL
 split
 ·exact remR_sorted (hso i hi) nm
 ·exact hso i hi
theorem delL_sub (k i:Nat) (r:RecV) (h:r∈delL rss nm k i):r∈rss i:=by
 unfold delL at h
 split at h
 ·exact ((remR_mem _ _ _).1 h).1
 ·exact h
theorem delL_other (k i:Nat) (r:RecV) (hr:r.name≠nm):r∈delL rss nm k i↔r∈rss i:=by
 unfold delL
 split
 ·rw [remR_mem]
  exact ⟨fun h=>h.1,fun h=>⟨h,hr⟩⟩
 ·exact Iff.rfl
theorem even_del (hn:1≤n) (hev:Even n rss) (hso:∀i,i<n→Sorted (rss i)):Even n (delL rss nm n):=by
 refine even_upd (nm:=nm) hn hev hso (fun i hi=>delL_sorted hso n i hi) (fun i hi r hr=>delL_other n i r hr) (fun i hi r hr=>hev.ep i hi r (delL_sub n i r hr)) ?_
 rintro ⟨i,hi,r,hr,e⟩
 unfold delL at hr
 rw [if_pos hi] at hr
 exact absurd e ((remR_mem _ _ _).1 hr).2
theorem cut_del (hn:1≤n) (hev:Even n rss) (hso:∀i,i<n→Sorted (rss i)) (hyes:hasName (rss 0) nm=true) (k:Nat) (hk:k<n):cutOf n (delL rss nm k)=if k=0 then some ([],5) else some (nm.data.toList,1):=by
 by_cases h0:k=0
 ·subst h0
  rw [if_pos rfl,cutOf_congr (rss':=rss) (fun i hi=>by unfold delL;rw [if_neg (by omega)])]
  exact cut_of_even hn hev hso
 ·rw [if_neg h0]
  have hy:∀i,i<n→hasName (rss i) nm=true:=fun i hi=>by rw [hev.hasName hn hso nm i hi];exact hyes
  refine cut_upd hn hev hso (fun i hi=>delL_sorted hso k i hi) (fun i hi r hr=>delL_other k i r hr) (by decide) ⟨k,hk,recOf (rss k) nm,?_,(recOf_mem (hy k hk)).2⟩ ?_
  ·show _∈delL rss nm k k
   rw [show delL rss nm k k=rss k by unfold delL;rw [if_neg (by omega)]]
   exact (recOf_mem (hy k hk)).1
  ·unfold codeOf
   rw [if_neg]
   intro hall
   rw [List.all_eq_true] at hall
   have:=hall 0 (List.mem_range.2 (by omega))
   have this:hasName (delL rss nm k 0) nm=true:=this
   rw [show delL rss nm k 0=remR (rss 0) nm by unfold delL;rw [if_pos (by omega)],remR_no (hso 0 (by omega)) nm] at this
   cases this
theorem refState_name {ys:List RecV} {k q:Nat} (xs:Nat→RecV):(refState n xs ys k q).name=(xs q).name:=by
 unfold refState
 split
 ·rfl
 ·split<;>rfl
theorem refL_name {ys:List RecV} (hyes:∀i,i<n→hasName (rss i) nm=true) (k i:Nat) (hi:i<n):(refState n (fun q=>recOf (rss q) nm) ys k i).name=nm:=by
 rw [refState_name]
 exact has_name (hyes i hi)
theorem refL_sorted (hso:∀i,i<n→Sorted (rss i)) (hyes:∀i,i<n→hasName (rss i) nm=true) {ys:List RecV} (k i:Nat) (hi:i<n):Sorted (refL n rss nm ys k i):=setR_sorted (hso i hi) (hyes i hi) _ (refL_name hyes k i hi)
theorem refL_mem (hso:∀i,i<n→Sorted (rss i)) (hyes:∀i,i<n→hasName (rss i) nm=true) {ys:List RecV} (k i:Nat) (hi:i<n) (r:RecV):r∈refL n rss nm ys k i↔r=refState n (fun q=>recOf (rss q) nm) ys k i∨(r∈rss i∧r.name≠nm):=setR_mem (hso i hi) (hyes i hi) _ r
theorem refL_other (hso:∀i,i<n→Sorted (rss i)) (hyes:∀i,i<n→hasName (rss i) nm=true) {ys:List RecV} (k i:Nat) (hi:i<n) (r:RecV) (hr:r.name≠nm):r∈refL n rss nm ys k i↔r∈rss i:=by
 rw [refL_mem hso hyes k i hi]
 exact ⟨fun h=>h.elim (fun e=>absurd (by rw [e];exact refL_name hyes k i hi) hr) (fun h=>h.1),fun h=>.inr ⟨h,hr⟩⟩
theorem refL_look (hso:∀i,i<n→Sorted (rss i)) (hyes:∀i,i<n→hasName (rss i) nm=true) {ys:List RecV} (k i:Nat) (hi:i<n):hasName (refL n rss nm ys k i) nm=true∧recOf (refL n rss nm ys k i) nm=refState n (fun q=>recOf (rss q) nm) ys k i :=
 look_of (refL_sorted hso hyes k i hi) ((refL_mem hso hyes k i hi _).2 (.inl rfl)) (refL_name hyes k i hi)
theorem even_ref (hn:1≤n) (hev:Even n rss) (hso:∀i,i<n→Sorted (rss i)) (hyes:∀i,i<n→hasName (rss i) nm=true) {ys:List RecV} {o:Ob} (hob:∀i,i<n→(recOf (rss i) nm).ob=o) (he:o.epoch<1000):Even n (refL n rss nm ys (2*n)):=by
 have hl:=fun i hi=>refL_look hso hyes (ys:=ys) (2*n) i hi
 have hst:∀i,i<n→refState n (fun q=>recOf (rss q) nm) ys (2*n) i=((recOf (rss i) nm).laid (ys[i]!)).turned:=fun i hi=>by unfold refState;rw [if_pos (by omega)]
 have hto:∀i,i<n→(((recOf (rss i) nm).laid (ys[i]!)).turned).ob=⟨o.name,o.mode,o.t,o.l,o.size,o.epoch+1⟩:=fun i hi=>by
  have:=hob i hi
  simp only [RecV.ob] at this
  subst this
  rfl
 refine even_upd (nm:=nm) hn hev hso (fun i hi=>refL_sorted hso hyes _ i hi) (fun i hi r hr=>refL_other hso hyes _ i hi r hr) (fun i hi r hr=>?_) (fun _=>leave_code hn fun i hi=>?_)
 ·rcases (refL_mem hso hyes _ i hi r).1 hr with e | ⟨hr,_⟩
  ·have h1:=congrArg Ob.epoch (hto i hi)
   have h2:=congrArg Ob.name (hob i hi)
   have h3:=(hev.ep i hi _ (recOf_mem (hyes i hi)).1).2
   rw [e,hst i hi]
   refine ⟨?_,h3⟩
   have:(((recOf (rss i) nm).laid (ys[i]!)).turned).epoch=o.epoch+1:=h1
   omega
  ·exact hev.ep i hi r hr
 ·refine ⟨(hl i hi).1,?_,?_⟩
  ·rw [(hl i hi).2,hst i hi]
   rfl
  ·rw [(hl i hi).2,(hl 0 (by omega)).2,hst i hi,hst 0 (by omega),hto i hi,hto 0 (by omega)]
def refCode (n k:Nat):Nat:=if k<n then 4 else 3
theorem cut_ref (hn:1≤n) (hev:Even n rss) (hso:∀i,i<n→Sorted (rss i)) (hyes:∀i,i<n→hasName (rss i) nm=true) {ys:List RecV} {o:Ob} (hob:∀i,i<n→(recOf (rss i) nm).ob=o) (hys:∀i,i<n→(ys[i]!).sa≠none) (k:Nat) (hk:k<2*n):cutOf n (refL n rss nm ys k)=if k=0 then some ([],5) else some (nm.data.toList,refCode n k):=by
 have hbare:∀i,i<n→(recOf (rss i) nm).na=none:=fun i hi=>hev.bare i hi _ (recOf_mem (hyes i hi)).1
 by_cases h0:k=0
 ·subst h0
  rw [if_pos rfl,cutOf_congr (rss':=rss) (fun i hi=>by unfold refL;rw [show refState n (fun q=>recOf (rss q) nm) ys 0 i=recOf (rss i) nm by unfold refState;rw [if_neg (by omega),if_neg (by omega)]];exact setR_self (hyes i hi))]
  exact cut_of_even hn hev hso
 ·rw [if_neg h0]
  have hl:=fun i hi=>refL_look hso hyes (ys:=ys) k i hi
  refine cut_upd hn hev hso (fun i hi=>refL_sorted hso hyes k i hi) (fun i hi r hr=>refL_other hso hyes k i hi r hr) (by unfold refCode;split<;>decide) ⟨0,by omega,_,(refL_mem hso hyes k 0 (by omega) _).2 (.inl rfl),refL_name hyes k 0 (by omega)⟩ ?_
  have onow:∀i,i<n→(refState n (fun q=>recOf (rss q) nm) ys k i).ob=if i+n<k then ⟨o.name,o.mode,o.t,o.l,o.size,o.epoch+1⟩ else o:=fun i hi=>by
   have:=hob i hi
   unfold refState
   split
   ·simp only [RecV.ob] at this
    subst this
    rfl
   ·split
    ·exact this
    ·exact this
  have olate:∀i,i<n→(refState n (fun q=>recOf (rss q) nm) ys k i).late=if i<k then ⟨o.name,o.mode,o.t,o.l,o.size,o.epoch+1⟩ else o:=fun i hi=>by
   have:=hob i hi
   unfold refState
   split
   ·rename_i h
    rw [if_pos (by omega)]
    simp only [RecV.ob] at this
    subst this
    rfl
   ·split
    ·obtain ⟨a,ha⟩:=Option.ne_none_iff_exists'.1 (hys i hi)
     have e:((recOf (rss i) nm).laid (ys[i]!)).na.isSome=true:=by show (ys[i]!).sa.isSome=true;rw [ha];rfl
     rw [RecV.late,if_pos e]
     simp only [RecV.ob] at this
     subst this
     rfl
    ·rw [RecV.late,hbare i hi]
     exact this
  have ho1:(⟨o.name,o.mode,o.t,o.l,o.size,o.epoch+1⟩:Ob)≠o:=fun e=>by have:=congrArg Ob.epoch e;simp at this
  unfold codeOf
  rw [if_pos (by rw [List.all_eq_true];exact fun i hi=>(hl i (List.mem_range.1 hi)).1)]
  have eA:((List.range n).map fun i=>(recOf (refL n rss nm ys k i) nm).ob)=(List.range n).map fun i=>if i+n<k then (⟨o.name,o.mode,o.t,o.l,o.size,o.epoch+1⟩:Ob) else o:=List.map_congr_left fun i hi=>by rw [(hl i (List.mem_range.1 hi)).2,onow i (List.mem_range.1 hi)]
  have eZ:((List.range n).map fun i=>(recOf (refL n rss nm ys k i) nm).late)=(List.range n).map fun i=>if i<k then (⟨o.name,o.mode,o.t,o.l,o.size,o.epoch+1⟩:Ob) else o:=List.map_congr_left fun i hi=>by rw [(hl i (List.mem_range.1 hi)).2,olate i (List.mem_range.1 hi)]
  rw [eA,eZ]
  have hne:∀f:Nat→Ob,(List.range n).map f≠[]:=fun f e=>by have:=congrArg List.length e;simp at this;omega
  unfold settleOf refCode
  by_cases hkn:k<n
  ·rw [if_pos hkn,if_neg,if_pos]
   ·refine allSame_const _ o (hne _) fun y hy=>?_
    obtain ⟨i,hi,rfl⟩:=List.mem_map.1 hy
    rw [if_neg (by omega)]
   ·intro hs
    unfold allSame at hs
    have hs':=(of_decide_eq_true hs).2 k (by simpa using hkn)
    rw [getElem!_pos _ k (by simpa using hkn),getElem!_pos _ 0 (by simp;omega)] at hs'
    simp only [List.getElem_map,List.getElem_range] at hs'
    rw [if_neg (by omega),if_pos (by omega)] at hs'
    exact ho1 hs'.symm
  ·rw [if_neg hkn,if_pos,if_neg]
   ·intro e
    have:=congrArg (fun l=>l[n-1]?) e
    simp only [List.getElem?_map,List.getElem?_range (show n-1<n by omega),Option.map_some,Option.some.injEq] at this
    rw [if_neg (by omega),if_pos (by omega)] at this
    exact ho1 this.symm
   ·refine allSame_const _ ⟨o.name,o.mode,o.t,o.l,o.size,o.epoch+1⟩ (hne _) fun y hy=>?_
    obtain ⟨i,hi,rfl⟩:=List.mem_map.1 hy
    rw [if_pos (by have:=List.mem_range.1 hi;omega)]
end
def newX (X:Nat→List UInt8) (W n:Nat) (ys:List RecV) (Z:Nat→List UInt8) (b:Nat):List UInt8 :=
 if b<W then X b else match (List.range n).find? (fun i=>decide ((ys[i]!).blk=some b)) with
  | some i=>Z i
  | none=>[]
theorem newX_old {X:Nat→List UInt8} {W n:Nat} {ys:List RecV} {Z:Nat→List UInt8} {b:Nat} (h:b<W):newX X W n ys Z b=X b:=by unfold newX;rw [if_pos h]
theorem newX_new {X:Nat→List UInt8} {W n:Nat} {ys:List RecV} {Z:Nat→List UInt8} (hinj:∀i j,i<j→j<n→(ys[i]!).blk≠(ys[j]!).blk) {i b:Nat} (hi:i<n) (hb:(ys[i]!).blk=some b) (hW:W≤b):newX X W n ys Z b=Z i:=by
 unfold newX
 rw [if_neg (by omega)]
 cases hf:(List.range n).find? (fun i=>decide ((ys[i]!).blk=some b)) with
 | none =>
  rw [List.find?_eq_none] at hf
  exact absurd (decide_eq_true hb) (hf i (List.mem_range.2 hi))
 | some j =>
  have h1:=List.find?_some hf
  have h2:=List.mem_range.1 (List.mem_of_find?_eq_some hf)
  have hj:=of_decide_eq_true h1
  have:j=i:=by
   rcases Nat.lt_trichotomy j i with h | h | h
   ·exact absurd (hj.trans hb.symm) (hinj j i h hi)
   ·exact h
   ·exact absurd (hb.trans hj.symm) (hinj i j h h2)
  rw [this]
def shardOf (key:Nat) (o:Ob) (n i:Nat) (P:List UInt8):List UInt8:=Cof.sealed key (Cof.head o.mode o.t o.l n i o.epoch o.size o.name.data.toList++P)
theorem RecOk.good {w:World} {base W key mode t l n size epoch:Nat} {nm:ByteArray} {P:List UInt8} {i:Nat} {r:RecV} {X:Nat→List UInt8} (h:RecOk w W key mode t l n size epoch nm P i r) (hW:base≤W) (hp:IsPlan mode t l n) (hz:size≤60) (he:epoch≤100) (hm:mode=1→epoch=0) (h1:1≤nm.size) (h12:nm.size≤12) (hP:P.length=Cof.ngroups mode t l size)
  (hX:r.x X=Cof.sealed key (Cof.head mode t l n i epoch size nm.data.toList++P)):RecGood w base n X r:=by
 obtain ⟨e1,e2,e3,e4,e5,e6,e7,e8,e9⟩:=h.e
 refine ⟨by rw [e2,e3,e4];exact hp,by omega,by omega,by rw [e2,e6];exact hm,by rw [e1];exact h1,by rw [e1];exact h12,by rw [h.sn,e1,e2,e3,e4,e5,hP],?_,.inl ⟨e7,e8,e9⟩⟩
 rw [hX]
 exact (Bytes.of_owns h.own (by have:=h.sn;omega)).mono hW
theorem RecOk.blkNo {w:World} {W key mode t l n size epoch:Nat} {nm:ByteArray} {P:List UInt8} {i:Nat} {r:RecV} (h:RecOk w W key mode t l n size epoch nm P i r):∃b,r.sa=some ⟨b,0,none⟩∧r.blk=some b∧W≤b∧b<w.heap.size∧r.blks=[b]:=by
 have e7:=h.e.2.2.2.2.2.2.1
 obtain ⟨_,⟨_,hx⟩|⟨g,cap,cur,hv,h3,h4,_⟩⟩:=h.own
 ·have:=h.sn;omega
 ·have e:r.sa=some ⟨g,0,none⟩:=by have:=hv;simp only [Value.slice.injEq] at this;exact this.1
  exact ⟨g,e,by unfold RecV.blk;rw [e];rfl,h3,cells_lt h4,by unfold RecV.blks;rw [e,e7];rfl⟩
structure News (L:Seat) (s s':Sta) (o:Ob) (Z:Nat→List UInt8) (ys:List RecV):Prop where
 dn:∀i,i<L.n→s'.dn i=s.dn i
 old:∀i,i<L.n→∀r∈s.rss i,r.x s'.X=r.x s.X
 ob:∀i,i<L.n→(ys[i]!).ob=o∧(ys[i]!).na=none∧(ys[i]!).sa≠none
 new:∀i,i<L.n→(ys[i]!).x s'.X=Z i
def EndsC (L:Seat) (s s':Sta) (m k:Nat) (e:Ending):Prop :=
 (k=m∧e=.returned (.int .i64 0)∧s'.p=s.p.ticks k∧Calm L s')∨(k<m∧e=.returned (.int .i64 1)∧(s'.p=(s.p.ticks k).fall∧(s.p.ticks k).halts=true)∧Torn L s')
section
variable {w:World} {L:Seat} {s:Sta}
theorem Pen.ticks_fine {p:Pen} (h:p.crashed=false) (k:Nat):(p.ticks k).crashed=false:=(Pen.ticks_crashes p k).2.trans h
theorem putApart (h:Bank w L s) {w':World} {W key mode t l size:Nat} {nm:ByteArray} {Z:Nat→List UInt8} {ys:List RecV} (hW:w.heap.size≤W) (hys:∀i,i<L.n→RecOk w' W key mode t l L.n size 0 nm (Z i) i (ys[i]!)) (hinj:∀i j,i<j→j<L.n→(ys[i]!).blk≠(ys[j]!).blk) (k:Nat):Asunder L.n (putL s.rss ys k):=by
 intro i j hi hj r hr q hq b hb1 hb2
 rcases (putL_mem _ _ _ _ _).1 hr with ⟨_,rfl⟩|hr
 ·obtain ⟨g,hg1,hg2,hg3,_,hg5⟩:=(hys i hi).blkNo
  rw [hg5,List.mem_singleton] at hb1
  subst hb1
  rcases (putL_mem _ _ _ _ _).1 hq with ⟨_,rfl⟩|hq
  ·obtain ⟨g',_,hg2',_,_,hg5'⟩:=(hys j hj).blkNo
   rw [hg5',List.mem_singleton] at hb2
   subst hb2
   have:i=j:=by
    rcases Nat.lt_trichotomy i j with h | h | h
    ·exact absurd (hg2.trans hg2'.symm) (hinj i j h hj)
    ·exact h
    ·exact absurd (hg2'.trans hg2.symm) (hinj j i h hi)
   subst this
   exact ⟨rfl,rfl⟩
  ·have:=(h.ok j hj q hq).lt hb2
   omega
 ·rcases (putL_mem _ _ _ _ _).1 hq with ⟨_,rfl⟩|hq
  ·obtain ⟨g',_,hg2',hg3',_,hg5'⟩:=(hys j hj).blkNo
   rw [hg5',List.mem_singleton] at hb2
   subst hb2
   have:=(h.ok i hi r hr).lt hb1
   omega
  ·exact h.ap i j hi hj r hr q hq b hb1 hb2
theorem Bank.put_go (h:Bank w L s) (hc:Calm L s) (mode t l:Nat) (nm vl tape:ByteArray) (hno:hasName (s.rss 0) nm=false) (hfew:(s.rss 0).length<10) (hup:∀i,i<L.n→s.dn i=false) (hp:IsPlan mode t l L.n) (hz:vl.size≤60) (h1:1≤nm.size) (h12:nm.size≤12) (htp:Cof.tsize mode t*Cof.ngroups mode t l vl.size≤tape.size) :
  Calls Tryz.prog 16 #[.pointer (some ⟨L.C,0,none⟩),.string nm,.string vl,.agg #[.int .i64 mode,.int .i64 t,.int .i64 l],.string tape] w fun e w' =>
   ∃s' ys k,Bank w' L s'∧News L s s' ⟨nm,mode,t,l,vl.size,0⟩ (fun i=>shardOf L.key ⟨nm,mode,t,l,vl.size,0⟩ L.n i ((Cof.split vl.data.toList mode t l L.n tape.data.toList).getD i [])) ys∧(∀i,s'.rss i=putL s.rss ys k i)∧EndsC L s s' L.n k e∧Spared (Mine L s) w w':=by
 obtain ⟨hcr,hev⟩:=hc
 have hno':∀i,i<L.n→hasName (s.rss i) nm=false:=fun i hi=>by rw [hev.hasName h.n1 h.so nm i hi];exact hno
 have hfew':∀i,i<L.n→(s.rss i).length<10:=fun i hi=>by rw [hev.length i hi];exact hfew
 have key:∀w1,Below w.heap.size w w1→Calls Tryz.prog 38 #[.pointer (some ⟨L.V,0,none⟩),.string nm,.string vl,.agg #[.int .i64 mode,.int .i64 t,.int .i64 l],.string tape] w1 fun e w'=>(Both 1 2
   (fun w'=>∃s' ys,Bank w' L s'∧News L s s' ⟨nm,mode,t,l,vl.size,0⟩ (fun i=>shardOf L.key ⟨nm,mode,t,l,vl.size,0⟩ L.n i ((Cof.split vl.data.toList mode t l L.n tape.data.toList).getD i [])) ys∧(∀i,s'.rss i=putL s.rss ys L.n i)∧s'.p=s.p.ticks L.n∧Calm L s'∧Spared (Mine L s) w w')
   (fun w'=>∃s' ys k,Bank w' L s'∧News L s s' ⟨nm,mode,t,l,vl.size,0⟩ (fun i=>shardOf L.key ⟨nm,mode,t,l,vl.size,0⟩ L.n i ((Cof.split vl.data.toList mode t l L.n tape.data.toList).getD i [])) ys∧(∀i,s'.rss i=putL s.rss ys k i)∧k<L.n∧(s'.p=(s.p.ticks k).fall∧(s.p.ticks k).halts=true)∧Torn L s'∧Spared (Mine L s) w w') e w')∧Spared (fun b=>b=L.V∨moveOwn L.n L.sp s.vs b) w1 w':=by
  intro w1 hb1
  have h':=h.below hb1
  have hst:∀i,i<L.n→Sto w1 (L.sp i) false (s.vs i) (s.rss i):=fun i hi=>by have:=h'.st i hi;rw [hup i hi] at this;exact this
  refine (vput_gen L.base L.V L.key L.n L.B L.bc L.sp s.p mode t l vl.size nm vl tape s.vs s.rss w1 h'.vp hcr hst hno' hfew' h.si h.vi hp hz rfl h1 h12 htp h.hk h'.G h.bV h.bsp h.bv).mono ?_
  rintro e w' ⟨ys,k,⟨⟨hk1,_,hend⟩,us,hm⟩,hyl,hys,hinj,hsp⟩
  obtain ⟨Z,hZ⟩:∃Z:Nat→List UInt8,Z=fun i=>shardOf L.key ⟨nm,mode,t,l,vl.size,0⟩ L.n i ((Cof.split vl.data.toList mode t l L.n tape.data.toList).getD i []):=⟨_,rfl⟩
  obtain ⟨X',hX'⟩:∃X',X'=newX s.X w1.heap.size L.n ys Z:=⟨_,rfl⟩
  have hXo:∀b,b<w1.heap.size→X' b=s.X b:=fun b hb=>by rw [hX'];exact newX_old hb
  have hXn:∀i,i<L.n→(ys[i]!).x X'=Z i:=fun i hi=>by
   obtain ⟨b,e1,e2,e3,_,_⟩:=(hys i hi).blkNo
   unfold RecV.x
   rw [e1,hX']
   exact newX_new hinj hi e2 e3
  have hyn:∀i,i<L.n→(ys[i]!).name=nm:=fun i hi=>(hys i hi).e.1
  have hyo:∀i,i<L.n→(ys[i]!).ob=⟨nm,mode,t,l,vl.size,0⟩∧(ys[i]!).na=none∧(ys[i]!).sa≠none:=fun i hi=>by
   obtain ⟨e1,e2,e3,e4,e5,e6,e7,_⟩:=(hys i hi).e
   obtain ⟨b,f1,_⟩:=(hys i hi).blkNo
   refine ⟨by unfold RecV.ob;rw [e1,e2,e3,e4,e5,e6],e7,by rw [f1];simp⟩
  have hold:∀i,i<L.n→∀r∈s.rss i,r.x X'=r.x s.X:=fun i hi r hr=>by
   have hg:=h'.ok i hi r hr
   obtain ⟨g,e1,hg1,_⟩:=hg.sa
   unfold RecV.x
   rw [e1]
   exact hXo g (hg.lt hg1)
  have bank:∀p',Vp w' L.V L.key L.n L.B L.bc L.sp p'→Bank w' L ⟨s.dn,us,putL s.rss ys k,p',X'⟩:=fun p' hvp=>by
   refine h'.next ⟨s.dn,us,putL s.rss ys k,p',X'⟩ hsp hvp (fun i hi=>?_) hm.blk hm.dis (fun i hi r hr=>?_) (putApart h' (Nat.le_refl _) hys hinj k)
   ·have:=hm.st i hi
    show Sto w' (L.sp i) (s.dn i) (us i) (putL s.rss ys k i)
    rw [hup i hi]
    exact this
   ·rcases (putL_mem _ _ _ _ _).1 hr with ⟨_,rfl⟩|hr
    ·exact (hys i hi).good h'.G.bs hp hz (by omega) (fun _=>rfl) h1 h12 (split_len hp _ _ i hi (by simpa using htp) |>.trans (by simp)) (by rw [hXn i hi,hZ];rfl)
    ·exact h'.stays hsp X' hXo i hi r hr
  have news:∀p',News L s ⟨s.dn,us,putL s.rss ys k,p',X'⟩ ⟨nm,mode,t,l,vl.size,0⟩ Z ys:=fun p'=>⟨fun _ _=>rfl,hold,hyo,hXn⟩
  have hmine:Spared (Mine L s) w w':=(Mine.below hb1).trans (Mine.of hsp)
  refine ⟨?_,hsp⟩
  rw [←hZ]
  have hsm:(0:Nat)≤1000∧nm.size≤1000:=⟨by omega,by omega⟩
  rcases hend with ⟨hk2,rfl,hvp⟩|⟨hk2,hh,⟨ev,rfl,hch⟩,hvp⟩
  ·subst hk2
   refine .inl ⟨rfl,_,ys,bank _ hvp,news _,fun _=>rfl,rfl,⟨Pen.ticks_fine hcr _,?_⟩,hmine⟩
   exact even_put h.n1 hev h.so hno' (fun i hi=>⟨(hyo i hi).1,(hyo i hi).2.1⟩) rfl hsm
  ·refine .inr ⟨ev,rfl,hch,(bank _ hvp).G.et,_,ys,k,bank _ hvp,news _,fun _=>rfl,hk2,⟨rfl,hh⟩,⟨rfl,?_⟩,hmine⟩
   have:=cut_put h.n1 hev h.so hno' hyn k hk2
   by_cases h0:k=0
   ·exact ⟨_,_,this.trans (by rw [if_pos h0])⟩
   ·exact ⟨_,_,this.trans (by rw [if_neg h0])⟩
 refine (cput_both L.C L.V 2 1 mode t l nm vl tape w _ _ _ h.cf (by omega) h.putOwn.1 h.putOwn.2 key).mono ?_
 rintro e w' (⟨rfl,w1,⟨s',ys,hb,hn,hr,hpn,hcalm,hmi⟩,hb'⟩|⟨rfl,w1,⟨s',ys,k,hb,hn,hr,hk,hpn,htorn,hmi⟩,hb'⟩)
 ·exact ⟨s',ys,L.n,hb.below hb',hn,hr,.inl ⟨rfl,rfl,hpn,hcalm⟩,hmi.trans (Mine.below hb')⟩
 ·exact ⟨s',ys,k,hb.below hb',hn,hr,.inr ⟨hk,rfl,hpn,htorn⟩,hmi.trans (Mine.below hb')⟩
end
end Go.Proofs.YtcegdgmbponapabGreatDoor