/-
  The walk of cutting.dealt.
  The walk of cutting.carried.
  The walk of cutting.Split and coffer.Split where nothing is refused.
  The walks of package cofferkeep's shaping functions.
-/
import Derived.Test.YtcegdgmbponapabGreatDoorPart01
namespace Go.Proofs.YtcegdgmbponapabGreatDoor
open Go.RowKit
attribute [local go_sem ↓] Go.wp_at_zero Go.wp_at_succ
theorem dealRow_succ (text:List UInt8) (width j k:Nat):Cof.dealRow text width j (k+1)=if k % width=j then Cof.dealRow text width j k++[text.getD k 0] else Cof.dealRow text width j k:=by
 unfold Cof.dealRow
 rw [List.range_succ,List.filter_append,List.map_append]
 split
 ·rename_i h;simp [h]
 ·rename_i h;simp [h]
theorem dealRow_le (text:List UInt8) (width j k:Nat):(Cof.dealRow text width j k).length≤k:=by
 unfold Cof.dealRow
 rw [List.length_map]
 exact Nat.le_trans (List.length_filter_le _ _) (by simp)
set_option maxRecDepth 100000 in
set_option maxHeartbeats 1000000 in
theorem dealt_any (s:ByteArray) (width groups:Nat) (w:World) (hw:width≤8) (hg:groups≤60) :
  Calls Tryz.prog 120 #[.string s,.int .i64 width,.int .i64 groups] w fun e w' =>
   ∃g,e=.returned (.slice (some ⟨g,0,none⟩) width width)∧RdRows w' (some ⟨g,0,none⟩) (Cof.deal s.data.toList width groups)∧Below w.heap.size w w':=by
 obtain ⟨i0,hi,hz0,hz1,hz2⟩:=info_parts Tryz.infoRow
 obtain ⟨i5,hi5,hy0,hy1,hy2⟩:=info_parts Tryz.info5
 have hm:width*groups≤8*60:=Nat.mul_le_mul hw hg
 have hmi:(width:Int)*(groups:Int)=((width*groups:Nat):Int):=by simp
 have hmb:(width:Int)*(groups:Int)≤480:=by rw [hmi];omega
 have hma:(0:Int)≤(width:Int)*(groups:Int):=by rw [hmi];omega
 have HM:=hid hmi
 clear hmi
 go_enter Tryz.func120,Tryz.ntmps120
 go_wp2_with (first | (at_make;refine wpList_make_full _ rfl (.tmp 10) (.tmp 10) 73 rfl w.heap.size 44 i0 (.slice none 0 0) 1 Tryz.underlying73 hi hz0 hz1 .i64 .i64 _ _ width rfl rfl rfl rfl (by rw [hz2];omega) (by unfold maxLen;omega) (Nat.le_refl _) ?_;intro w1 hown1 hgrow1;have hb1:=grown_below hgrow1;have HO1:=hid (made_rows (fun _=>[]) hown1).own;clear hown1 hgrow1;obtain ⟨cap1,w2,hconv,hrd2,hb2,hs2⟩:=conv_bytes w1 s;have HS2:=hid hs2;clear hs2)|fail)
 rw [HM.out]
 generalize hN:width*groups=N at *
 have HN:=hid hN
 clear hN hmb hma
 refine (filledB _ _ s.data.toList N _ (by exact hrd2) (by omega)).mono ?_
 rintro e w3 ⟨f,rfl,hown3,hb3⟩
 have hg0:w.heap.size<w1.heap.size:=(HO1.out.lt _ rfl).2
 have hf0:w2.heap.size≤f∧f<w3.heap.size:=hown3.lt f rfl
 have hz12:w1.heap.size<w2.heap.size:=by rw [HS2.out];omega
 have hb23:Below w1.heap.size w1 w3:=hb2.trans (hb3.mono (by omega))
 have HF:=hid (owns_rd hown3)
 have HD:=hid (Deal.start (owns_below HO1.out hb23 (Nat.le_refl _)) (show w.heap.size<w3.heap.size by have:=hb23.size;omega) (Nat.le_refl _))
 have hb:Below w.heap.size w w3:=hb1.trans (hb23.mono (by omega))
 clear hown3 hconv hrd2 hb1 hb2 hb3 hb23
 go_wp2
 go_loopw [19] (fun i wr=>∃(k:Nat) (vs:List Value),k≤N∧i=.int .i64 k∧Deal wr w.heap.size w.heap.size width w3.heap.size (fun j=>Cof.dealRow s.data.toList width j k) vs∧wr.heap[f]?=w3.heap[f]?∧Below w.heap.size w wr)
  (fun i _=>N-(intOf i).toNat)
 case atStart=>exact ⟨0,_,Nat.zero_le _,rfl,HD.out,rfl,hb⟩
 case round =>
  obtain ⟨k,vs,hk,rfl,hdeal,hkept,hbel⟩:=hrel
  have HK:=hid hkept
  clear hkept
  by_cases hlt:k<N
  ·have hw0:0<width:=by
    rcases Nat.eq_zero_or_pos width with h | h
    ·have:=HN.out;rw [h] at this;omega
    ·exact h
   obtain ⟨r,hr⟩:∃r,r=k % width:=⟨_,rfl⟩
   have hrw:r<width:=by rw [hr];exact Nat.mod_lt _ hw0
   have hri:(k:Int) % (width:Int)=(r:Int):=by rw [hr];simp
   have hrt:(k:Int).tmod (width:Int)=(r:Int):=by rw [Int.tmod_eq_emod_of_nonneg (by omega)];exact hri
   have hwr:IntKind.i64.wrap (r:Int)=r:=by rw [IntKind.wrap_i64];omega
   have hw1:((width:Int) == 0)=false:=by rw [beq_eq_false_iff_ne];omega
   have hw2:width≠0:=by omega
   have hr0:(0:Int)≤(r:Int):=by omega
   have hr1:(r:Int)<(width:Int):=by omega
   have HR:=hid hr
   clear hr
   obtain ⟨v,hv,hcell,hfr,hown⟩:=hdeal.cell hrw
   obtain ⟨x,hx⟩:∃x,x=s.data.toList.getD k 0:=⟨_,rfl⟩
   have hsrc:wr.cell? ⟨f,k,none⟩=some (.int .u8 x.toNat):=by
    rw [World.cell?_of_block (a:=⟨f,k,none⟩) HK.out]
    obtain ⟨b,o,e1,_,e3⟩:=HF.out k (.int .u8 x.toNat) (by rw [bs_get _ _ (by rw [Cof.length_fillRow];exact hlt),fill_at _ _ _ hlt,hx])
    cases e1
    rw [Nat.zero_add] at e3
    exact e3
   have HX:=hid hx
   have HDL:=hid hdeal
   have HV:=hid hv
   have hle:=dealRow_le s.data.toList width r k
   have hB2:w3.heap.size≤wr.heap.size:=hdeal.le
   have HOWN:=hid hown
   clear hx hdeal hv hown
   have hfar:∀c,(wr.alloc (.cells c 5)).cell? ⟨w.heap.size,r,none⟩=some v∧(wr.alloc (.cells c 5)).frozen? ⟨w.heap.size,r,none⟩=false:=fun c=>by
    have hb':=(Below.refl wr.heap.size wr).alloc (Nat.le_refl _) (.cells c 5)
    have hg1:w.heap.size<wr.heap.size:=by omega
    exact ⟨(hb'.cell (by exact hg1)).trans hcell,(hb'.frozen (by exact hg1)).trans hfr⟩
   have HFAR:=hid hfar
   have hfar1:∀c,(wr.alloc (.cells c 5)).cell? ⟨w.heap.size,r,none⟩=some v:=fun c=>(hfar c).1
   have hvb:v.ownBlock≠some w.heap.size:=by
    intro hc
    have:=(HOWN.out.lt _ hc).1
    omega
   clear hfar
   go_wp2_with fail
   go_region_law ((refine step_append_lies _ (by rfl) _ _ _ (by rfl) w3.heap.size 5 i5 (.int .u8 0) 1 1 Tryz.underlying44 hi5 hy0 hy1 hy2 rfl (by omega) v _ _ (by rfl) ((HOWN.out.alloc _).drew) ⟨wr.heap.size,0,none⟩ 1 1 [.int .u8 x.toNat] (by rfl) (by rfl) (World.news_of_block (cs:=#[.int .u8 x.toNat]) (t:=5) (fr:=(0,0)) (heap_alloc_new wr _)) (by simp [Value.oneCell']) (by omega) (by unfold maxLen;omega) (by omega) (by simp;omega) (wr.heap.size+1) (by simp) ?_;intro g cap w4 hown4 hgrow4 hat4 hlt4;have c1:w4.cell? ⟨w.heap.size,r,none⟩=some v:=(hgrow4.cell_far _ (by simp;omega) (Ne.symm hvb)).trans (HFAR.out _).1;have f1:w4.frozen? ⟨w.heap.size,r,none⟩=false:=(hgrow4.frozen_far _ (by simp;omega) (Ne.symm hvb)).trans (HFAR.out _).2))
   all_goals
    have hbW:Below wr.heap.size wr (wr.alloc (.cells #[.int .u8 x.toNat] 5)).drew:=((Below.refl wr.heap.size wr).alloc (Nat.le_refl _) _).drew
    have HST:=hid (HDL.out.step (rows':=fun j=>Cof.dealRow s.data.toList width j (k+1)) HV.out hbW hown4 hgrow4 (by simpa using hat4) (by show Cof.dealRow _ _ _ _=_;rw [dealRow_succ,if_pos HR.out.symm,HX.out]) (fun j hj=>by show Cof.dealRow _ _ _ _=_;rw [dealRow_succ,if_neg (by rw [←HR.out];omega)]))
    have HKP:=hid ((HDL.out.others (u:=.slice (some ⟨g,0,none⟩) ((Cof.dealRow s.data.toList width r k).length+1) cap) HV.out hbW hgrow4 f hf0.2 (by omega)).trans HK.out)
    have hbf:Below w.heap.size w w4:=((hbel.trans (hbW.mono hbel.size)).grown hgrow4 (by have:=hbel.size;simp;omega) (fun k hk=>Nat.le_trans (by omega) (HOWN.out.lt k hk).1))
    clear hown4 hgrow4 hat4 hlt4
    go_wp2
    go_roundw
    case rel=>exact ⟨k+1,_,by omega,by go_num,HST.out,HKP.out,hbf.setCell (Nat.le_refl _) _⟩
    case measure=>simp [intOf];omega
  ·have hkn:k=N:=by omega
   subst hkn
   have HF2:=hid hdeal.full
   clear hdeal
   go_wp2
   go_ret
   exact ⟨_,rfl,by rw [←HN.out] at HF2;exact HF2.out,hbel⟩
theorem carryTo_le (frm:List UInt8) (rows:List (List UInt8)) (x:UInt8) (R:Nat) (h:∀k,(rows.getD k []).length≤R) (k:Nat):(Cof.carryTo frm rows x k).length≤R:=by
 induction k with
 | zero=>simp [Cof.carryTo]
 | succ k ih=>rw [Cof.carryTo,Cof.length_sumRow,Cof.length_scaleRow];exact Nat.max_le.2 ⟨ih,h k⟩
theorem basis_le (xs:List UInt8) (k:Nat):(Cof.basis xs k).length≤xs.length+1:=by
 rw [Cof.basis,Cof.length_scaleRow];exact (basisTo_bounds xs k xs.length).2
theorem bases_at (xs:List UInt8) (k:Nat) (h:k<xs.length):(Cof.bases xs).getD k []=Cof.basis xs k:=by simp [Cof.bases,h]
theorem owns_base {w:World} {base base' n size:Nat} {e:TypeId} {v:Value} {L:List Value} (h:w.ownsRow base e size v n L) (hb:base'≤base):w.ownsRow base' e size v n L:=by
 obtain ⟨h1,h2⟩:=h
 refine ⟨h1,?_⟩
 rcases h2 with h2 | ⟨g,cap,cur,h3,h4,h5⟩
 ·exact .inl h2
 ·exact .inr ⟨g,cap,cur,h3,by omega,h5⟩
set_option maxRecDepth 100000 in
set_option maxHeartbeats 1000000 in
theorem carried_any (af ar at':Option Addr) (nf cf nr cr nt ct:Nat) (frm to:List UInt8) (rows:List (List UInt8)) (w:World) (ef:nf=frm.length) (er:nr=rows.length) (et:nt=to.length)
  (hf:Rd w af (bs frm)) (hr:RdRows w ar rows) (ht:Rd w at' (bs to)) (hn:nf≤100) (hrf:nr≤nf) (hnt:nt≤100) (hlen:∀k,(rows.getD k []).length≤500) :
  Calls Tryz.prog 103 #[.slice af nf cf,.slice ar nr cr,.slice at' nt ct] w fun e w' =>
   ∃g,e=.returned (.slice (some ⟨g,0,none⟩) nt nt)∧RdRows w' (some ⟨g,0,none⟩) (Cof.carry frm rows to)∧Below w.heap.size w w'∧OwnR w' w.heap.size g nt 44:=by
 obtain ⟨i0,hi,hz0,hz1,hz2⟩:=info_parts Tryz.infoRow
 have HEF:=hid ef
 have HER:=hid er
 have HET:=hid et
 clear ef er et
 go_enter Tryz.func103,Tryz.ntmps103
 go_wp2_with (first | (go_at_call 142;refine (bases_any _ _ _ frm _ HEF.out hf (by omega)).mono ?_;rintro e w1 ⟨gb,rfl,hbases,hb1⟩)|(at_make;refine wpList_make_full _ rfl (.tmp 16) (.tmp 16) 73 rfl w1.heap.size 44 i0 (.slice none 0 0) 1 Tryz.underlying73 hi hz0 hz1 .i64 .i64 _ _ nt rfl rfl rfl rfl (by rw [hz2];omega) (by unfold maxLen;omega) (Nat.le_refl _) ?_;intro w2 hown2 hgrow2;have hb2:=grown_below hgrow2;have HO2:=hid (made_rows (fun i=>Cof.carryTo frm rows (to.getD i 0) rows.length) hown2);clear hown2 hgrow2))
 go_loopw [20] (fun i wr=>∃(k:Nat) (vs:List Value),k≤nt∧i=.int .i64 k∧Rows wr w1.heap.size w1.heap.size nt k 44 (fun i=>Cof.carryTo frm rows (to.getD i 0) rows.length) vs∧(∀(j:Nat) (v:Value),k≤j→vs[j]?=some v→v=.slice none 0 0)∧Below w1.heap.size w1 wr)
  (fun i _=>nt-(intOf i).toNat)
 case atStart =>
  refine ⟨0,_,Nat.zero_le _,rfl,HO2.out,?_,hb2⟩
  intro j v _ hv
  rw [List.getElem?_replicate] at hv
  split at hv
  ·simp at hv;exact hv.symm
  ·cases hv
 case round =>
  obtain ⟨i,vs,hi',rfl,hrows,hrest,hbel⟩:=hrel
  by_cases hlt:i<nt
  ·have hltl:i<to.length:=by rw [←HET.out];exact hlt
   obtain ⟨bt,ot,rfl,hbts,hcellt⟩:=ht.pos (by rw [bs_length];omega)
   obtain ⟨x,hx⟩:∃x,x=to.getD i 0:=⟨_,rfl⟩
   have hct:wr.cell? ⟨bt,ot+i,none⟩=some (.int .u8 x.toNat):=by rw [hbel.cell (by show bt<w1.heap.size;have:=hb1.size;omega),hb1.cell (by exact hbts)];exact hcellt i _ (by rw [bs_get _ _ hltl,hx])
   have HX:=hid hx
   have HRW:=hid hrows
   have HRS:=hid hrest
   clear hcellt hx hrows hrest
   go_wp2
   go_loopw [27] (fun c wr=>∃(k:Nat) (vs:List Value) (a:Option Addr) (l cap:Nat),k≤nr∧c=.int .i64 k∧Rows wr w1.heap.size w1.heap.size nt i 44 (fun i=>Cof.carryTo frm rows (to.getD i 0) rows.length) vs∧vs[i]?=some (.slice a l cap)∧l=(Cof.carryTo frm rows x k).length∧Rd wr a (bs (Cof.carryTo frm rows x k))∧(∀(j:Nat) (v:Value),i<j→vs[j]?=some v→v=.slice none 0 0)∧Below w1.heap.size w1 wr)
    (fun c _=>nr-(intOf c).toNat)
   case atStart =>
    obtain ⟨v,hv⟩:∃v,vs[i]?=some v:=⟨_,List.getElem?_eq_getElem (by have:=(block_of_owns HRW.out.own).2.2;omega)⟩
    have:=HRS.out i v (Nat.le_refl _) hv
    subst this
    exact ⟨0,vs,none,0,0,Nat.zero_le _,rfl,HRW.out,hv,rfl,Rd.nil _ _,fun j v hj=>HRS.out j v (by omega),hbel⟩
   case round =>
    obtain ⟨k,vq,a,l,cap,hk,rfl,hrows,hvi,hl,hrd,hrest,hbq⟩:=hrel
    have hsz:=hb1.size
    have hsq:=hbq.size
    by_cases hkr:k<nr
    ·have hkl:k<rows.length:=by rw [←HER.out];exact hkr
     have hkf:k<frm.length:=by rw [←HEF.out];omega
     obtain ⟨br,orr,ak,ck,rfl,hbr,hcr,hrk⟩:=((hr.below hb1 (Nat.le_refl _)).below hbq (Nat.le_refl _)).at k hkl
     obtain ⟨bb,ob,ab,cb,hgb,hbb,hcb,hrb⟩:=(hbases.below hbq (Nat.le_refl _)).at k (by simpa [Cof.bases] using hkf)
     cases hgb
     rw [bases_at _ _ hkf] at hcb hrb
     rw [Nat.zero_add] at hcb
     have hbl:=basis_le frm k
     rw [←HEF.out] at hbl
     obtain ⟨m,hm⟩:∃m,m=(rows.getD k []).length:=⟨_,rfl⟩
     have hm2:m≤500:=by rw [hm];exact hlen k
     obtain ⟨p,hp⟩:∃p,p=(Cof.basis frm k).length:=⟨_,rfl⟩
     rw [←hm] at hcr
     rw [←hp] at hcb hbl
     have hl2:l≤500:=by rw [hl];exact carryTo_le frm rows x 500 hlen k
     have hca:wr.cell? ⟨w1.heap.size,i,none⟩=some (.slice a l cap):=by rw [hrows.own.cellAt i (by omega)];exact hvi
     have hfa:=hrows.own.frozenAt i
     have hg1:=(hrows.own.lt _ rfl).2
     have HM:=hid hm
     have HP:=hid hp
     have HL:=hid hl
     have HRW2:=hid hrows
     have HVI:=hid hvi
     have HRE:=hid hrest
     clear hm hp hl hrows hvi hrest hlen
     go_wp2_with fail
     go_region_with (first
      | (go_at_call 144;refine (at_n _ _ _ (Cof.basis frm k) x _ HP.out (by exact hrb.below ((Below.refl _ _).drew) (Nat.le_refl _)) (by omega)).mono ?_;rintro e w3 ⟨rfl,hb3⟩;have z3:wr.heap.size≤w3.heap.size:=hb3.size;have c3:w3.cell? ⟨w1.heap.size,i,none⟩=some (.slice a l cap):=(hb3.cell (by exact hg1)).trans hca;have f3:w3.frozen? ⟨w1.heap.size,i,none⟩=false:=(hb3.frozen (by exact hg1)).trans hfa)
      | (go_at_call 143;refine (scaleB _ _ _ (rows.getD k []) _ _ HM.out (by exact (hrk.below ((Below.refl _ _).drew) (Nat.le_refl _)).below hb3 (Nat.le_refl _)) (by omega)).mono ?_;rintro e w4 ⟨g4,rfl,hrd4,hb4⟩;have z4:w3.heap.size≤w4.heap.size:=hb4.size;have c4:w4.cell? ⟨w1.heap.size,i,none⟩=some (.slice a l cap):=(hb4.cell (by show w1.heap.size<w3.heap.size;omega)).trans c3;have f4:w4.frozen? ⟨w1.heap.size,i,none⟩=false:=(hb4.frozen (by show w1.heap.size<w3.heap.size;omega)).trans f3)
      | (go_at_call 95;refine (sumB _ _ _ _ _ _ (Cof.carryTo frm rows x k) (Cof.scaleRow (rows.getD k []) (Cof.polyAt (Cof.basis frm k) x)) _ HL.out (by rw [Cof.length_scaleRow];exact HM.out) (by exact ((hrd.below ((Below.refl _ _).drew) (Nat.le_refl _)).below hb3 (Nat.le_refl _)).below hb4 (Nat.le_refl _)) (by exact hrd4) (by omega) (by omega)).mono ?_;rintro e w5 ⟨g5,l5,rfl,hl5,hrd5,hb5⟩;have HL5:=hid hl5;clear hl5;have z5:w4.heap.size≤w5.heap.size:=hb5.size;have c5:w5.cell? ⟨w1.heap.size,i,none⟩=some (.slice a l cap):=(hb5.cell (by show w1.heap.size<w4.heap.size;omega)).trans c4;have f5:w5.frozen? ⟨w1.heap.size,i,none⟩=false:=(hb5.frozen (by show w1.heap.size<w4.heap.size;omega)).trans f4))
     all_goals
      have hbd:Below wr.heap.size wr w5:=(((Below.refl _ _).drew).trans (hb3.mono (Nat.le_refl _))).trans ((hb4.mono z3).trans (hb5.mono (by omega)))
      have hr5:=HRW2.out.kept hbd (Nat.le_refl _)
      have HPUT:=hid (hr5.put (some ⟨g5,0,none⟩) l5 l5)
      have HRD:=hid (hrd5.setCell_other (block_of_owns hr5.own).1 hr5.shape (g:=w1.heap.size) (k:=i) (.slice (some ⟨g5,0,none⟩) l5 l5))
      have hvl:i<vq.length:=by have:=(block_of_owns hr5.own).2.2;omega
      clear hr5 hrd5
      go_wp2
      go_roundw
      case rel =>
       refine ⟨k+1,vq.set i (.slice (some ⟨g5,0,none⟩) l5 l5),some ⟨g5,0,none⟩,l5,l5,by omega,by go_num,HPUT.out,by simp [hvl],HL5.out,HRD.out,?_,(hbq.trans (hbd.mono hsq)).setCell (Nat.le_refl _) _⟩
       intro j v hj hv
       rw [List.getElem?_set,if_neg (by omega)] at hv
       exact HRE.out j v hj hv
      case measure=>simp [intOf];omega
    ·have hkn:k=nr:=by omega
     have HKN:=hid hkn
     have HL:=hid hl
     have HONE:=hid (hrows.one hvi (by rw [hl,hkn,HER.out,HX.out]) (by rw [hkn,HER.out,HX.out] at hrd;exact hrd))
     have HRE:=hid hrest
     clear hkn hl hrows hvi hrest
     go_wp2
     go_roundw
     case rel=>exact ⟨i+1,vq,by omega,by go_num,HONE.out,fun j v hj=>HRE.out j v (by omega),hbq⟩
     case measure=>simp [intOf];omega
  ·have hkn:i=nt:=by omega
   subst hkn
   have HF:=hid hrows.full
   have HOW:=hid hrows.own
   clear hrows
   go_wp2
   go_ret
   refine ⟨_,rfl,?_,hb1.trans (hbel.mono hb1.size),_,owns_base HOW.out hb1.size⟩
   have e:Cof.carry frm rows to=(List.range i).map (fun i=>Cof.carryTo frm rows (to.getD i 0) rows.length):=by
    rw [HET.out]
    apply List.ext_getElem
    ·simp [Cof.carry]
    ·intro j h1 h2
     simp [Cof.carry] at h1 ⊢
     simp [h1]
   rw [e]
   exact HF.out
theorem ngroups_le {mode t l n:Nat} (h:IsPlan mode t l n) (size:Nat) (hs:size≤60):Cof.ngroups mode t l size≤60:=by
 have h1:1≤Cof.gsize mode t l:=by have:=h.t1;have:=h.l1;unfold Cof.gsize;split<;>omega
 unfold Cof.ngroups
 generalize Cof.gsize mode t l=g at h1
 refine Nat.le_trans (m:=size) ?_ hs
 rcases Nat.eq_zero_or_pos size with h0 | h0
 ·subst h0
  have:(0+g-1) / g=0:=Nat.div_eq_of_lt (by omega)
  omega
 ·refine Nat.div_le_of_le_mul ?_
  have e:g*size=g+g*(size-1):=by
   obtain ⟨m,rfl⟩:∃m,size=m+1:=⟨size-1,by omega⟩
   rw [Nat.mul_add];simp;omega
  have:size-1≤g*(size-1):=Nat.le_mul_of_pos_left _ h1
  omega
def RowsAt (w:World) (vs:List Value) (rows:List (List UInt8)):Prop:=vs.length=rows.length∧∀(k:Nat) (v:Value),vs[k]?=some v→∃a' cap',v=.slice a' (rows.getD k []).length cap'∧Rd w a' (bs (rows.getD k []))
theorem RowsAt.below {B:Nat} {w w':World} {vs:List Value} {rows:List (List UInt8)} (h:RowsAt w vs rows) (hb:Below B w w') (hB:w.heap.size≤B):RowsAt w' vs rows:=by
 refine ⟨h.1,fun k v hk=>?_⟩
 obtain ⟨a',cap',h4,h5⟩:=h.2 k v hk
 exact ⟨a',cap',h4,h5.below hb hB⟩
theorem RowsAt.one {w:World} {vs:List Value} {rows:List (List UInt8)} (h:RowsAt w vs rows) (u:Value) (hu:u∈vs):u.oneCell'=true:=by
 obtain ⟨k,hk⟩:=List.mem_iff_getElem?.1 hu
 obtain ⟨a',cap',h4,_⟩:=h.2 k u hk
 rw [h4];rfl
theorem RowsAt.append {w:World} {vs vs':List Value} {rows rows':List (List UInt8)} (h:RowsAt w vs rows) (h':RowsAt w vs' rows'):RowsAt w (vs++vs') (rows++rows'):=by
 refine ⟨by simp [h.1,h'.1],fun k v hk=>?_⟩
 have e:=h.1
 by_cases hl:k<vs.length
 ·rw [List.getElem?_append_left hl] at hk
  have:=h.2 k v hk
  rw [List.getD_eq_getElem?_getD,List.getElem?_append_left (by omega),←List.getD_eq_getElem?_getD]
  exact this
 ·rw [List.getElem?_append_right (by omega)] at hk
  have:=h'.2 _ v hk
  rw [List.getD_eq_getElem?_getD,List.getElem?_append_right (by omega),←List.getD_eq_getElem?_getD,←e]
  exact this
theorem RdRows.split {w:World} {a:Option Addr} {rows:List (List UInt8)} (h:RdRows w a rows):∃vs,Rd w a vs∧RowsAt w vs rows:=by
 obtain ⟨vs,h1,h2,h3⟩:=h
 exact ⟨vs,h2,h1,h3⟩
theorem deal_length (text:List UInt8) (width groups:Nat):(Cof.deal text width groups).length=width:=by simp [Cof.deal]
set_option maxRecDepth 100000 in
set_option maxHeartbeats 1000000 in
theorem cutSplit_ok (mode t l n:Nat) (v tape:ByteArray) (w:World) (h:IsPlan mode t l n) (hv:v.size≤60) (htp:Cof.tsize mode t*Cof.ngroups mode t l v.size≤tape.size) :
  Calls Tryz.prog 88 #[.string v,.agg #[.int .i64 mode,.int .i64 t,.int .i64 l],.int .i64 n,.string tape] w fun e w' =>
   ∃g,e=.returned (.tuple #[.slice (some ⟨g,0,none⟩) n n,.nilIface])∧RdRows w' (some ⟨g,0,none⟩) (Cof.split v.data.toList mode t l n tape.data.toList)∧Below w.heap.size w w'∧OwnR w' w.heap.size g n 44:=by
 have hn8:=h.n8
 have hng:=ngroups_le h v.size hv
 have hgs:Cof.gsize mode t l≤8:=by obtain ⟨_,_,_,_,_,h6⟩:=h;unfold Cof.gsize;split<;>omega
 have hts:Cof.tsize mode t≤8:=by obtain ⟨_,_,_,_,_,h6⟩:=h;unfold Cof.tsize;split<;>omega
 go_enter Tryz.func88,Tryz.ntmps88
 go_wp2_with fail
 refine (layoutFor_ok mode t l n v.size _ h hv).mono ?_
 rintro e w1 ⟨ag,cg,at',ct,rfl,hlay,hb1⟩
 generalize hG:Cof.gsize mode t l=gs at *
 generalize hT:Cof.tsize mode t=ts at *
 generalize hN:Cof.ngroups mode t l v.size=ng at *
 have HG:=hid hG
 have HT:=hid hT
 have HN:=hid hN
 clear hG hT hN
 go_wp2_with fail
 refine (tapeNeed_any ag at' gs cg ts ct ng _ hts hng).mono ?_
 rintro e w2 ⟨rfl,hb2⟩
 generalize hq:ts*ng=need at *
 have HQ:=hid hq
 clear hq
 go_wp2_with fail
 have hz1:w1.heap.size<w2.heap.size:=by have:=hb2.size;simp at this;omega
 have c0:w2.cell? ⟨w1.heap.size,0,none⟩=some (.slice ag gs cg):=(hb2.cell (by simp)).trans (by simp)
 have c1:w2.cell? ⟨w1.heap.size,1,none⟩=some (.slice at' ts ct):=(hb2.cell (by simp)).trans (by simp)
 have c2:w2.cell? ⟨w1.heap.size,2,none⟩=some (.int .i64 ng):=(hb2.cell (by simp)).trans (by simp)
 have hb02:Below w.heap.size w w2:=((((Below.refl _ _).alloc (Nat.le_refl _) _).trans (hb1.mono (by simp))).alloc (by have:=hb1.size;simp at this;omega) _).trans (hb2.mono (by have:=hb1.size;simp at this;simp;omega))
 have hlay2:=(hlay.below ((Below.refl w1.heap.size w1).alloc (Nat.le_refl _) _) (Nat.le_refl _)).below hb2 (Nat.le_refl _)
 clear hlay hb1 hb2
 refine (checkTape_ok tape need _ htp).mono ?_
 rintro e w2' ⟨rfl,rfl⟩
 have d0:∀c t,(w2'.alloc (.cells c t)).cell? ⟨w1.heap.size,0,none⟩=some (.slice ag gs cg):=fun c t=>(((Below.refl w2'.heap.size w2').alloc (Nat.le_refl _) (.cells c t)).cell (by exact hz1)).trans c0
 go_wp2_with fail
 have hba:=(Below.refl w2'.heap.size w2').alloc (Nat.le_refl _) (.cells #[.slice ag gs cg,.slice at' ts ct] 179)
 have hlg:(bs (Cof.groupAt mode t l)).length=gs:=by
  rw [bs_length,←HG.out];unfold Cof.groupAt Cof.gsize;split<;>simp [Cof.length_run]
 have hlt:(bs (Cof.tapeAt mode t)).length=ts:=by
  rw [bs_length,←HT.out];unfold Cof.tapeAt Cof.tsize;split<;>simp [Cof.length_run]
 refine (concatE w2'.heap.size gs cg ts ct ag at' (bs (Cof.groupAt mode t l)) (bs (Cof.tapeAt mode t)) _ (by simp) (by simp) (by simp) (by exact hlay2.g.below hba (Nat.le_refl _)) (by exact hlay2.t.below hba (Nat.le_refl _)) hlg hlt hlay2.gz hlay2.tz (bs_one _) (bs_one _) (by omega) (by omega)).mono ?_
 rintro e w3 ⟨v3,rfl,hown3,hb3⟩
 obtain ⟨a3,cap3,rfl,hrd3⟩:=owns_any_rd hown3
 have hz3:w2'.heap.size<w3.heap.size:=by have:=hb3.size;simp at this;omega
 have e0:w3.cell? ⟨w1.heap.size,0,none⟩=some (.slice ag gs cg):=(hb3.cell (by simp;omega)).trans ((hba.cell (by exact hz1)).trans c0)
 have e1:w3.cell? ⟨w1.heap.size,1,none⟩=some (.slice at' ts ct):=(hb3.cell (by simp;omega)).trans ((hba.cell (by exact hz1)).trans c1)
 have e2:w3.cell? ⟨w1.heap.size,2,none⟩=some (.int .i64 ng):=(hb3.cell (by simp;omega)).trans ((hba.cell (by exact hz1)).trans c2)
 have hb03:Below w.heap.size w w3:=hb02.trans ((hba.mono hb02.size).trans (hb3.mono (by have:=hb02.size;simp;omega)))
 clear hown3 hba hb3 hlay2 hlg hlt d0 c0 c1 c2
 go_wp2_with fail
 go_region_held3 (fun w'=>w'.cell? ⟨w1.heap.size,0,none⟩=some (.slice ag gs cg)∧w'.cell? ⟨w1.heap.size,1,none⟩=some (.slice at' ts ct)∧w'.cell? ⟨w1.heap.size,2,none⟩=some (.int .i64 ng)) (first | exact ⟨(hb7.cell (by simp;omega)).trans ((hba.cell (by show w1.heap.size<w6.heap.size;omega)).trans k0),(hb7.cell (by simp;omega)).trans ((hba.cell (by show w1.heap.size<w6.heap.size;omega)).trans k1),(hb7.cell (by simp;omega)).trans ((hba.cell (by show w1.heap.size<w6.heap.size;omega)).trans k2)⟩|exact ⟨(hba.cell (by show w1.heap.size<w6.heap.size;omega)).trans k0,(hba.cell (by show w1.heap.size<w6.heap.size;omega)).trans k1,(hba.cell (by show w1.heap.size<w6.heap.size;omega)).trans k2⟩|exact ⟨k0,k1,k2⟩|exact ⟨j0,j1,j2⟩|exact ⟨i0,i1,i2⟩|go_keep)
  (first
   | (go_at_call_of 120 (Value.string v);refine (dealt_any v gs ng _ hgs hng).mono ?_;rintro e w4 ⟨g4,rfl,hr4,hb4⟩;obtain ⟨vs4,hx4,hq4⟩:=hr4.split;have l4:=hq4.1.trans (deal_length _ _ _);have HL4:=hid l4;clear l4 hr4;have z4:w3.heap.size≤w4.heap.size:=hb4.size;have i0:w4.cell? ⟨w1.heap.size,0,none⟩=some (.slice ag gs cg):=(hb4.cell (by show w1.heap.size<w3.heap.size;omega)).trans e0;have i1:w4.cell? ⟨w1.heap.size,1,none⟩=some (.slice at' ts ct):=(hb4.cell (by show w1.heap.size<w3.heap.size;omega)).trans e1;have i2:w4.cell? ⟨w1.heap.size,2,none⟩=some (.int .i64 ng):=(hb4.cell (by show w1.heap.size<w3.heap.size;omega)).trans e2)
   | (go_at_call 117;refine (tapeNeed_n ag at' gs cg ts ct ng need _ hts hng HQ.out).mono ?_;rintro e w5 ⟨rfl,hb5⟩;have z5:w4.heap.size≤w5.heap.size:=hb5.size;have j0:w5.cell? ⟨w1.heap.size,0,none⟩=some (.slice ag gs cg):=(hb5.cell (by show w1.heap.size<w4.heap.size;omega)).trans i0;have j1:w5.cell? ⟨w1.heap.size,1,none⟩=some (.slice at' ts ct):=(hb5.cell (by show w1.heap.size<w4.heap.size;omega)).trans i1;have j2:w5.cell? ⟨w1.heap.size,2,none⟩=some (.int .i64 ng):=(hb5.cell (by show w1.heap.size<w4.heap.size;omega)).trans i2)
   | (go_at_call 120;refine (dealt_any _ ts ng _ hts hng).mono ?_;rintro e w6 ⟨g6,rfl,hr6,hb6⟩;obtain ⟨vs6,hx6,hq6⟩:=hr6.split;have l6:=hq6.1.trans (deal_length _ _ _);have HL6:=hid l6;clear l6 hr6;have z6:w5.heap.size≤w6.heap.size:=hb6.size;have k0:w6.cell? ⟨w1.heap.size,0,none⟩=some (.slice ag gs cg):=(hb6.cell (by show w1.heap.size<w5.heap.size;omega)).trans j0;have k1:w6.cell? ⟨w1.heap.size,1,none⟩=some (.slice at' ts ct):=(hb6.cell (by show w1.heap.size<w5.heap.size;omega)).trans j1;have k2:w6.cell? ⟨w1.heap.size,2,none⟩=some (.int .i64 ng):=(hb6.cell (by show w1.heap.size<w5.heap.size;omega)).trans j2;have hba:=(Below.refl w6.heap.size w6).alloc (Nat.le_refl _) (.cells #[.slice (some ⟨g4,0,none⟩) gs gs,.slice (some ⟨g6,0,none⟩) ts ts] 73);have hb46:Below w4.heap.size w4 w6:=hb5.trans (hb6.mono z5))
   | (go_at_call 119;refine (concatR w6.heap.size gs gs ts ts (some ⟨g4,0,none⟩) (some ⟨g6,0,none⟩) vs4 vs6 _ (by simp) (by simp) (by simp) (by exact (hx4.below hb46 (Nat.le_refl _)).below hba (Nat.le_refl _)) (by exact hx6.below hba (Nat.le_refl _)) HL4.out HL6.out (fun h=>by cases h) (fun h=>by cases h) hq4.one hq6.one (by omega) (by omega)).mono ?_;rintro e w7 ⟨v7,rfl,hown7,hb7⟩;obtain ⟨a7,cap7,rfl,hrd7⟩:=owns_any_rd hown7;have z7:w6.heap.size<w7.heap.size:=by have:=hb7.size;simp at this;omega))
 have hrows7:RowsAt w7 (vs4++vs6) (Cof.deal v.data.toList gs ng++Cof.deal _ ts ng):=(((hq4.below hb46 (Nat.le_refl _)).below hba (Nat.le_refl _)).below hb7 (Nat.le_refl _)).append ((hq6.below hba (Nat.le_refl _)).below hb7 (Nat.le_refl _))
 have hb37:Below w3.heap.size w3 w7:=(((Below.refl _ _).drew).trans hb4).trans ((hb46.mono z4).trans ((hba.mono (by omega)).trans (hb7.mono (by simp;omega))))
 clear hown7 hx4 hx6 hq4 hq6 i0 i1 i2 j0 j1 j2 k0 k1 k2 e0 e1 e2 hba hb7 hb46 hb4 hb5 hb6
 have HR7:=hid hrows7
 clear hrows7
 go_wp2_with fail
 refine (run_any 1 n _ (by omega)).mono ?_
 rintro e w8 ⟨g8,rfl,hrd8,hb8,_⟩
 have hfrm:Rd w8 a3 (bs (Cof.groupAt mode t l++Cof.tapeAt mode t)):=by
  have:=(hrd3.below hb37 (Nat.le_refl _)).below hb8 (Nat.le_refl _)
  simpa [bs] using this
 have hlg:(Cof.groupAt mode t l).length=gs:=by
  rw [←HG.out];unfold Cof.groupAt Cof.gsize;split<;>simp [Cof.length_run]
 have hlt:(Cof.tapeAt mode t).length=ts:=by
  rw [←HT.out];unfold Cof.tapeAt Cof.tsize;split<;>simp [Cof.length_run]
 have hrw:RdRows w8 a7 (Cof.deal v.data.toList gs ng++Cof.deal (tape.extract 0 need).data.toList ts ng):=RdRows.below ⟨_,HR7.out.1,hrd7,HR7.out.2⟩ hb8 (Nat.le_refl _)
 have hm1:gs*ng≤8*60:=Nat.mul_le_mul hgs hng
 have hm2:ts*ng≤8*60:=Nat.mul_le_mul hts hng
 have hlen:∀k,((Cof.deal v.data.toList gs ng++Cof.deal (tape.extract 0 need).data.toList ts ng).getD k []).length≤500:=by
  intro k
  rcases Nat.lt_or_ge k gs with hk | hk
  ·rw [List.getD_eq_getElem?_getD,List.getElem?_append_left (by rw [deal_length];exact hk)]
   simp only [Cof.deal,List.getElem?_map,List.getElem?_range hk,Option.map_some,Option.getD_some]
   exact Nat.le_trans (dealRow_le _ _ _ _) (by omega)
  ·rw [List.getD_eq_getElem?_getD,List.getElem?_append_right (by rw [deal_length];exact hk),deal_length]
   rcases Nat.lt_or_ge (k-gs) ts with hk2 | hk2
   ·simp only [Cof.deal,List.getElem?_map,List.getElem?_range hk2,Option.map_some,Option.getD_some]
    exact Nat.le_trans (dealRow_le _ _ _ _) (by omega)
   ·rw [List.getElem?_eq_none (by rw [deal_length];exact hk2)];simp
 have HLG:=hid hlg
 have HLT:=hid hlt
 clear hm1 hm2 hlg hlt
 go_wp2_with fail
 refine (carried_any a3 a7 _ (gs+ts) cap3 (gs+ts) cap7 n n (Cof.groupAt mode t l++Cof.tapeAt mode t) (Cof.run 1 n) (Cof.deal v.data.toList gs ng++Cof.deal (tape.extract 0 need).data.toList ts ng) _ (by rw [List.length_append,HLG.out,HLT.out]) (by rw [List.length_append,deal_length,deal_length]) (by rw [Cof.length_run]) hfrm hrw hrd8 (by omega) (Nat.le_refl _) (by omega) hlen).mono ?_
 rintro e w9 ⟨g9,rfl,hrd9,hb9,vs9,hown9⟩
 have HOW9:=hid hown9
 clear hown9
 have HE:Hid (Cof.split v.data.toList mode t l n tape.data.toList=Cof.carry (Cof.groupAt mode t l++Cof.tapeAt mode t) (Cof.deal v.data.toList gs ng++Cof.deal (tape.extract 0 need).data.toList ts ng) (Cof.run 1 n)):=by
  have e1:v.data.toList.length=v.size:=rfl
  have e2:(tape.extract 0 need).data.toList=tape.data.toList.take need:=by simp
  show Cof.split _ _ _ _ _ _=_
  unfold Cof.split
  rw [e1,HN.out,HG.out,HT.out,HQ.out,e2]
 have hs37:=hb37.size
 have hs8:=hb8.size
 go_wp2
 go_ret2
 exact ⟨_,rfl,by rw [HE.out];exact hrd9,hb03.trans ((hb37.mono hb03.size).trans ((hb8.mono (by have:=hb03.size;omega)).trans (hb9.mono (by have:=hb03.size;omega)))),_,owns_base HOW9.out (by have:=hb03.size;omega)⟩
def rowV (F:Nat→Value) (z:Value) (n k:Nat):List Value:=(List.range n).map fun i=>if i<k then F i else z
theorem rowV_zero (F:Nat→Value) (z:Value) (n:Nat):rowV F z n 0=List.replicate n z:=by
 apply List.ext_getElem
 ·simp [rowV]
 ·intro i h1 h2;simp [rowV]
theorem rowV_full (F:Nat→Value) (z:Value) (n:Nat):rowV F z n n=(List.range n).map F:=by
 apply List.map_congr_left
 intro i hi
 simp [List.mem_range.1 hi]
theorem rowV_set (F:Nat→Value) (z:Value) (n k:Nat):(rowV F z n k).set k (F k)=rowV F z n (k+1):=by
 apply List.ext_getElem
 ·simp [rowV]
 ·intro i h1 h2
  simp only [List.getElem_set]
  split
  ·rename_i h;subst h;simp [rowV]
  ·rename_i h
   simp only [rowV,List.getElem_map,List.getElem_range]
   by_cases hi:i<k
   ·simp [hi,show i<k+1 from by omega]
   ·simp [hi,show ¬i<k+1 from by omega]
theorem rowV_at (F:Nat→Value) (z:Value) (n k:Nat) (h:k<n):(rowV F z n k)[k]?=some z:=by simp [rowV,h]
def str (r:List UInt8):Value:=.string ⟨r.toArray⟩
def strs (rows:List (List UInt8)):List Value:=rows.map str
theorem Tryz.infoS:(Tryz.prog.info? 9).map (fun i=>(i.zero,i.size,i.bytes))=some (some (.string ByteArray.empty),1,16):=by kernel_rfl
theorem made_strs {w w1:World} {e:TypeId} {n:Nat} (F:Nat→Value) (h:w1.ownsRow w.heap.size e 1 (.slice (some ⟨w.heap.size,0,none⟩) n n) n (madeCells (Value.string ByteArray.empty).cells (n*1)).toList) :
  w1.ownsRow w.heap.size e 1 (.slice (some ⟨w.heap.size,0,none⟩) n n) n (rowV F (.string ByteArray.empty) n 0):=by
 have e:(madeCells (Value.string ByteArray.empty).cells (n*1)).toList=rowV F (.string ByteArray.empty) n 0:=by
  rw [Nat.mul_one,rowV_zero]
  show (madeCells #[Value.string ByteArray.empty] n).toList=_
  rw [toList_madeCells_one]
 rw [e] at h;exact h
theorem split_length (v:List UInt8) (mode t l n:Nat) (tape:List UInt8):(Cof.split v mode t l n tape).length=n:=by simp [Cof.split,Cof.carry,Cof.run]
set_option maxRecDepth 100000 in
set_option maxHeartbeats 1000000 in
theorem texts_any (ao:Option Addr) (n c:Nat) (rows:List (List UInt8)) (w:World) (hr:RdRows w ao rows) (hl:rows.length=n) (hn:n≤8) :
  Calls Tryz.prog 33 #[.slice ao n c] w fun e w' =>
   ∃g,e=.returned (.slice (some ⟨g,0,none⟩) n n)∧w'.ownsRow w.heap.size 9 1 (.slice (some ⟨g,0,none⟩) n n) n (strs rows)∧Below w.heap.size w w':=by
 obtain ⟨i0,hi,hz0,hz1,hz2⟩:=info_parts Tryz.infoS
 have HRL:=hid hl
 have HRD:=hid hr
 clear hl hr
 go_enter Tryz.func33,Tryz.ntmps33
 go_wp2_with (first | (at_make;refine wpList_make_full _ rfl (.tmp 7) (.tmp 7) 35 rfl w.heap.size 9 i0 (.string ByteArray.empty) 1 Tryz.underlying35 hi hz0 hz1 .i64 .i64 _ _ n rfl rfl rfl rfl (by rw [hz2];omega) (by unfold maxLen;omega) (Nat.le_refl _) ?_;intro w2 hown2 hgrow2;have hb2:=grown_below hgrow2;have HO2:=hid (made_strs (fun i=>str (rows.getD i [])) hown2);clear hown2 hgrow2)|fail)
 go_loopw [11] (fun i wr=>∃k:Nat,k≤n∧i=.int .i64 k∧wr.ownsRow w.heap.size 9 1 (.slice (some ⟨w.heap.size,0,none⟩) n n) n (rowV (fun i=>str (rows.getD i [])) (.string ByteArray.empty) n k)∧Below w.heap.size w wr)
  (fun i _=>n-(intOf i).toNat)
 case atStart=>exact ⟨0,Nat.zero_le _,rfl,HO2.out,hb2⟩
 case round =>
  obtain ⟨k,hk,rfl,hown,hbel⟩:=hrel
  by_cases hlt:k<n
  ·obtain ⟨b,o,a',c',rfl,hbb,hc,hrk⟩:=(HRD.out.below hbel (Nat.le_refl _)).at k (by rw [HRL.out];exact hlt)
   have hconv:=conv_string wr a' c' _ _ rfl hrk
   obtain ⟨m,hm⟩:∃m,m=(rows.getD k []).length:=⟨_,rfl⟩
   rw [←hm] at hc hconv
   have hs:=hown.frozenAt k
   have hcell:wr.cell? ⟨w.heap.size,k,none⟩=some (.string ByteArray.empty):=by rw [hown.cellAt k (by omega),rowV_at _ _ _ _ hlt]
   have hst:=(hown.stored k (str (rows.getD k []))).1
   rw [rowV_set (fun i=>str (rows.getD i []))] at hst
   have HST:=hid hst
   have HM:=hid hm
   have hlt':(k:Int)<(n:Int):=by omega
   clear hst hm hown hrk
   unfold str at HST
   generalize (⟨(rows.getD k []).toArray⟩:ByteArray)=bk at *
   go_wp2
   go_roundw
   case rel=>exact ⟨k+1,by omega,by go_num,HST.out,hbel.setCell (Nat.le_refl _) _⟩
   case measure=>simp [intOf];omega
  ·have hkn:k=n:=by omega
   subst hkn
   have e:strs rows=rowV (fun i=>str (rows.getD i [])) (.string ByteArray.empty) k k:=by
    rw [rowV_full]
    apply List.ext_getElem
    ·simp [strs,HRL.out]
    ·intro i h1 h2
     simp [strs] at h1 ⊢
     simp [h1]
   rw [←e] at hown
   have HO:=hid hown
   clear hown e
   go_wp2
   go_ret
   exact ⟨_,rfl,HO.out,hbel⟩
def pickN (c:Int) (n:Nat):Nat:=(if c<0 then -(c+1) else c).toNat % n
theorem pickN_lt (c:Int) (n:Nat) (h:0<n):pickN c n<n:=Nat.mod_lt _ h
theorem pick_neg {c:Int} {n:Nat} (h:c<0):(-(c+1)).tmod (n:Int)=(pickN c n:Int):=by
 unfold pickN
 rw [if_pos h,Int.tmod_eq_emod_of_nonneg (by omega)]
 have:(((-(c+1)).toNat:Nat):Int)=-(c+1):=by omega
 rw [Int.natCast_emod,this]
theorem pick_pos {c:Int} {n:Nat} (h:¬c<0):c.tmod (n:Int)=(pickN c n:Int):=by
 unfold pickN
 rw [if_neg h,Int.tmod_eq_emod_of_nonneg (by omega)]
 have:((c.toNat:Nat):Int)=c:=by omega
 rw [Int.natCast_emod,this]
set_option maxRecDepth 100000 in
set_option maxHeartbeats 400000 in
theorem pick_any (c:Int) (n:Nat) (w:World) (h1:-9223372036854775808≤c) (h2:c≤9223372036854775807) (hn:0<n) (hm:n≤1000) :
  Calls Tryz.prog 5 #[.int .i64 c,.int .i64 n] w fun e w'=>e=.returned (.int .i64 (pickN c n))∧w'=w:=by
 have hn0:n≠0:=by omega
 by_cases hc:c<0
 ·go_enter Tryz.func5,Tryz.ntmps5
  go_wp2
  go_ret
  exact ⟨ret_int (by rw [←pick_neg hc,Int.neg_tmod]),rfl⟩
 ·go_enter Tryz.func5,Tryz.ntmps5
  go_wp2
  go_ret
  exact ⟨ret_int (by rw [←pick_pos (by omega),Int.tmod_eq_emod_of_nonneg (by omega)]),rfl⟩
set_option maxRecDepth 100000 in
set_option maxHeartbeats 400000 in
theorem keepGroups_any (mode t l n size:Nat) (w:World) (h:IsPlan mode t l n) (hs:size≤60) :
  Calls Tryz.prog 47 #[.agg #[.int .i64 mode,.int .i64 t,.int .i64 l],.int .i64 size] w fun e w'=>e=.returned (.int .i64 (Cof.ngroups mode t l size))∧Below w.heap.size w w':=by
 obtain ⟨h1,h2,h3,h4,h5,h6⟩:=h
 rcases h6 with ⟨rfl,h6⟩|⟨rfl,rfl⟩
 ·go_enter Tryz.func47,Tryz.ntmps47
  go_wp2
  go_ret
  refine ⟨ret_int ?_,(Below.refl _ _).alloc (Nat.le_refl _) _⟩
  simp only [Cof.ngroups,Cof.gsize]
  have:((size+l-1:Nat):Int)=(size:Int)+l-1:=by omega
  simp only [show ¬(0=1) from by decide,if_false]
  rw [Int.natCast_ediv,this]
 ·go_enter Tryz.func47,Tryz.ntmps47
  go_wp2
  go_ret
  refine ⟨ret_int ?_,(Below.refl _ _).alloc (Nat.le_refl _) _⟩
  simp only [Cof.ngroups,Cof.gsize]
  have:((size+t-1:Nat):Int)=(size:Int)+t-1:=by omega
  simp only [if_true]
  rw [Int.natCast_ediv,this]
set_option maxRecDepth 100000 in
set_option maxHeartbeats 400000 in
theorem short_any (s:ByteArray) (n:Nat) (w:World) (hn:n≤1000) :
  Calls Tryz.prog 27 #[.string s,.int .i64 n] w fun e w'=>e=.returned (.string (s.extract 0 n))∧w'=w:=by
 by_cases h:n<s.size
 ·go_enter Tryz.func27,Tryz.ntmps27
  go_wp2
  go_ret
  exact ⟨rfl,rfl⟩
 ·have e:s.extract 0 n=s:=by
   apply ByteArray.ext;simp [ByteArray.data_extract]
   have:s.data.size=s.size:=rfl
   omega
  have E:=hid e
  clear e
  go_enter Tryz.func27,Tryz.ntmps27
  go_wp2
  go_ret
  exact ⟨by rw [E.out];rfl,rfl⟩
def pMode (m:Int):Nat:=pickN m 2
def pT (t:Int) (n:Nat):Nat:=1+pickN t n
def pL (m t l:Int) (n:Nat):Nat:=if pMode m=0 then 1+pickN l (n-pT t n+1) else 1
theorem plan_is (m t l:Int) (n:Nat) (h1:1≤n) (h8:n≤8):IsPlan (pMode m) (pT t n) (pL m t l n) n:=by
 have hm:pMode m<2:=pickN_lt _ _ (by omega)
 have ht:pickN t n<n:=pickN_lt _ _ (by omega)
 have hl:pickN l (n-pT t n+1)<n-pT t n+1:=pickN_lt _ _ (by omega)
 have hT:pT t n=1+pickN t n:=rfl
 refine ⟨h1,h8,by omega,by omega,?_,?_⟩
 ·unfold pL;split<;>omega
 ·unfold pL;split<;>omega
def I64 (c:Int):Prop:=-9223372036854775808≤c∧c≤9223372036854775807
set_option maxRecDepth 100000 in
set_option maxHeartbeats 1000000 in
theorem plan_any (m t l:Int) (n:Nat) (w:World) (hm:I64 m) (ht:I64 t) (hl:I64 l) (h1:1≤n) (h8:n≤8) :
  Calls Tryz.prog 26 #[.agg #[.int .i64 m,.int .i64 t,.int .i64 l],.int .i64 n] w fun e w'=>e=.returned (.agg #[.int .i64 (pMode m),.int .i64 (pT t n),.int .i64 (pL m t l n)])∧Below w.heap.size w w':=by
 have hm2:pickN m 2<2:=pickN_lt _ _ (by omega)
 have ht2:pickN t n<n:=pickN_lt _ _ (by omega)
 go_enter Tryz.func26,Tryz.ntmps26
 go_wp2
 generalize hM:pickN m 2=M at *
 generalize hT:pickN t n=T at *
 have HM:=hid hM
 have HT:=hid hT
 clear hM hT
 have hw:IntKind.i64.wrap (1+(T:Int))=1+(T:Int):=by rw [IntKind.wrap_i64];omega
 go_region_held3 (fun w'=>w'.cell? ⟨w.heap.size,0,none⟩=some (.int .i64 m)∧w'.cell? ⟨w.heap.size,1,none⟩=some (.int .i64 t)) (go_keep)
  (first
   | (go_at_call_of 5 (Value.int .i64 m);refine (pick_any m 2 _ hm.1 hm.2 (by omega) (by omega)).mono ?_;rintro e w1 ⟨rfl,rfl⟩;rw [HM.out])
   | (go_at_call_of 5 (Value.int .i64 t);refine (pick_any t n _ ht.1 ht.2 (by omega) (by omega)).mono ?_;rintro e w1 ⟨rfl,rfl⟩;rw [HT.out]))
 all_goals
  obtain ⟨N,hN⟩:∃N,N=n-T:=⟨_,rfl⟩
  have hNi:(n:Int)-(1+(T:Int))+1=(N:Int):=by omega
  have hN1:0<N:=by omega
  have hN8:N≤8:=by omega
  have HNN:=hid hN
  have hL2:pickN l N<N:=pickN_lt _ _ hN1
  clear hN
  rcases (show M=0∨M=1 from by omega) with rfl | rfl
  ·go_wp2_with fail
   refine (pick_any l N _ hl.1 hl.2 (by omega) (by omega)).mono ?_
   rintro e w2 ⟨rfl,rfl⟩
   generalize hLL:pickN l N=L at *
   have HLL:=hid hLL
   clear hLL
   go_wp2
   refine bodyPost_ret (v:=.agg #[.int .i64 (0:Nat),.int .i64 ((1+T:Nat):Int),.int .i64 ((1+L:Nat):Int)]) ?_ rfl ⟨?_,?_⟩
   ·simp [results,Tryz.results26,go_sem]
   ·have e1:pMode m=0:=HM.out
    have e2:pT t n=1+T:=by unfold pT;rw [HT.out]
    have e3:pL m t l n=1+L:=by
     unfold pL;rw [if_pos e1,e2,show n-(1+T)+1=N from by rw [HNN.out];omega,HLL.out]
    rw [e1,e2,e3]
   ·repeat (first | exact Below.refl _ _ | refine Below.drew ?_ | refine Below.setCell ?_ (by simp;try omega) _ | refine Below.alloc ?_ (by simp;try omega) _)
  ·go_wp2_with fail
   refine bodyPost_ret (v:=.agg #[.int .i64 (1:Nat),.int .i64 ((1+T:Nat):Int),.int .i64 (1:Nat)]) ?_ rfl ⟨?_,?_⟩
   ·simp [results,Tryz.results26,go_sem]
   ·have e1:pMode m=1:=HM.out
    have e2:pT t n=1+T:=by unfold pT;rw [HT.out]
    have e3:pL m t l n=1:=by
     unfold pL;rw [if_neg (by omega)]
    rw [e1,e2,e3]
   ·repeat (first | exact Below.refl _ _ | refine Below.drew ?_ | refine Below.setCell ?_ (by simp;try omega) _ | refine Below.alloc ?_ (by simp;try omega) _)
end Go.Proofs.YtcegdgmbponapabGreatDoor