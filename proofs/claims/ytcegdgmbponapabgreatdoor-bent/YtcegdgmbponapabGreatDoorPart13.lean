/-
  A row as the whole of its block: the elements, and what is behind them.
  copy of elements of whatever size.
  A record for each store that says which object is meant.
  A region that draws its order, whose operations may write each into blocks of its own, and into slots that were read.
-/
import Derived.Test.YtcegdgmbponapabGreatDoorPart12
import Derived.Test.YtcegdgmbponapabGreatDoorMul
namespace Go.Proofs.YtcegdgmbponapabGreatDoor
open Go.RowKit
theorem owns_split {w:World} {base g n c size:Nat} {e:TypeId} {L:List Value} (h:w.ownsRow base e size (.slice (some ⟨g,0,none⟩) n c) n L) :
  ∃tl,w.heap[g]?=some (.cells (L++tl).toArray e)∧L.length=n*size∧(L++tl).length=c*size∧n≤c∧c≤maxLen∧base≤g:=by
 obtain ⟨h1,⟨hx,_⟩|⟨g',cap,cur,hv,h3,h4,h5,h6,h7,h8⟩⟩:=h
 ·cases hx
 ·cases hv
  refine ⟨cur.toList.drop (n*size),?_,h1,?_,h5,h6,h3⟩
  ·rw [←h8,List.take_append_drop];exact h4
  ·rw [←h8,List.take_append_drop,Array.length_toList];exact h7
theorem owns_join {w:World} {base g n c size:Nat} {e:TypeId} {L tl:List Value} (h:w.heap[g]?=some (.cells (L++tl).toArray e)) (h1:L.length=n*size) (h2:(L++tl).length=c*size) (h3:n≤c) (h4:c≤maxLen) (h5:base≤g) :
  w.ownsRow base e size (.slice (some ⟨g,0,none⟩) n c) n L :=
 ⟨h1,.inr ⟨g,c,(L++tl).toArray,rfl,h5,h,h3,h4,by simpa using h2,by simp [←h1]⟩⟩
def over (L:List Value) (o:Nat) (vs:List Value):List Value:=L.take o++vs++L.drop (o+vs.length)
theorem over_length (L:List Value) (o:Nat) (vs:List Value) (h:o+vs.length≤L.length):(over L o vs).length=L.length:=by
 simp [over];omega
theorem over_cons (L:List Value) (o:Nat) (v:Value) (vs:List Value) (h:o+(vs.length+1)≤L.length):over (L.set o v) (o+1) vs=over L o (v :: vs):=by
 unfold over
 rw [List.take_set,List.drop_set_of_lt (by omega),List.length_cons,show o+1+vs.length=o+(vs.length+1) by omega]
 congr 1
 rw [show L.take (o+1)=L.take o++[L[o]'(by omega)] from (List.take_append_getElem (by omega)).symm,List.set_append_right _ _ (by simp;omega)]
 simp [Nat.min_eq_left (show o≤L.length by omega)]
theorem setCells_heap (g:Nat) (e:TypeId):∀(vs:List Value) (o:Nat) (L:List Value) (w:World),w.heap[g]?=some (.cells L.toArray e)→o+vs.length≤L.length→(w.setCells g o vs).heap[g]?=some (.cells (over L o vs).toArray e)
 | [],o,L,w,h,_=>by simp [World.setCells,over,h]
 | v :: vs,o,L,w,h,hle=>by
  rw [List.length_cons] at hle
  have h1:(w.setCell ⟨g,o,none⟩ v).heap[g]?=some (.cells (L.set o v).toArray e):=by
   rw [cells_set v h];simp
  rw [World.setCells,setCells_heap g e vs (o+1) (L.set o v) _ h1 (by simp;omega),over_cons L o v vs hle]
theorem setCells_spared (own:Nat→Prop) (g:Nat) (hg:own g):∀(vs:List Value) (o:Nat) (w:World),Spared own w (w.setCells g o vs)
 | [],_,_=>Spared.refl _ _
 | v :: vs,o,w=>((Spared.refl own w).setCell (p:=⟨g,o,none⟩) hg v).trans (setCells_spared own g hg vs (o+1) _)
theorem block_cell {w:World} {g k:Nat} {L:List Value} {e:TypeId} (h:w.heap[g]?=some (.cells L.toArray e)):w.cell? ⟨g,k,none⟩=L[k]?:=by rw [cells_at h];simp
theorem block_some {w:World} {g k:Nat} {L:List Value} {e:TypeId} (h:w.heap[g]?=some (.cells L.toArray e)) (hk:k<L.length):(w.cell? ⟨g,k,none⟩).isSome=true:=by rw [block_cell h,List.getElem?_eq_getElem hk];rfl
theorem owns_tail {w:World} {base g n c size m:Nat} {e:TypeId} {L:List Value} (h:w.ownsRow base e size (.slice (some ⟨g,0,none⟩) n c) n L) (hm:m≤n) (vs:List Value) (hvs:m*size+vs.length≤c*size) :
  (w.setCells g (m*size) vs).ownsRow base e size (.slice (some ⟨g,0,none⟩) m c) m (L.take (m*size)):=by
 obtain ⟨tl,h1,h2,h3,h4,h5,h6⟩:=owns_split h
 have hms:m*size≤n*size:=Nat.mul_le_mul_right size hm
 have hh:=setCells_heap g e vs (m*size) (L++tl) w h1 (by rw [h3];exact hvs)
 unfold over at hh
 rw [List.append_assoc,List.take_append_of_le_length (by omega)] at hh
 refine owns_join hh (by simp;omega) ?_ (by omega) h5 h6
 have:=over_length (L++tl) (m*size) vs (by rw [h3];exact hvs)
 unfold over at this
 rw [List.append_assoc,List.take_append_of_le_length (by omega)] at this
 rw [this,h3]
theorem run_copy_any {P:Program} (w:World) (dT sT ty elem:TypeId) (i:TypeInfo) (b o dLen dCap:Nat) (sp:Option Addr) (sLen sCap:Nat) (cs:List Value)
  (hu:P.underlying dT=some (.slice elem)) (hi:P.info? elem=some i) (hn:cs.length=Nat.min sLen dLen*i.size) (hsp:sp=none→cs=[])
  (hsrc:∀a,sp=some a→∀j v,cs[j]?=some v→w.cell? (a.add j)=some v) (hc:∀j,j<cs.length→(w.cell? ⟨b,o+j,none⟩).isSome=true) (hf:∀j,j<cs.length→w.frozen? ⟨b,o+j,none⟩=false) (h1:∀v∈cs,v.oneCell'=true) :
  (Builtin.copy_ #[dT,sT] ty #[.slice (some ⟨b,o,none⟩) dLen dCap,.slice sp sLen sCap]).run P w=.ok (goInt (Nat.min sLen dLen)) (w.setCells b o cs):=by
 have hst:=run_storeCells_cells (P:=P) b o cs 0 w (by simpa using hc) (by simpa using hf) h1
 cases sp with
 | none =>
  obtain rfl:=hsp rfl
  simp [Builtin.copy_,run_underlying hu,Builtin.lenOf,Builtin.firstCells,sizeOf,typeInfo,hi,storeCells,World.setCells]
 | some a =>
  have hl:=run_firstCells_some (P:=P) w i.size (Nat.min sLen dLen) a sLen sCap cs hn (hsrc a rfl)
  simp only [Nat.add_zero] at hst
  simp [Builtin.copy_,run_underlying hu,Builtin.lenOf,sizeOf,typeInfo,hi,hl,hst]
end Go.Proofs.YtcegdgmbponapabGreatDoor
namespace Go.Proofs.YtcegdgmbponapabGreatDoor
open Go.RowKit
attribute [local go_sem ↓] Go.wp_at_zero Go.wp_at_succ
theorem recs_append (a b:List RecV):recs (a++b)=recs a++recs b:=by simp [recs]
structure Rep (w:World) (base g n k:Nat) (r:RecV):Prop where
 k1:1≤k
 kn:k≤n
 hb:base≤g
 hp:∃rest:List RecV,rest.length=n-k∧w.heap[g]?=some (.cells (recs (List.replicate k r++rest)).toArray 127)
theorem over_rep (r:RecV) (k m:Nat) (rest:List RecV) (hm:m≤rest.length):over (recs (List.replicate k r++rest)) (k*8) (recs (List.replicate m r))=recs (List.replicate (k+m) r++rest.drop m):=by
 unfold over
 have h1:(recs (List.replicate k r)).length=k*8:=by rw [recs_length,List.length_replicate]
 have h2:(recs (List.replicate m r)).length=m*8:=by rw [recs_length,List.length_replicate]
 rw [recs_append,←h1,List.take_left,h2,←List.drop_drop,List.drop_left,←List.replicate_append_replicate,List.append_assoc,List.append_assoc (List.replicate k r),recs_append (List.replicate k r),recs_append (List.replicate m r)]
 congr 1
 congr 1
 conv=>lhs;rw [←List.take_append_drop m rest,recs_append]
 have h3:(recs (rest.take m)).length=m*8:=by rw [recs_length,List.length_take,Nat.min_eq_left hm]
 rw [←h3,List.drop_left]
theorem rep_first (w1 w2:World) (b n:Nat) (r:RecV) (i0:TypeInfo) (hi:Tryz.prog.info? 127=some i0) (hz1:i0.size=8) (hn1:1≤n) (L:List Value) (hO:w2.ownsRow w1.heap.size 127 8 (.slice (some ⟨w1.heap.size,0,none⟩) n n) n L) (hb:Below w1.heap.size w1 w2) (hH:∀j v,r.cells[j]?=some v→w1.cell? ⟨b,j,none⟩=some v) (hbl:b<w1.heap.size) :
  ∀ty,(Builtin.copy_ #[98,98] ty #[.slice (some ⟨w1.heap.size,0,none⟩) n n,.slice (some ⟨b,0,none⟩) 1 1]).run Tryz.prog w2=.ok (.int .i64 1) (w2.setCells w1.heap.size 0 r.cells):=by
 intro ty
 have hm1:Nat.min 1 n=1:=Nat.min_eq_left hn1
 have hlen:r.cells.length=Nat.min 1 n*i0.size:=by rw [hz1,hm1];rfl
 have hl8:r.cells.length=8:=rfl
 have h1:=run_copy_any (P:=Tryz.prog) w2 98 98 ty 127 i0 w1.heap.size 0 n n (some ⟨b,0,none⟩) 1 1 r.cells Tryz.underlying98 hi hlen (fun h=>by cases h) (fun a ha j v hj=>by cases ha;rw [add_at,Nat.zero_add,hb.cell (p:=⟨b,j,none⟩) hbl];exact hH j v hj) (fun j hj=>by
  rw [Nat.zero_add,hO.cellAt j (by omega),List.getElem?_eq_getElem (by have:=hO.1;omega)];rfl) (fun j _=>hO.frozenAt _) (fun v hv=>by simp [RecV.cells] at hv;rcases hv with rfl | rfl | rfl | rfl | rfl | rfl | rfl | rfl<;>rfl)
 rw [hm1] at h1
 exact h1
set_option maxRecDepth 100000 in
set_option maxHeartbeats 2000000 in
theorem repeat_any (b:Nat) (r:RecV) (n:Nat) (w:World) (hn1:1≤n) (hn8:n≤8) (h:∀j v,r.cells[j]?=some v→w.cell? ⟨b,j,none⟩=some v) (hbl:b<w.heap.size) :
  Calls Tryz.prog 97 #[.slice (some ⟨b,0,none⟩) 1 1,.int .i64 n] w fun e w' =>
   ∃g,e=.returned (.slice (some ⟨g,0,none⟩) n n)∧w.heap.size≤g∧w'.heap[g]?=some (.cells (recs (List.replicate n r)).toArray 127)∧Below w.heap.size w w':=by
 obtain ⟨i0,hi,hz0,hz1,hz2⟩:=info_parts Tryz.infoR
 have HM:=hid (Tryz.bits_Mul 1 n (by decide) (by omega) w)
 rw [show (1*n / 18446744073709551616:Nat)=0 by omega,show (1*n % 18446744073709551616:Nat)=n by omega] at HM
 have hn0:¬(n:Int)<0:=by omega
 have hnm:¬(9223372036854775807:Int)<(n:Int):=by omega
 have HH:=hid h
 clear h
 go_enter Tryz.func97,Tryz.ntmps97
 go_wp2_with fail
 refine HM.out.mono ?_
 rintro e w1 ⟨rfl,rfl⟩
 go_wp2_with (first | (at_make;refine wpList_make_full _ rfl (.tmp 29) (.tmp 29) 98 rfl w1.heap.size 127 i0 _ 8 Tryz.underlying98 hi hz0 hz1 .i64 .i64 _ _ n rfl rfl rfl rfl (by rw [hz2];omega) (by unfold maxLen;omega) (by simp) ?_;intro w2 hown2 hgrow2;(have HO2:=hid hown2);(have HG2:=hid hgrow2);clear hown2 hgrow2;(have hcp:=rep_first w1 w2 b n r i0 hi hz1 hn1 _ HO2.out ((Below.refl w1.heap.size w1).grown HG2.out (Nat.le_refl _) nofun) HH.out hbl))|fail)
 have hb12:Below w1.heap.size w1 w2:=(Below.refl _ _).grown HG2.out (Nat.le_refl _) nofun
 have HJ0:=hid (show Rep (w2.setCells w1.heap.size 0 r.cells) w1.heap.size w1.heap.size n 1 r from by
  have h2:=HO2.out
  rw [made_recs] at h2
  obtain ⟨tl,h3,h4,h5,_⟩:=owns_split h2
  have htl:tl=[]:=List.length_eq_zero_iff.1 (by rw [List.length_append,h4] at h5;omega)
  rw [htl,List.append_nil] at h3
  have h6:=setCells_heap w1.heap.size 127 r.cells 0 _ w2 h3 (by rw [recs_length,List.length_replicate];show 0+8≤_;omega)
  have h7:=over_rep r 0 1 (List.replicate n zeroRec) (by simpa using hn1)
  rw [List.replicate_zero,List.nil_append,Nat.zero_mul,show recs (List.replicate 1 r)=r.cells by simp [recs],Nat.zero_add] at h7
  rw [h7] at h6
  exact ⟨Nat.le_refl _,hn1,Nat.le_refl _,_,by simp,h6⟩)
 have HB0:=hid (show Below w1.heap.size w1 (w2.setCells w1.heap.size 0 r.cells) from hb12.trans ((setCells_spared (fun b=>b=w1.heap.size) w1.heap.size rfl r.cells 0 w2).below _ hb12.size (fun k hk=>by omega)))
 go_loopw [8] (fun u wr=>∃(k:Nat),u=.int .i64 k∧Rep wr w1.heap.size w1.heap.size n k r∧Below w1.heap.size w1 wr) (fun u _=>n-(intOf u).toNat)
 case atStart=>exact ⟨1,rfl,HJ0.out,HB0.out⟩
 case round =>
  obtain ⟨k,rfl,hrep,hbr⟩:=hrel
  obtain ⟨hk1,hkn,_,rest,hrl,hh⟩:=hrep
  by_cases hlt:k<n
  ·have hlt':(k:Int)<(n:Int):=by omega
   have hkc:¬n=k:=by omega
   obtain ⟨m,hm⟩:∃m,m=Nat.min k (n-k):=⟨_,rfl⟩
   have hm1:1≤m:=by rw [hm];show 1≤min k (n-k);omega
   have hm2:m≤k∧m≤n-k:=by rw [hm];show min k (n-k)≤k∧min k (n-k)≤n-k;omega
   have hlen:(recs (List.replicate m r)).length=Nat.min k (n-k)*i0.size:=by rw [recs_length,List.length_replicate,hz1,hm]
   have hwl:(recs (List.replicate k r++rest)).length=n*8:=by rw [recs_length,List.length_append,List.length_replicate,hrl];omega
   have hcp:∀ty,(Builtin.copy_ #[98,98] ty #[.slice (some ⟨w1.heap.size,k*8,none⟩) (n-k) (n-k),.slice (some ⟨w1.heap.size,0,none⟩) k n]).run Tryz.prog wr.drew=.ok (.int .i64 (m:Int)) (wr.drew.setCells w1.heap.size (k*8) (recs (List.replicate m r))):=fun ty=>by
    have h1:=run_copy_any (P:=Tryz.prog) wr.drew 98 98 ty 127 i0 w1.heap.size (k*8) (n-k) (n-k) (some ⟨w1.heap.size,0,none⟩) k n (recs (List.replicate m r)) Tryz.underlying98 hi hlen (fun h=>by cases h) (fun a ha j v hj=>by
     cases ha
     have hjm:j<m*8:=by
      rcases Nat.lt_or_ge j (m*8) with h | h
      ·exact h
      ·rw [List.getElem?_eq_none (by rw [recs_length,List.length_replicate];exact h)] at hj;cases hj
     rw [add_at,Nat.zero_add]
     show wr.cell? _=_
     rw [block_cell hh,recs_append,List.getElem?_append_left (by rw [recs_length,List.length_replicate];omega),←hj]
     rw [show List.replicate k r=List.replicate m r++List.replicate (k-m) r by rw [List.replicate_append_replicate];congr 1;omega,recs_append,List.getElem?_append_left (by rw [recs_length,List.length_replicate];exact hjm)]) (fun j hj=>by
     rw [recs_length,List.length_replicate] at hj
     exact block_some (w:=wr) hh (by rw [hwl];omega)) (fun j _=>cells_fz (w:=wr) hh) (fun v hv=>recs_one_cell _ v hv)
    rw [←hm] at h1
    exact h1
   have HJ:=hid (show Rep (wr.drew.setCells w1.heap.size (k*8) (recs (List.replicate m r))) w1.heap.size w1.heap.size n (k+m) r from by
    have h6:=setCells_heap w1.heap.size 127 (recs (List.replicate m r)) (k*8) _ wr.drew hh (by rw [hwl,recs_length,List.length_replicate];omega)
    rw [over_rep r k m rest (by omega)] at h6
    exact ⟨by omega,by omega,Nat.le_refl _,_,by rw [List.length_drop];omega,h6⟩)
   have HB:=hid (show Below w1.heap.size w1 (wr.drew.setCells w1.heap.size (k*8) (recs (List.replicate m r))) from hbr.drew.trans ((setCells_spared (fun b=>b=w1.heap.size) w1.heap.size rfl _ _ wr.drew).below _ hbr.size (fun k hk=>by omega)))
   have hsum:IntKind.i64.wrap ((k:Int)+(m:Int))=((k+m:Nat):Int):=by rw [IntKind.wrap_i64];omega
   clear hh hlen hwl hm
   go_wp2_with fail
   go_region
   go_wp2_with fail
   go_roundw
   case rel=>exact ⟨k+m,by go_num,HJ.out,HB.out⟩
   case measure=>simp [intOf];omega
  ·have hkn':k=n:=by omega
   subst hkn'
   have HH2:=hid (show wr.heap[w1.heap.size]?=some (.cells (recs (List.replicate k r)).toArray 127) from by
    rw [hh]
    rw [show rest=[] from List.length_eq_zero_iff.1 (by omega),List.append_nil])
   clear hh
   go_wp2_with fail
   go_ret
   exact ⟨_,rfl,Nat.le_refl _,HH2.out,hbr⟩
def RecV.bare (nm:ByteArray) (mode t l size epoch:Nat):RecV:=⟨nm,mode,t,l,size,epoch,none,0,0,none,0,0⟩
def evR (V n B bc W:Nat) (q:RecV):Nat→Value→World→Prop
 | 0,v,_=>v=.agg #[.string q.name,.int .i64 q.mode,.int .i64 q.t,.int .i64 q.l,.int .i64 q.size,.int .i64 q.epoch]
 | 1,v,_=>v=.agg #[.string q.name,.int .i64 q.mode,.int .i64 q.t,.int .i64 q.l,.int .i64 q.size,.int .i64 q.epoch,.slice none 0 0,.slice none 0 0]
 | 2,v,w=>∃b,v=.slice (some ⟨b,0,none⟩) 1 1∧b<w.heap.size∧∀j u,q.cells[j]?=some u→w.cell? ⟨b,j,none⟩=some u
 | 3,v,_=>v=.pointer (some ⟨V,0,none⟩)
 | 4,v,_=>v=.pointer (some ⟨V,0,none⟩)
 | 5,v,_=>v=.pointer (some ⟨V,1,none⟩)
 | 6,v,_=>v=.slice (some ⟨B,0,none⟩) n bc
 | 7,v,_=>v=.int .i64 n
 | 8,v,w=>∃g,v=.slice (some ⟨g,0,none⟩) n n∧W≤g∧w.heap[g]?=some (.cells (recs (List.replicate n q)).toArray 127)
 | 9,v,w=>∃g,v=.slice (some ⟨g,0,none⟩) n n∧W≤g∧w.heap[g]?=some (.cells (recs (List.replicate n q)).toArray 127)
 | _,_,_=>True
theorem evR_keeps (V n B bc W:Nat) (q:RecV) (j:Nat) (v:Value) (w w':World) (h:evR V n B bc W q j v w) (hb:Below w.heap.size w w'):evR V n B bc W q j v w':=by
 unfold evR at h ⊢
 split at h
 ·exact h
 ·exact h
 ·obtain ⟨b,h1,h2,h3⟩:=h
  exact ⟨b,h1,Nat.lt_of_lt_of_le h2 hb.size,fun j u hj=>(hb.cell h2).trans (h3 j u hj)⟩
 ·exact h
 ·exact h
 ·exact h
 ·exact h
 ·exact h
 ·obtain ⟨g,h1,h2,h3⟩:=h
  exact ⟨g,h1,h2,(hb.block g (cells_lt h3)).trans h3⟩
 ·obtain ⟨g,h1,h2,h3⟩:=h
  exact ⟨g,h1,h2,(hb.block g (cells_lt h3)).trans h3⟩
 ·trivial
def evSlot (i:Nat):Nat:=if i=9 then 4 else i+5
set_option maxRecDepth 100000 in
set_option maxHeartbeats 1000000 in
theorem everywhere_any (V key n B bc:Nat) (sp:Nat→Nat) (nm:ByteArray) (mode t l size epoch:Nat) (w:World) (h:Va w V key n B 0 bc sp) (hn1:1≤n) (hn8:n≤8) :
  Calls Tryz.prog 64 #[.pointer (some ⟨V,0,none⟩),.agg #[.string nm,.int .i64 mode,.int .i64 t,.int .i64 l,.int .i64 size,.int .i64 epoch]] w fun e w' =>
   ∃g,e=.returned (.slice (some ⟨g,0,none⟩) n n)∧w.heap.size≤g∧w'.heap[g]?=some (.cells (recs (List.replicate n (RecV.bare nm mode t l size epoch))).toArray 127)∧Below w.heap.size w w':=by
 have hba:=(Below.refl w.heap.size w).alloc (Nat.le_refl _) (.cells #[.string nm,.int .i64 mode,.int .i64 t,.int .i64 l,.int .i64 size,.int .i64 epoch] 65)
 have c1:=(h.keeps hba (Nat.le_refl _)).c1
 have hVl:=h.lt
 clear h
 go_enter Tryz.func64,Tryz.ntmps64
 go_wp2_with fail
 obtain ⟨w1,hw1⟩:∃w1,w1=w.alloc (.cells #[.string nm,.int .i64 mode,.int .i64 t,.int .i64 l,.int .i64 size,.int .i64 epoch] 65):=⟨_,rfl⟩
 have HOB:=hid (show w1.heap[w.heap.size]?=some (.cells #[.string nm,.int .i64 mode,.int .i64 t,.int .i64 l,.int .i64 size,.int .i64 epoch] 65) by rw [hw1];exact alloc_at _ _)
 have hz1:w.heap.size<w1.heap.size:=cells_lt HOB.out
 rw [←hw1] at hba c1 ⊢
 clear hw1
 have HFX:∀a:Act,(∀x∈[((0:Nat),Value.pointer (some ⟨V,0,none⟩)),(3,.pointer (some ⟨w.heap.size,0,none⟩))],a.tmps.getD x.1 undef=x.2)→a.tmps[0]?.getD undef=.pointer (some ⟨V,0,none⟩)∧a.tmps[3]?.getD undef=.pointer (some ⟨w.heap.size,0,none⟩):=by
  intro a h
  simpa using h
 have HCELL:∀w':World,Below w1.heap.size { w1 with drawn:=w1.drawn+1 } w'→w'.cell? ⟨V,1,none⟩=some (.slice (some ⟨B,0,none⟩) n bc)∧w'.cell? ⟨w.heap.size,0,none⟩=some (.string nm)∧w'.cell? ⟨w.heap.size,1,none⟩=some (.int .i64 mode)∧w'.cell? ⟨w.heap.size,2,none⟩=some (.int .i64 t)∧w'.cell? ⟨w.heap.size,3,none⟩=some (.int .i64 l)∧w'.cell? ⟨w.heap.size,4,none⟩=some (.int .i64 size)∧w'.cell? ⟨w.heap.size,5,none⟩=some (.int .i64 epoch):=by
  intro w' hb
  have e:∀b o,b<w1.heap.size→w'.cell? ⟨b,o,none⟩=w1.cell? ⟨b,o,none⟩:=fun b o h=>hb.cell h
  exact ⟨(e _ _ (by omega)).trans c1,by rw [e _ _ hz1,cells_at HOB.out];rfl,by rw [e _ _ hz1,cells_at HOB.out];rfl,by rw [e _ _ hz1,cells_at HOB.out];rfl,by rw [e _ _ hz1,cells_at HOB.out];rfl,by rw [e _ _ hz1,cells_at HOB.out];rfl,by rw [e _ _ hz1,cells_at HOB.out];rfl⟩
 refine wp_region_each2 (by kernel_rfl) evSlot (evR V n B bc w1.heap.size (RecV.bare nm mode t l size epoch)) [(0,.pointer (some ⟨V,0,none⟩)),(3,.pointer (some ⟨w.heap.size,0,none⟩))] 14 [0,3] (by kernel_rfl) rfl rfl rfl ?_ (evR_keeps V n B bc w1.heap.size (RecV.bare nm mode t l size epoch)) ?_ ?_
 ·simp
 ·refine ⟨?_,?_,?_,?_,?_,?_,?_,?_,?_,?_,trivial⟩
  ·intro a w' hb hf hd
   obtain ⟨f0,f3⟩:=HFX a hf
   obtain ⟨c1,k0,k1,k2,k3,k4,k5⟩:=HCELL w' hb
   simp [evR,evSlot,RecV.bare,Region.binds] at hd
   exact .inl ⟨.agg #[.string nm,.int .i64 mode,.int .i64 t,.int .i64 l,.int .i64 size,.int .i64 epoch],w',by go_simp,Below.refl _ _,rfl⟩
  ·intro a w' hb hf hd
   obtain ⟨f0,f3⟩:=HFX a hf
   obtain ⟨c1,k0,k1,k2,k3,k4,k5⟩:=HCELL w' hb
   simp [evR,evSlot,RecV.bare,Region.binds] at hd
   exact .inl ⟨.agg #[.string nm,.int .i64 mode,.int .i64 t,.int .i64 l,.int .i64 size,.int .i64 epoch,.slice none 0 0,.slice none 0 0],w',by go_simp,Below.refl _ _,rfl⟩
  ·intro a w' hb hf hd
   obtain ⟨f0,f3⟩:=HFX a hf
   obtain ⟨c1,k0,k1,k2,k3,k4,k5⟩:=HCELL w' hb
   simp [evR,evSlot,RecV.bare,Region.binds] at hd
   refine .inl ⟨.slice (some ⟨w'.heap.size,0,none⟩) 1 1,w'.alloc (.cells #[.string nm,.int .i64 mode,.int .i64 t,.int .i64 l,.int .i64 size,.int .i64 epoch,.slice none 0 0,.slice none 0 0] 127),by go_simp,(Below.refl _ _).alloc (Nat.le_refl _) _,w'.heap.size,rfl,by simp,fun j u hj=>?_⟩
   rw [World.cell?_alloc_at _ _ _ _ rfl]
   simpa [RecV.cells,RecV.bare] using hj
  ·intro a w' hb hf hd
   obtain ⟨f0,f3⟩:=HFX a hf
   obtain ⟨c1,k0,k1,k2,k3,k4,k5⟩:=HCELL w' hb
   simp [evR,evSlot,RecV.bare,Region.binds] at hd
   exact .inl ⟨.pointer (some ⟨V,0,none⟩),w',by go_simp,Below.refl _ _,rfl⟩
  ·intro a w' hb hf hd
   obtain ⟨f0,f3⟩:=HFX a hf
   obtain ⟨c1,k0,k1,k2,k3,k4,k5⟩:=HCELL w' hb
   simp [evR,evSlot,RecV.bare,Region.binds] at hd
   exact .inl ⟨.pointer (some ⟨V,0,none⟩),w',by go_simp,Below.refl _ _,rfl⟩
  ·intro a w' hb hf hd
   obtain ⟨f0,f3⟩:=HFX a hf
   obtain ⟨c1,k0,k1,k2,k3,k4,k5⟩:=HCELL w' hb
   simp [evR,evSlot,RecV.bare,Region.binds] at hd
   exact .inl ⟨.pointer (some ⟨V,1,none⟩),w',by go_simp,Below.refl _ _,rfl⟩
  ·intro a w' hb hf hd
   obtain ⟨f0,f3⟩:=HFX a hf
   obtain ⟨c1,k0,k1,k2,k3,k4,k5⟩:=HCELL w' hb
   simp [evR,evSlot,RecV.bare,Region.binds] at hd
   exact .inl ⟨.slice (some ⟨B,0,none⟩) n bc,w',by go_simp,Below.refl _ _,rfl⟩
  ·intro a w' hb hf hd
   obtain ⟨f0,f3⟩:=HFX a hf
   obtain ⟨c1,k0,k1,k2,k3,k4,k5⟩:=HCELL w' hb
   simp [evR,evSlot,RecV.bare,Region.binds] at hd
   exact .inl ⟨.int .i64 n,w',by go_simp,Below.refl _ _,rfl⟩
  ·intro a w' hb hf hd
   obtain ⟨f0,f3⟩:=HFX a hf
   obtain ⟨c1,k0,k1,k2,k3,k4,k5⟩:=HCELL w' hb
   simp [evR,evSlot,RecV.bare,Region.binds] at hd
   obtain ⟨⟨b,h2,hbl,hc⟩,h7⟩:=hd
   refine .inr ⟨97,#[.slice (some ⟨b,0,none⟩) 1 1,.int .i64 n],by go_simp,(repeat_any b (RecV.bare nm mode t l size epoch) n w' hn1 hn8 hc hbl).mono ?_⟩
   rintro e w'' ⟨g,rfl,hg,hh,hb2⟩
   exact ⟨_,rfl,hb2,g,rfl,by have:=hb.size;simp at this;omega,hh⟩
  ·intro a w' hb hf hd
   obtain ⟨f0,f3⟩:=HFX a hf
   obtain ⟨c1,k0,k1,k2,k3,k4,k5⟩:=HCELL w' hb
   simp [evR,evSlot,RecV.bare,Region.binds] at hd
   obtain ⟨⟨g,h8,hg,hh⟩,_⟩:=hd
   exact .inl ⟨.slice (some ⟨g,0,none⟩) n n,w',by go_simp,Below.refl _ _,g,rfl,hg,hh⟩
 ·intro a w' hdf hsz hb hf hr
  have r9:=hr 9 (by decide)
  simp [evR,evSlot] at r9
  obtain ⟨g,hv,hg,hh⟩:=r9
  go_wp2
  refine bodyPost_ret (v:=.slice (some ⟨g,0,none⟩) n n) ?_ hdf ⟨g,rfl,by omega,hh,hba.drew.trans (hb.mono hba.size)⟩
  simp [results,Tryz.results64,go_sem,hsz]
  simpa [hsz] using hv
end Go.Proofs.YtcegdgmbponapabGreatDoor
namespace Go.Proofs.YtcegdgmbponapabGreatDoor
open Go.RowKit
section
variable {P:Program} {ops:Array Oper} {Q:Exit→Act→World→Prop}
def waits (ops:Array Oper) (j i:Nat):Bool:=match ops[j]? with
 | none=>false
 | some o=>o.after.any fun e=>e.on == i && Region.binds .any e
def waits2 (ops:Array Oper) (j i:Nat):Bool:=waits ops j i || match ops[j]? with
 | none=>false
 | some o=>o.after.any fun e=>Region.binds .any e && waits ops e.on i
def StepOwn (P:Program) (ops:Array Oper) (slot:Nat→Nat) (R:Nat→Act→World→Prop) (U:Nat→World→Prop) (O:Nat→Nat→Prop) (fixed:List (Nat × Value)) (reads:Nat→List Nat) (N:Nat) (w0:World):Nat→List Oper→Prop
 | _,[]=>True
 | i,o :: rest=>(∀a w,a.tmps.size=N→Spared (fun b=>∃i,O i b) w0 w→(∀x∈fixed,(reads i).contains x.1=true→a.tmps.getD x.1 undef=x.2)→(∀e∈o.after,Region.binds .any e=true→R e.on a w∧∀j,waits ops e.on j=true→R j a w)→U i w→StepOk P o a w fun v w'=>Spared (O i) w w'∧R i (a.put (some (slot i)) v) w')∧StepOwn P ops slot R U O fixed reads N w0 (i+1) rest
theorem StepOwn.at {slot:Nat→Nat} {R:Nat→Act→World→Prop} {U:Nat→World→Prop} {O:Nat→Nat→Prop} {fixed:List (Nat × Value)} {reads:Nat→List Nat} {N:Nat} {w0:World}:∀(l:List Oper) (k i:Nat) (o:Oper),StepOwn P ops slot R U O fixed reads N w0 k l→l[i]?=some o →
  ∀a w,a.tmps.size=N→Spared (fun b=>∃i,O i b) w0 w→(∀x∈fixed,(reads (k+i)).contains x.1=true→a.tmps.getD x.1 undef=x.2)→(∀e∈o.after,Region.binds .any e=true→R e.on a w∧∀j,waits ops e.on j=true→R j a w)→U (k+i) w→StepOk P o a w fun v w'=>Spared (O (k+i)) w w'∧R (k+i) (a.put (some (slot (k+i))) v) w':=by
 intro l
 induction l with
 | nil=>intro k i o _ hi;simp at hi
 | cons x l ih =>
  intro k i o h hi
  cases i with
  | zero =>
   simp at hi
   subst hi
   exact h.1
  | succ i =>
   have:=ih (k+1) i o h.2 (by simpa using hi)
   rw [show k+(i+1)=k+1+i by omega]
   exact this
def ownOk (ops:Array Oper) (slot:Nat→Nat) (N:Nat) (reads:Nat→List Nat):Bool :=
 (List.range ops.size).all fun i=>match ops[i]? with
  | none=>true
  | some o=>o.dst == some (slot i) && decide (slot i<N) && o.guard.isNone && o.after.all (fun e=>!Region.binds .any e || decide (e.on<i)) && (List.range ops.size).all (fun j=>slot i != slot j || i == j) && (List.range ops.size).all fun j=>!(reads j).contains (slot i) || o.after.any fun e=>e.on == j && Region.binds .any e
structure OI (ops:Array Oper) (slot:Nat→Nat) (R:Nat→Act→World→Prop) (U:Nat→World→Prop) (O:Nat→Nat→Prop) (fixed:List (Nat × Value)) (N:Nat) (w0:World) (listed:Array Bool) (a:Act) (w:World):Prop where
 df:a.defers=[]
 sz:a.tmps.size=N
 sp:Spared (fun b=>∃i,O i b) w0 w
 fx:∀x∈fixed,(∀k,k<ops.size→slot k=x.1→listed.getD k false=false)→a.tmps.getD x.1 undef=x.2
 cl:∀(i:Nat) (o:Oper),ops[i]?=some o→listed.getD i false=true→∀e∈o.after,Region.binds .any e=true→listed.getD e.on false=true
 rs:∀j,listed.getD j false=true→R j a w
 us:∀j,j<ops.size→listed.getD j false=false→U j w
theorem wp_region_own {id:Nat} {a:Act} {w:World} (hm:P.follows .mixedOrders=true) (slot:Nat→Nat) (R:Nat→Act→World→Prop) (U:Nat→World→Prop) (O:Nat→Nat→Prop) (fixed:List (Nat × Value)) (N:Nat) (reads:Nat→List Nat)
  (hok:ownOk ops slot N reads=true)
  (ha:a.defers=[]) (hN:a.tmps.size=N) (hfx:∀p∈fixed,a.tmps.getD p.1 undef=p.2)
  (hU0:∀j,j<ops.size→U j { w with drawn:=w.drawn+1 })
  (hR:∀i j a v w1 w2,j<ops.size→i≠j→waits2 ops j i=false→Spared (fun b=>∃i,O i b) { w with drawn:=w.drawn+1 } w1→R j a w1→Spared (O i) w1 w2→slot i≠slot j→R j (a.put (some (slot i)) v) w2)
  (hU:∀i j w1 w2,i≠j→Spared (fun b=>∃i,O i b) { w with drawn:=w.drawn+1 } w1→U j w1→Spared (O i) w1 w2→U j w2)
  (hstep:StepOwn P ops slot R U O fixed reads N { w with drawn:=w.drawn+1 } 0 ops.toList)
  (hend:∀a w',a.defers=[]→a.tmps.size=N→Spared (fun b=>∃i,O i b) { w with drawn:=w.drawn+1 } w'→(∀x∈fixed,(∀k,k<ops.size→slot k≠x.1)→a.tmps.getD x.1 undef=x.2)→(∀j,j<ops.size→R j a w')→Q .normal a w') :
  (Code.region id ops true).wp P Q a w:=by
 unfold ownOk at hok
 rw [List.all_eq_true] at hok
 have hops:∀(i:Nat) (o:Oper),ops[i]?=some o→o.dst=some (slot i)∧slot i<N∧o.guard=none∧(∀e∈o.after,Region.binds .any e=true→e.on<i)∧(∀j,j<ops.size→slot i=slot j→i=j)∧(∀j,j<ops.size→(reads j).contains (slot i)=true→∃e∈o.after,e.on=j∧Region.binds .any e=true):=by
  intro i o ho
  have his:i<ops.size:=(Array.getElem?_eq_some_iff.1 ho).1
  have:=hok i (List.mem_range.2 his)
  simp only [ho,Bool.and_eq_true] at this
  obtain ⟨⟨⟨⟨⟨h1,h2⟩,h3⟩,h5⟩,h6⟩,h7⟩:=this
  simp only [beq_iff_eq] at h1
  simp only [decide_eq_true_eq] at h2
  simp only [Option.isNone_iff_eq_none] at h3
  simp only [Array.all_eq_true_iff_forall_mem,Bool.or_eq_true,Bool.not_eq_true',decide_eq_true_eq] at h5
  simp only [List.all_eq_true,List.mem_range,Bool.or_eq_true,bne_iff_ne,ne_eq,beq_iff_eq] at h6
  refine ⟨h1,h2,h3,fun e he hbd=>(h5 e he).elim (fun h=>by rw [hbd] at h;cases h) (fun h=>h),fun j hj he=>?_,fun j hj hno=>?_⟩
  ·rcases h6 j hj with h | h
   ·exact absurd he h
   ·exact h
  ·simp only [List.all_eq_true,List.mem_range] at h7
   have h8:=h7 j hj
   rw [hno] at h8
   simp only [Bool.not_true,Bool.false_or,Array.any_eq_true'] at h8
   obtain ⟨e,he,h9⟩:=h8
   simp only [Bool.and_eq_true,beq_iff_eq] at h9
   exact ⟨e,he,h9.1,h9.2⟩
 refine wp_region_any hm (wpAny_inv2 (OI ops slot R U O fixed N { w with drawn:=w.drawn+1 }) (fun i o e ho he hbd=>(hops i o ho).2.2.2.1 e he hbd) ?_ ?_ ops.size _ _ _ (by simp) (by unfold todo;exact Nat.le_trans (List.countP_le_length ..) (by simp)) ⟨ha,hN,Spared.refl _ _,fun x hx _=>hfx x hx,fun i o ho hl=>by simp [Array.getElem?_replicate] at hl;split at hl<;>simp at hl,fun j hj=>by simp [Array.getElem?_replicate] at hj;split at hj<;>simp at hj,fun j hj _=>hU0 j hj⟩)
 ·intro listed a w' i o hI hs ho hno hall
  obtain ⟨h1,h2,h3,h5,h6,h7⟩:=hops i o ho
  have his:i<ops.size:=(Array.getElem?_eq_some_iff.1 ho).1
  have hcl:∀k j,listed.getD k false=true→waits ops k j=true→listed.getD j false=true:=by
   intro k j hk' hwj
   unfold waits at hwj
   cases hok:ops[k]? with
   | none=>rw [hok] at hwj;cases hwj
   | some ok =>
    rw [hok] at hwj
    simp only [Array.any_eq_true'] at hwj
    obtain ⟨e,he,h9⟩:=hwj
    simp only [Bool.and_eq_true,beq_iff_eq] at h9
    rw [←h9.1]
    exact hI.cl k ok hok hk' e he h9.2
  have hok:=hstep.at (P:=P) ops.toList 0 i o (by simpa using ho) a w' hI.sz hI.sp (fun x hx hkf=>hI.fx x hx (fun k hk' hsk=>by
   rw [Nat.zero_add] at hkf
   cases hlk:listed.getD k false with
   | false=>rfl
   | true =>
    obtain ⟨_,_,_,_,_,h7'⟩:=hops k ops[k] (by simp [hk'])
    obtain ⟨e,he,hej,hbd⟩:=h7' i his (by rw [hsk];exact hkf)
    have:=hI.cl k ops[k] (by simp [hk']) hlk e he hbd
    rw [hej,hno] at this
    cases this)) (fun e he hbd=>⟨hI.rs _ (hall e he hbd),fun j hwj=>hI.rs j (hcl e.on j (hall e he hbd) hwj)⟩) (by rw [Nat.zero_add];exact hI.us i his hno)
  rw [Nat.zero_add] at hok
  unfold wpOp
  simp only [ho,Region.wanted,h3,if_true]
  refine .inl (hok.wp fun v w'' hp=>?_)
  rw [h1]
  refine ⟨hI.df,by simp [Act.put,hI.sz],hI.sp.trans (hp.1.mono fun b hb=>⟨i,hb⟩),fun x hx hnl=>?_,fun j o' ho' hl e he hbd=>?_,fun j hj=>?_,fun j hj hl=>?_⟩
  ·have hne:slot i≠x.1:=fun e=>by
    have:=hnl i his e
    rw [show (listed.setIfInBounds i true).getD i false=true by simp [show i<listed.size by omega]] at this
    cases this
   have:=hI.fx x hx (fun k hk' hsk=>by
    have h9:=hnl k hk' hsk
    have hki:i≠k:=fun e=>hne (by rw [e];exact hsk)
    rwa [getD_set_ne false hki] at h9)
   simp only [Act.put]
   rw [←this]
   simp [Array.getElem?_setIfInBounds_ne hne]
  ·by_cases hei:i=e.on
   ·rw [←hei];simp [show i<listed.size by omega]
   ·rw [getD_set_ne false hei]
    by_cases hji:i=j
    ·subst hji
     rw [ho] at ho'
     cases ho'
     exact hall e he hbd
    ·rw [getD_set_ne false hji] at hl
     exact hI.cl j o' ho' hl e he hbd
  ·by_cases hji:i=j
   ·subst hji
    exact hp.2
   ·rw [getD_set_ne false hji] at hj
    have hjs:j<ops.size:=by
     rcases Nat.lt_or_ge j listed.size with h | h
     ·omega
     ·simp [Array.getElem?_eq_none h] at hj
    have hsl:slot i≠slot j:=fun e=>hji (h6 j hjs e)
    have hw1:∀k,listed.getD k false=true→waits ops k i=false:=by
     intro k hk'
     cases hq:waits ops k i with
     | false=>rfl
     | true=>have:=hcl k i hk' hq;rw [hno] at this;cases this
    have hwt:waits2 ops j i=false:=by
     unfold waits2
     rw [hw1 j hj,Bool.false_or,show ops[j]?=some ops[j] by simp [hjs]]
     cases hq:(ops[j].after.any fun e=>Region.binds .any e && waits ops e.on i) with
     | false=>simp only [hq]
     | true =>
      rw [Array.any_eq_true'] at hq
      obtain ⟨e,he,h9⟩:=hq
      simp only [Bool.and_eq_true] at h9
      have:=hw1 e.on (hI.cl j ops[j] (by simp [hjs]) hj e he h9.1)
      rw [h9.2] at this
      cases this
    exact hR i j a v _ _ hjs hji hwt hI.sp (hI.rs j hj) hp.1 hsl
  ·have hji:i≠j:=fun e=>by
    subst e
    rw [show (listed.setIfInBounds i true).getD i false=true by simp [show i<listed.size by omega]] at hl
    cases hl
   rw [getD_set_ne false hji] at hl
   exact hU i j _ _ hji hI.sp (hI.us j hj hl) hp.1
 ·intro listed a w' hI hall
  exact hend a w' hI.df hI.sz hI.sp (fun x hx hne=>hI.fx x hx (fun k hk' e=>absurd e (hne k hk'))) (fun j hj=>hI.rs j (hall j hj))
theorem StepOk.weaken {o:Oper} {a:Act} {w:World} {post post':Value→World→Prop} (h:StepOk P o a w post) (hp:∀v w',post v w'→post' v w'):StepOk P o a w post':=by
 rcases h with ⟨v,w',h1,h2⟩|⟨f,args,h1,h2⟩
 ·exact .inl ⟨v,w',h1,hp v w' h2⟩
 ·refine .inr ⟨f,args,h1,h2.mono ?_⟩
  rintro e w' ⟨v,rfl,h3⟩
  exact ⟨v,rfl,hp v w' h3⟩
end
end Go.Proofs.YtcegdgmbponapabGreatDoor