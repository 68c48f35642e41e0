import Derived.Test.YtcegdgmbponapaaGreatDoorPart10
import Derived.Test.YtcegdgmbponapaaGreatDoorMul
import Derived.Lib.Overlaps
import Derived.Lib.AppendZerosOnto
set_option maxRecDepth 100000
set_option maxHeartbeats 4000000
namespace Go.Proofs.YtcegdgmbponapaaGreatDoor
open Go.RowKit
attribute [local go_sem ↓] Go.wp_at_zero Go.wp_at_succ
theorem qa7 (a b:List RecV):recs (a++b)=recs a++recs b:=by simp [recs]
structure Rep (w:World) (base g n k:Nat) (r:RecV):Prop where
 k1:1≤k
 kn:k≤n
 hb:base≤g
 hp:∃rest:List RecV,rest.length=n-k∧w.heap[g]?=some (.cells (recs (List.replicate k r++rest)).toArray 152)
theorem qhL (r:RecV) (k m:Nat) (rest:List RecV) (hm:m≤rest.length):over (recs (List.replicate k r++rest)) (k*8) (recs (List.replicate m r))=recs (List.replicate (k+m) r++rest.drop m):=by
 unfold over
 have h1:(recs (List.replicate k r)).length=k*8:=by rw [qah,List.length_replicate]
 have h2:(recs (List.replicate m r)).length=m*8:=by rw [qah,List.length_replicate]
 rw [qa7,←h1,List.take_left,h2,←List.drop_drop,List.drop_left,←List.replicate_append_replicate,List.append_assoc,List.append_assoc (List.replicate k r),qa7 (List.replicate k r),qa7 (List.replicate m r)]
 congr 1
 congr 1
 conv=>lhs;rw [←List.take_append_drop m rest,qa7]
 have h3:(recs (rest.take m)).length=m*8:=by rw [qah,List.length_take,Nat.min_eq_left hm]
 rw [←h3,List.drop_left]
theorem qjQ (w1 w2:World) (b n:Nat) (r:RecV) (i0:TypeInfo) (hi:Tryz.prog.info? 152=some i0) (hz1:i0.size=8) (hn1:1≤n) (L:List Value) (hO:w2.ownsRow w1.heap.size 152 8 (.slice (some ⟨w1.heap.size,0,none⟩) n n) n L) (hb:Below w1.heap.size w1 w2) (hH:∀j v,r.cells[j]?=some v→w1.cell? ⟨b,j,none⟩=some v) (hbl:b<w1.heap.size) :
  ∀ty,(Builtin.copy_ #[145,145] ty #[.slice (some ⟨w1.heap.size,0,none⟩) n n,.slice (some ⟨b,0,none⟩) 1 1]).run Tryz.prog w2=.ok (.int .i64 1) (w2.setCells w1.heap.size 0 r.cells):=by
 intro ty
 have hm1:Nat.min 1 n=1:=Nat.min_eq_left hn1
 have hlen:r.cells.length=Nat.min 1 n*i0.size:=by rw [hz1,hm1];rfl
 have hl8:r.cells.length=8:=rfl
 have h1:=qbl (P:=Tryz.prog) w2 145 145 ty 152 i0 w1.heap.size 0 n n (some ⟨b,0,none⟩) 1 1 r.cells Tryz.underlying145 hi hlen (fun h=>by cases h) (fun a ha j v hj=>by cases ha;rw [qaW,Nat.zero_add,hb.cell (p:=⟨b,j,none⟩) hbl];exact hH j v hj) (fun j hj=>by
  rw [Nat.zero_add,hO.cellAt j (by omega),List.getElem?_eq_getElem (by have:=hO.1;omega)];rfl) (fun j _=>hO.frozenAt _) (fun v hv=>by simp [RecV.cells] at hv;rcases hv with rfl | rfl | rfl | rfl | rfl | rfl | rfl | rfl<;>rfl)
 rw [hm1] at h1
 exact h1
theorem qi0 (b:Nat) (r:RecV) (n:Nat) (w:World) (hn1:1≤n) (hn8:n≤8) (h:∀j v,r.cells[j]?=some v→w.cell? ⟨b,j,none⟩=some v) (hbl:b<w.heap.size) :
  Calls Tryz.prog 193 #[.slice (some ⟨b,0,none⟩) 1 1,.int .i64 n] w fun e w' =>
   ∃g,e=.returned (.slice (some ⟨g,0,none⟩) n n)∧w.heap.size≤g∧w'.heap[g]?=some (.cells (recs (List.replicate n r)).toArray 152)∧Below w.heap.size w w':=by
 obtain ⟨i0,hi,hz0,hz1,hz2⟩:=info_parts Tryz.infoR
 have HM:=hid (Tryz.bits_Mul 1 n (by decide) (by omega) w)
 rw [show (1*n / 18446744073709551616:Nat)=0 by omega,show (1*n % 18446744073709551616:Nat)=n by omega] at HM
 have hn0:¬(n:Int)<0:=by omega
 have hnm:¬(9223372036854775807:Int)<(n:Int):=by omega
 have HH:=hid h
 clear h
 go_enter Tryz.func193,Tryz.ntmps193
 go_wp2_with fail
 refine HM.out.mono ?_
 rintro e w1 ⟨rfl,rfl⟩
 go_wp2_with (first | (at_make;refine wpList_make_full _ rfl (.tmp 29) (.tmp 29) 145 rfl w1.heap.size 152 i0 _ 8 Tryz.underlying145 hi hz0 hz1 .i64 .i64 _ _ n rfl rfl rfl rfl (by rw [hz2];omega) (by unfold maxLen;omega) (by simp) ?_;intro w2 hown2 hgrow2;(have HO2:=hid hown2);(have HG2:=hid hgrow2);clear hown2 hgrow2;(have hcp:=qjQ w1 w2 b n r i0 hi hz1 hn1 _ HO2.out ((Below.refl w1.heap.size w1).grown HG2.out nl nofun) HH.out hbl))|fail)
 have hb12:Below w1.heap.size w1 w2:=(Below.refl _ _).grown HG2.out nl nofun
 have HJ0:=hid (show Rep (w2.setCells w1.heap.size 0 r.cells) w1.heap.size w1.heap.size n 1 r from by
  have h2:=HO2.out
  rw [qgw] at h2
  obtain ⟨tl,h3,h4,h5,_⟩:=qaP h2
  have htl:tl=[]:=List.length_eq_zero_iff.1 (by rw [List.length_append,h4] at h5;omega)
  rw [htl,List.append_nil] at h3
  have h6:=qaH w1.heap.size 152 r.cells 0 _ w2 h3 (by rw [qah,List.length_replicate];show 0+8≤_;omega)
  have h7:=qhL r 0 1 (List.replicate n qcT) (by simpa using hn1)
  rw [List.replicate_zero,List.nil_append,Nat.zero_mul,show recs (List.replicate 1 r)=r.cells by simp [recs],Nat.zero_add] at h7
  rw [h7] at h6
  exact ⟨Nat.le_refl _,hn1,Nat.le_refl _,_,by simp,h6⟩)
 have HB0:=hid (show Below w1.heap.size w1 (w2.setCells w1.heap.size 0 r.cells) from hb12.trans ((qa4 (fun b=>b=w1.heap.size) w1.heap.size rfl r.cells 0 w2).below _ hb12.size (fun k hk=>by omega)))
 go_loopw [8] (fun u wr=>∃(k:Nat),u=.int .i64 k∧Rep wr w1.heap.size w1.heap.size n k r∧Below w1.heap.size w1 wr) (fun u _=>n-(intOf u).toNat)
 case atStart=>exact ⟨1,rfl,HJ0.out,HB0.out⟩
 case round =>
  obtain ⟨k,rfl,hrep,hbr⟩:=hrel
  obtain ⟨hk1,hkn,_,rest,hrl,hh⟩:=hrep
  by_cases hlt:k<n
  ·have hlt':(k:Int)<(n:Int):=by omega
   have hkc:¬n=k:=by omega
   obtain ⟨m,hm⟩:∃m,m=Nat.min k (n-k):=⟨_,rfl⟩
   have hm1:1≤m:=by rw [hm];show 1≤min k (n-k);omega
   have hm2:m≤k∧m≤n-k:=by rw [hm];show min k (n-k)≤k∧min k (n-k)≤n-k;omega
   have hlen:(recs (List.replicate m r)).length=Nat.min k (n-k)*i0.size:=by rw [qah,List.length_replicate,hz1,hm]
   have hwl:(recs (List.replicate k r++rest)).length=n*8:=by rw [qah,List.length_append,List.length_replicate,hrl];omega
   have hcp:∀ty,(Builtin.copy_ #[145,145] ty #[.slice (some ⟨w1.heap.size,k*8,none⟩) (n-k) (n-k),.slice (some ⟨w1.heap.size,0,none⟩) k n]).run Tryz.prog wr.drew=.ok (.int .i64 (m:Int)) (wr.drew.setCells w1.heap.size (k*8) (recs (List.replicate m r))):=fun ty=>by
    have h1:=qbl (P:=Tryz.prog) wr.drew 145 145 ty 152 i0 w1.heap.size (k*8) (n-k) (n-k) (some ⟨w1.heap.size,0,none⟩) k n (recs (List.replicate m r)) Tryz.underlying145 hi hlen (fun h=>by cases h) (fun a ha j v hj=>by
     cases ha
     have hjm:j<m*8:=by
      rcases Nat.lt_or_ge j (m*8) with h | h
      ·exact h
      ·rw [List.getElem?_eq_none (by rw [qah,List.length_replicate];exact h)] at hj;cases hj
     rw [qaW,Nat.zero_add]
     show wr.cell? _=_
     rw [qaZ hh,qa7,List.getElem?_append_left (by rw [qah,List.length_replicate];omega),←hj]
     rw [show List.replicate k r=List.replicate m r++List.replicate (k-m) r by rw [List.replicate_append_replicate];congr 1;omega,qa7,List.getElem?_append_left (by rw [qah,List.length_replicate];exact hjm)]) (fun j hj=>by
     rw [qah,List.length_replicate] at hj
     exact qbF (w:=wr) hh (by rw [hwl];omega)) (fun j _=>qam (w:=wr) hh) (fun v hv=>qb9 _ v hv)
    rw [←hm] at h1
    exact h1
   have HJ:=hid (show Rep (wr.drew.setCells w1.heap.size (k*8) (recs (List.replicate m r))) w1.heap.size w1.heap.size n (k+m) r from by
    have h6:=qaH w1.heap.size 152 (recs (List.replicate m r)) (k*8) _ wr.drew hh (by rw [hwl,qah,List.length_replicate];omega)
    rw [qhL r k m rest (by omega)] at h6
    exact ⟨by omega,by omega,Nat.le_refl _,_,by rw [List.length_drop];omega,h6⟩)
   have HB:=hid (show Below w1.heap.size w1 (wr.drew.setCells w1.heap.size (k*8) (recs (List.replicate m r))) from hbr.drew.trans ((qa4 (fun b=>b=w1.heap.size) w1.heap.size rfl _ _ wr.drew).below _ hbr.size (fun k hk=>by omega)))
   have hsum:IntKind.i64.wrap ((k:Int)+(m:Int))=((k+m:Nat):Int):=by rw [IntKind.wrap_i64];omega
   clear hh hlen hwl hm
   go_wp2_with fail
   go_region
   go_wp2_with fail
   go_roundw
   case rel=>exact ⟨k+m,by go_num,HJ.out,HB.out⟩
   case measure=>simp [intOf];omega
  ·have hkn':k=n:=by omega
   subst hkn'
   have HH2:=hid (show wr.heap[w1.heap.size]?=some (.cells (recs (List.replicate k r)).toArray 152) from by
    rw [hh]
    rw [show rest=[] from List.length_eq_zero_iff.1 (by omega),List.append_nil])
   clear hh
   go_wp2_with fail
   go_ret
   exact ⟨_,rfl,Nat.le_refl _,HH2.out,hbr⟩
def RecV.bare (nm:ByteArray) (mode t l size epoch:Nat):RecV:=⟨nm,mode,t,l,size,epoch,none,0,0,none,0,0⟩
def evR (V n B bc W:Nat) (q:RecV):Nat→Value→World→Prop
 | 0,v,_=>v=.agg #[.string q.name,.int .i64 q.mode,.int .i64 q.t,.int .i64 q.l,.int .i64 q.size,.int .i64 q.epoch]
 | 1,v,_=>v=.agg #[.string q.name,.int .i64 q.mode,.int .i64 q.t,.int .i64 q.l,.int .i64 q.size,.int .i64 q.epoch,.slice none 0 0,.slice none 0 0]
 | 2,v,w=>∃b,v=.slice (some ⟨b,0,none⟩) 1 1∧b<w.heap.size∧∀j u,q.cells[j]?=some u→w.cell? ⟨b,j,none⟩=some u
 | 3,v,_=>v=.pointer (some ⟨V,0,none⟩)
 | 4,v,_=>v=.pointer (some ⟨V,0,none⟩)
 | 5,v,_=>v=.pointer (some ⟨V,1,none⟩)
 | 6,v,_=>v=.slice (some ⟨B,0,none⟩) n bc
 | 7,v,_=>v=.int .i64 n
 | 8,v,w=>∃g,v=.slice (some ⟨g,0,none⟩) n n∧W≤g∧w.heap[g]?=some (.cells (recs (List.replicate n q)).toArray 152)
 | 9,v,w=>∃g,v=.slice (some ⟨g,0,none⟩) n n∧W≤g∧w.heap[g]?=some (.cells (recs (List.replicate n q)).toArray 152)
 | _,_,_=>True
theorem qjC (V n B bc W:Nat) (q:RecV) (j:Nat) (v:Value) (w w':World) (h:evR V n B bc W q j v w) (hb:Below w.heap.size w w'):evR V n B bc W q j v w':=by
 unfold evR at h ⊢
 split at h
 ·exact h
 ·exact h
 ·obtain ⟨b,h1,h2,h3⟩:=h
  exact ⟨b,h1,Nat.lt_of_lt_of_le h2 hb.size,fun j u hj=>(hb.cell h2).trans (h3 j u hj)⟩
 ·exact h
 ·exact h
 ·exact h
 ·exact h
 ·exact h
 ·obtain ⟨g,h1,h2,h3⟩:=h
  exact ⟨g,h1,h2,(hb.block g (cells_lt h3)).trans h3⟩
 ·obtain ⟨g,h1,h2,h3⟩:=h
  exact ⟨g,h1,h2,(hb.block g (cells_lt h3)).trans h3⟩
 ·trivial
def qcp (i:Nat):Nat:=if i=9 then 4 else i+5
theorem qeD (V key n B bc:Nat) (sp:Nat→Nat) (nm:ByteArray) (mode t l size epoch:Nat) (w:World) (h:Va w V key n B 0 bc sp) (hn1:1≤n) (hn8:n≤8) :
  Calls Tryz.prog 152 #[.pointer (some ⟨V,0,none⟩),.agg #[.string nm,.int .i64 mode,.int .i64 t,.int .i64 l,.int .i64 size,.int .i64 epoch]] w fun e w' =>
   ∃g,e=.returned (.slice (some ⟨g,0,none⟩) n n)∧w.heap.size≤g∧w'.heap[g]?=some (.cells (recs (List.replicate n (RecV.bare nm mode t l size epoch))).toArray 152)∧Below w.heap.size w w':=by
 have hba:=(Below.refl w.heap.size w).alloc nl (.cells #[.string nm,.int .i64 mode,.int .i64 t,.int .i64 l,.int .i64 size,.int .i64 epoch] 55)
 have c1:=(h.keeps hba nl).c1
 have hVl:=h.lt
 clear h
 go_enter Tryz.func152,Tryz.ntmps152
 go_wp2_with fail
 obtain ⟨w1,hw1⟩:∃w1,w1=w.alloc (.cells #[.string nm,.int .i64 mode,.int .i64 t,.int .i64 l,.int .i64 size,.int .i64 epoch] 55):=⟨_,rfl⟩
 have HOB:=hid (show w1.heap[w.heap.size]?=some (.cells #[.string nm,.int .i64 mode,.int .i64 t,.int .i64 l,.int .i64 size,.int .i64 epoch] 55) by rw [hw1];exact alloc_at _ _)
 have hz1:w.heap.size<w1.heap.size:=cells_lt HOB.out
 rw [←hw1] at hba c1 ⊢
 clear hw1
 have HFX:∀a:Act,(∀x∈[((0:Nat),Value.pointer (some ⟨V,0,none⟩)),(3,.pointer (some ⟨w.heap.size,0,none⟩))],a.tmps.getD x.1 undef=x.2)→a.tmps[0]?.getD undef=.pointer (some ⟨V,0,none⟩)∧a.tmps[3]?.getD undef=.pointer (some ⟨w.heap.size,0,none⟩):=by
  intro a h
  simpa using h
 have HCELL:∀w':World,Below w1.heap.size { w1 with drawn:=w1.drawn+1 } w'→w'.cell? ⟨V,1,none⟩=some (.slice (some ⟨B,0,none⟩) n bc)∧w'.cell? ⟨w.heap.size,0,none⟩=some (.string nm)∧w'.cell? ⟨w.heap.size,1,none⟩=some (.int .i64 mode)∧w'.cell? ⟨w.heap.size,2,none⟩=some (.int .i64 t)∧w'.cell? ⟨w.heap.size,3,none⟩=some (.int .i64 l)∧w'.cell? ⟨w.heap.size,4,none⟩=some (.int .i64 size)∧w'.cell? ⟨w.heap.size,5,none⟩=some (.int .i64 epoch):=by
  intro w' hb
  have e:∀b o,b<w1.heap.size→w'.cell? ⟨b,o,none⟩=w1.cell? ⟨b,o,none⟩:=fun b o h=>hb.cell h
  exact ⟨(e _ _ (by omega)).trans c1,by rw [e _ _ hz1,cells_at HOB.out];rfl,by rw [e _ _ hz1,cells_at HOB.out];rfl,by rw [e _ _ hz1,cells_at HOB.out];rfl,by rw [e _ _ hz1,cells_at HOB.out];rfl,by rw [e _ _ hz1,cells_at HOB.out];rfl,by rw [e _ _ hz1,cells_at HOB.out];rfl⟩
 refine qbq (by kernel_rfl) qcp (evR V n B bc w1.heap.size (RecV.bare nm mode t l size epoch)) [(0,.pointer (some ⟨V,0,none⟩)),(3,.pointer (some ⟨w.heap.size,0,none⟩))] 14 [0,3] (by kernel_rfl) rfl rfl rfl ?_ (qjC V n B bc w1.heap.size (RecV.bare nm mode t l size epoch)) ?_ ?_
 ·simp
 ·refine ⟨?_,?_,?_,?_,?_,?_,?_,?_,?_,?_,trivial⟩
  ·intro a w' hb hf hd
   obtain ⟨f0,f3⟩:=HFX a hf
   obtain ⟨c1,k0,k1,k2,k3,k4,k5⟩:=HCELL w' hb
   simp [evR,qcp,RecV.bare,Region.binds] at hd
   exact .inl ⟨.agg #[.string nm,.int .i64 mode,.int .i64 t,.int .i64 l,.int .i64 size,.int .i64 epoch],w',by go_simp,bl,rfl⟩
  ·intro a w' hb hf hd
   obtain ⟨f0,f3⟩:=HFX a hf
   obtain ⟨c1,k0,k1,k2,k3,k4,k5⟩:=HCELL w' hb
   simp [evR,qcp,RecV.bare,Region.binds] at hd
   exact .inl ⟨.agg #[.string nm,.int .i64 mode,.int .i64 t,.int .i64 l,.int .i64 size,.int .i64 epoch,.slice none 0 0,.slice none 0 0],w',by go_simp,bl,rfl⟩
  ·intro a w' hb hf hd
   obtain ⟨f0,f3⟩:=HFX a hf
   obtain ⟨c1,k0,k1,k2,k3,k4,k5⟩:=HCELL w' hb
   simp [evR,qcp,RecV.bare,Region.binds] at hd
   refine .inl ⟨.slice (some ⟨w'.heap.size,0,none⟩) 1 1,w'.alloc (.cells #[.string nm,.int .i64 mode,.int .i64 t,.int .i64 l,.int .i64 size,.int .i64 epoch,.slice none 0 0,.slice none 0 0] 152),by go_simp,(Below.refl _ _).alloc nl _,w'.heap.size,rfl,by simp,fun j u hj=>?_⟩
   rw [World.cell?_alloc_at _ _ _ _ rfl]
   simpa [RecV.cells,RecV.bare] using hj
  ·intro a w' hb hf hd
   obtain ⟨f0,f3⟩:=HFX a hf
   obtain ⟨c1,k0,k1,k2,k3,k4,k5⟩:=HCELL w' hb
   simp [evR,qcp,RecV.bare,Region.binds] at hd
   exact .inl ⟨.pointer (some ⟨V,0,none⟩),w',by go_simp,bl,rfl⟩
  ·intro a w' hb hf hd
   obtain ⟨f0,f3⟩:=HFX a hf
   obtain ⟨c1,k0,k1,k2,k3,k4,k5⟩:=HCELL w' hb
   simp [evR,qcp,RecV.bare,Region.binds] at hd
   exact .inl ⟨.pointer (some ⟨V,0,none⟩),w',by go_simp,bl,rfl⟩
  ·intro a w' hb hf hd
   obtain ⟨f0,f3⟩:=HFX a hf
   obtain ⟨c1,k0,k1,k2,k3,k4,k5⟩:=HCELL w' hb
   simp [evR,qcp,RecV.bare,Region.binds] at hd
   exact .inl ⟨.pointer (some ⟨V,1,none⟩),w',by go_simp,bl,rfl⟩
  ·intro a w' hb hf hd
   obtain ⟨f0,f3⟩:=HFX a hf
   obtain ⟨c1,k0,k1,k2,k3,k4,k5⟩:=HCELL w' hb
   simp [evR,qcp,RecV.bare,Region.binds] at hd
   exact .inl ⟨.slice (some ⟨B,0,none⟩) n bc,w',by go_simp,bl,rfl⟩
  ·intro a w' hb hf hd
   obtain ⟨f0,f3⟩:=HFX a hf
   obtain ⟨c1,k0,k1,k2,k3,k4,k5⟩:=HCELL w' hb
   simp [evR,qcp,RecV.bare,Region.binds] at hd
   exact .inl ⟨.int .i64 n,w',by go_simp,bl,rfl⟩
  ·intro a w' hb hf hd
   obtain ⟨f0,f3⟩:=HFX a hf
   obtain ⟨c1,k0,k1,k2,k3,k4,k5⟩:=HCELL w' hb
   simp [evR,qcp,RecV.bare,Region.binds] at hd
   obtain ⟨⟨b,h2,hbl,hc⟩,h7⟩:=hd
   refine .inr ⟨193,#[.slice (some ⟨b,0,none⟩) 1 1,.int .i64 n],by go_simp,(qi0 b (RecV.bare nm mode t l size epoch) n w' hn1 hn8 hc hbl).mono ?_⟩
   rintro e w'' ⟨g,rfl,hg,hh,hb2⟩
   exact ⟨_,rfl,hb2,g,rfl,by have:=hb.size;simp at this;omega,hh⟩
  ·intro a w' hb hf hd
   obtain ⟨f0,f3⟩:=HFX a hf
   obtain ⟨c1,k0,k1,k2,k3,k4,k5⟩:=HCELL w' hb
   simp [evR,qcp,RecV.bare,Region.binds] at hd
   obtain ⟨⟨g,h8,hg,hh⟩,_⟩:=hd
   exact .inl ⟨.slice (some ⟨g,0,none⟩) n n,w',by go_simp,bl,g,rfl,hg,hh⟩
 ·intro a w' hdf hsz hb hf hr
  have r9:=hr 9 (by decide)
  simp [evR,qcp] at r9
  obtain ⟨g,hv,hg,hh⟩:=r9
  go_wp2
  refine bodyPost_ret (v:=.slice (some ⟨g,0,none⟩) n n) ?_ hdf ⟨g,rfl,by omega,hh,hba.drew.trans (hb.mono hba.size)⟩
  simp [results,Tryz.results152,go_sem,hsz]
  simpa [hsz] using hv
section
variable {P:Program} {ops:Array Oper} {Q:Exit→Act→World→Prop}
def waits (ops:Array Oper) (j i:Nat):Bool:=match ops[j]? with
 | none=>false
 | some o=>o.after.any fun e=>e.on == i && Region.binds .any e
def qdm (ops:Array Oper) (j i:Nat):Bool:=waits ops j i || match ops[j]? with
 | none=>false
 | some o=>o.after.any fun e=>Region.binds .any e && waits ops e.on i
def qfF (P:Program) (ops:Array Oper) (slot:Nat→Nat) (R:Nat→Act→World→Prop) (U:Nat→World→Prop) (O:Nat→Nat→Prop) (fixed:List (Nat × Value)) (reads:Nat→List Nat) (N:Nat) (w0:World):Nat→List Oper→Prop
 | _,[]=>True
 | i,o :: rest=>(∀a w,a.tmps.size=N→qaa (fun b=>∃i,O i b) w0 w→(∀x∈fixed,(reads i).contains x.1=true→a.tmps.getD x.1 undef=x.2)→(∀e∈o.after,Region.binds .any e=true→R e.on a w∧∀j,waits ops e.on j=true→R j a w)→U i w→qbc P o a w fun v w'=>qaa (O i) w w'∧R i (a.put (some (slot i)) v) w')∧qfF P ops slot R U O fixed reads N w0 (i+1) rest
theorem qfF.at {slot:Nat→Nat} {R:Nat→Act→World→Prop} {U:Nat→World→Prop} {O:Nat→Nat→Prop} {fixed:List (Nat × Value)} {reads:Nat→List Nat} {N:Nat} {w0:World}:∀(l:List Oper) (k i:Nat) (o:Oper),qfF P ops slot R U O fixed reads N w0 k l→l[i]?=some o →
  ∀a w,a.tmps.size=N→qaa (fun b=>∃i,O i b) w0 w→(∀x∈fixed,(reads (k+i)).contains x.1=true→a.tmps.getD x.1 undef=x.2)→(∀e∈o.after,Region.binds .any e=true→R e.on a w∧∀j,waits ops e.on j=true→R j a w)→U (k+i) w→qbc P o a w fun v w'=>qaa (O (k+i)) w w'∧R (k+i) (a.put (some (slot (k+i))) v) w':=by
 intro l
 induction l with
 | nil=>intro k i o _ hi;simp at hi
 | cons x l ih =>
  intro k i o h hi
  cases i with
  | zero =>
   simp at hi
   subst hi
   exact h.1
  | succ i =>
   have:=ih (k+1) i o h.2 (by simpa using hi)
   rw [show k+(i+1)=k+1+i by omega]
   exact this
def ownOk (ops:Array Oper) (slot:Nat→Nat) (N:Nat) (reads:Nat→List Nat):Bool :=
 (List.range ops.size).all fun i=>match ops[i]? with
  | none=>true
  | some o=>o.dst == some (slot i) && decide (slot i<N) && o.guard.isNone && o.after.all (fun e=>!Region.binds .any e || decide (e.on<i)) && (List.range ops.size).all (fun j=>slot i != slot j || i == j) && (List.range ops.size).all fun j=>!(reads j).contains (slot i) || o.after.any fun e=>e.on == j && Region.binds .any e
structure OI (ops:Array Oper) (slot:Nat→Nat) (R:Nat→Act→World→Prop) (U:Nat→World→Prop) (O:Nat→Nat→Prop) (fixed:List (Nat × Value)) (N:Nat) (w0:World) (listed:Array Bool) (a:Act) (w:World):Prop where
 df:a.defers=[]
 sz:a.tmps.size=N
 sp:qaa (fun b=>∃i,O i b) w0 w
 fx:∀x∈fixed,(∀k,k<ops.size→slot k=x.1→listed.getD k false=false)→a.tmps.getD x.1 undef=x.2
 cl:∀(i:Nat) (o:Oper),ops[i]?=some o→listed.getD i false=true→∀e∈o.after,Region.binds .any e=true→listed.getD e.on false=true
 rs:∀j,listed.getD j false=true→R j a w
 us:∀j,j<ops.size→listed.getD j false=false→U j w
theorem qfu {id:Nat} {a:Act} {w:World} (hm:P.follows .mixedOrders=true) (slot:Nat→Nat) (R:Nat→Act→World→Prop) (U:Nat→World→Prop) (O:Nat→Nat→Prop) (fixed:List (Nat × Value)) (N:Nat) (reads:Nat→List Nat)
  (hok:ownOk ops slot N reads=true)
  (ha:a.defers=[]) (hN:a.tmps.size=N) (hfx:∀p∈fixed,a.tmps.getD p.1 undef=p.2)
  (hU0:∀j,j<ops.size→U j { w with drawn:=w.drawn+1 })
  (hR:∀i j a v w1 w2,j<ops.size→i≠j→qdm ops j i=false→qaa (fun b=>∃i,O i b) { w with drawn:=w.drawn+1 } w1→R j a w1→qaa (O i) w1 w2→slot i≠slot j→R j (a.put (some (slot i)) v) w2)
  (hU:∀i j w1 w2,i≠j→qaa (fun b=>∃i,O i b) { w with drawn:=w.drawn+1 } w1→U j w1→qaa (O i) w1 w2→U j w2)
  (hstep:qfF P ops slot R U O fixed reads N { w with drawn:=w.drawn+1 } 0 ops.toList)
  (hend:∀a w',a.defers=[]→a.tmps.size=N→qaa (fun b=>∃i,O i b) { w with drawn:=w.drawn+1 } w'→(∀x∈fixed,(∀k,k<ops.size→slot k≠x.1)→a.tmps.getD x.1 undef=x.2)→(∀j,j<ops.size→R j a w')→Q .normal a w') :
  (Code.region id ops true).wp P Q a w:=by
 unfold ownOk at hok
 rw [List.all_eq_true] at hok
 have hops:∀(i:Nat) (o:Oper),ops[i]?=some o→o.dst=some (slot i)∧slot i<N∧o.guard=none∧(∀e∈o.after,Region.binds .any e=true→e.on<i)∧(∀j,j<ops.size→slot i=slot j→i=j)∧(∀j,j<ops.size→(reads j).contains (slot i)=true→∃e∈o.after,e.on=j∧Region.binds .any e=true):=by
  intro i o ho
  have his:i<ops.size:=(Array.getElem?_eq_some_iff.1 ho).1
  have:=hok i (List.mem_range.2 his)
  simp only [ho,Bool.and_eq_true] at this
  obtain ⟨⟨⟨⟨⟨h1,h2⟩,h3⟩,h5⟩,h6⟩,h7⟩:=this
  simp only [beq_iff_eq] at h1
  simp only [decide_eq_true_eq] at h2
  simp only [Option.isNone_iff_eq_none] at h3
  simp only [Array.all_eq_true_iff_forall_mem,Bool.or_eq_true,Bool.not_eq_true',decide_eq_true_eq] at h5
  simp only [List.all_eq_true,List.mem_range,Bool.or_eq_true,bne_iff_ne,ne_eq,beq_iff_eq] at h6
  refine ⟨h1,h2,h3,fun e he hbd=>(h5 e he).elim (fun h=>by rw [hbd] at h;cases h) (fun h=>h),fun j hj he=>?_,fun j hj hno=>?_⟩
  ·rcases h6 j hj with h | h
   ·exact absurd he h
   ·exact h
  ·simp only [List.all_eq_true,List.mem_range] at h7
   have h8:=h7 j hj
   rw [hno] at h8
   simp only [Bool.not_true,Bool.false_or,Array.any_eq_true'] at h8
   obtain ⟨e,he,h9⟩:=h8
   simp only [Bool.and_eq_true,beq_iff_eq] at h9
   exact ⟨e,he,h9.1,h9.2⟩
 refine wp_region_any hm (qcI (OI ops slot R U O fixed N { w with drawn:=w.drawn+1 }) (fun i o e ho he hbd=>(hops i o ho).2.2.2.1 e he hbd) ?_ ?_ ops.size _ _ _ (by simp) (by unfold todo;exact Nat.le_trans (List.countP_le_length ..) (by simp)) ⟨ha,hN,sr,fun x hx _=>hfx x hx,fun i o ho hl=>by simp [Array.getElem?_replicate] at hl;split at hl<;>simp at hl,fun j hj=>by simp [Array.getElem?_replicate] at hj;split at hj<;>simp at hj,fun j hj _=>hU0 j hj⟩)
 ·intro listed a w' i o hI hs ho hno hall
  obtain ⟨h1,h2,h3,h5,h6,h7⟩:=hops i o ho
  have his:i<ops.size:=(Array.getElem?_eq_some_iff.1 ho).1
  have hcl:∀k j,listed.getD k false=true→waits ops k j=true→listed.getD j false=true:=by
   intro k j hk' hwj
   unfold waits at hwj
   cases hok:ops[k]? with
   | none=>rw [hok] at hwj;cases hwj
   | some ok =>
    rw [hok] at hwj
    simp only [Array.any_eq_true'] at hwj
    obtain ⟨e,he,h9⟩:=hwj
    simp only [Bool.and_eq_true,beq_iff_eq] at h9
    rw [←h9.1]
    exact hI.cl k ok hok hk' e he h9.2
  have hok:=hstep.at (P:=P) ops.toList 0 i o (by simpa using ho) a w' hI.sz hI.sp (fun x hx hkf=>hI.fx x hx (fun k hk' hsk=>by
   rw [Nat.zero_add] at hkf
   cases hlk:listed.getD k false with
   | false=>rfl
   | true =>
    obtain ⟨_,_,_,_,_,h7'⟩:=hops k ops[k] (by simp [hk'])
    obtain ⟨e,he,hej,hbd⟩:=h7' i his (by rw [hsk];exact hkf)
    have:=hI.cl k ops[k] (by simp [hk']) hlk e he hbd
    rw [hej,hno] at this
    cases this)) (fun e he hbd=>⟨hI.rs _ (hall e he hbd),fun j hwj=>hI.rs j (hcl e.on j (hall e he hbd) hwj)⟩) (by rw [Nat.zero_add];exact hI.us i his hno)
  rw [Nat.zero_add] at hok
  unfold wpOp
  simp only [ho,Region.wanted,h3,if_true]
  refine .inl (hok.wp fun v w'' hp=>?_)
  rw [h1]
  refine ⟨hI.df,by simp [Act.put,hI.sz],hI.sp.trans (hp.1.mono fun b hb=>⟨i,hb⟩),fun x hx hnl=>?_,fun j o' ho' hl e he hbd=>?_,fun j hj=>?_,fun j hj hl=>?_⟩
  ·have hne:slot i≠x.1:=fun e=>by
    have:=hnl i his e
    rw [show (listed.setIfInBounds i true).getD i false=true by simp [show i<listed.size by omega]] at this
    cases this
   have:=hI.fx x hx (fun k hk' hsk=>by
    have h9:=hnl k hk' hsk
    have hki:i≠k:=fun e=>hne (by rw [e];exact hsk)
    rwa [getD_set_ne false hki] at h9)
   simp only [Act.put]
   rw [←this]
   simp [Array.getElem?_setIfInBounds_ne hne]
  ·by_cases hei:i=e.on
   ·rw [←hei];simp [show i<listed.size by omega]
   ·rw [getD_set_ne false hei]
    by_cases hji:i=j
    ·subst hji
     rw [ho] at ho'
     cases ho'
     exact hall e he hbd
    ·rw [getD_set_ne false hji] at hl
     exact hI.cl j o' ho' hl e he hbd
  ·by_cases hji:i=j
   ·subst hji
    exact hp.2
   ·rw [getD_set_ne false hji] at hj
    have hjs:j<ops.size:=by
     rcases Nat.lt_or_ge j listed.size with h | h
     ·omega
     ·simp [Array.getElem?_eq_none h] at hj
    have hsl:slot i≠slot j:=fun e=>hji (h6 j hjs e)
    have hw1:∀k,listed.getD k false=true→waits ops k i=false:=by
     intro k hk'
     cases hq:waits ops k i with
     | false=>rfl
     | true=>have:=hcl k i hk' hq;rw [hno] at this;cases this
    have hwt:qdm ops j i=false:=by
     unfold qdm
     rw [hw1 j hj,Bool.false_or,show ops[j]?=some ops[j] by simp [hjs]]
     cases hq:(ops[j].after.any fun e=>Region.binds .any e && waits ops e.on i) with
     | false=>simp only [hq]
     | true =>
      rw [Array.any_eq_true'] at hq
      obtain ⟨e,he,h9⟩:=hq
      simp only [Bool.and_eq_true] at h9
      have:=hw1 e.on (hI.cl j ops[j] (by simp [hjs]) hj e he h9.1)
      rw [h9.2] at this
      cases this
    exact hR i j a v _ _ hjs hji hwt hI.sp (hI.rs j hj) hp.1 hsl
  ·have hji:i≠j:=fun e=>by
    subst e
    rw [show (listed.setIfInBounds i true).getD i false=true by simp [show i<listed.size by omega]] at hl
    cases hl
   rw [getD_set_ne false hji] at hl
   exact hU i j _ _ hji hI.sp (hI.us j hj hl) hp.1
 ·intro listed a w' hI hall
  exact hend a w' hI.df hI.sz hI.sp (fun x hx hne=>hI.fx x hx (fun k hk' e=>absurd e (hne k hk'))) (fun j hj=>hI.rs j (hall j hj))
theorem qbc.weaken {o:Oper} {a:Act} {w:World} {post post':Value→World→Prop} (h:qbc P o a w post) (hp:∀v w',post v w'→post' v w'):qbc P o a w post':=by
 rcases h with ⟨v,w',h1,h2⟩|⟨f,args,h1,h2⟩
 ·exact .inl ⟨v,w',h1,hp v w' h2⟩
 ·refine .inr ⟨f,args,h1,h2.mono ?_⟩
  rintro e w' ⟨v,rfl,h3⟩
  exact ⟨v,rfl,hp v w' h3⟩
end
theorem qce {P:Program} (w:World) (base:Nat) (t ty e:TypeId) (i:TypeInfo) (z:Value) (size bytes:Nat) (ht:P.underlying t=some (.slice e)) (hi:P.info? e=some i) (hz:i.zero=some z)
  (hsize:i.size=size) (hby:i.bytes=bytes) (hzs:z.cells.size=size) (hsz:0<size)
  (v:Value) (n:Nat) (xs:List Value) (hown:w.ownsRow base e size v n xs)
  (a:Addr) (m c:Nat) (news:List Value) (hl:news.length=m*size) (hnews:∀j u,news[j]?=some u→w.cell? (a.add j)=some u) (h1:∀u∈news,u.oneCell'=true)
  (h63:n+m≤maxLen) (hbytes:(n+m)*bytes≤140737488355328) (hbase:base≤w.heap.size) (hm:0<m) :
  ∃v' w',(Builtin.append_ #[t,t] ty #[v,.slice (some a) m c]).run P w=.ok v' w'∧w'.ownsRow base e size v' (n+m) (xs++news)∧w.grownBy w' v.ownBlock ∧
   (v'.ownBlock=v.ownBlock∨v'.ownBlock=some w.heap.size):=by
 obtain ⟨v',w',hr0,h2,h3,_⟩:=run_append_own (P:=P) w base t ty e i z size bytes ht hi hz hsize hby hzs hsz v n xs hown a m c news hl hnews h1 h63 hbytes hbase
 refine ⟨v',w',hr0,h2,h3,?_⟩
 subst hsize
 subst hby
 have hsmall:n+m≤9223372036854775807:=by simp only [maxLen] at h63;omega
 rcases hown.2 with ⟨rfl,rfl⟩|⟨g,cap,cur,rfl,hbg,hg,hnc,hcm,hcs,htake⟩
 ·have hr:=run_append_nil (P:=P) w t ty e i z ht hi hz a m c news hl hnews (by omega) (by omega) (by have hb:=hbytes;simp only [Nat.zero_add] at hb;omega)
  rw [hr0] at hr
  cases hr
  exact .inr rfl
 ·by_cases hroom:n+m≤cap
  ·have hfit:n*i.size+news.length≤cur.size:=by rw [hl,hcs,←Nat.add_mul];exact Nat.mul_le_mul_right _ hroom
   have hr:=run_append_room (P:=P) w t ty e i ht hi g n cap cur hg a m c news hl hnews h1 hroom hfit
   rw [hr0] at hr
   cases hr
   exact .inl rfl
  ·have holds:∀j u,xs[j]?=some u→w.cell? ((⟨g,0,none⟩:Addr).add j)=some u:=hown.cells (g:=g) rfl
   have hr:=run_append_grow (P:=P) w t ty e i z ht hi hz ⟨g,0,none⟩ n cap xs hown.1 holds a m c news hl hnews (by omega) (by omega) (growslice_fits (by omega) hbytes)
   rw [hr0] at hr
   cases hr
   exact .inr rfl
theorem qcf {P:Program} {o:Oper} {ac:Act} {w:World} {post:Value→World→Prop} (s x:Operand) (t:TypeId) (ho:o.op=.call { callee:=.builtin .append,args:=#[s,x],argTypes:=#[t,t] })
  (base:Nat) (e:TypeId) (i:TypeInfo) (z:Value) (size bytes:Nat) (ht:P.underlying t=some (.slice e)) (hi:P.info? e=some i) (hz:i.zero=some z)
  (hsize:i.size=size) (hby:i.bytes=bytes) (hzs:z.cells.size=size) (hsz:0<size)
  (v:Value) (n:Nat) (xs:List Value) (hs:ac.eval s=v) (hown:w.ownsRow base e size v n xs)
  (a:Addr) (m c:Nat) (news:List Value) (hx:ac.eval x=.slice (some a) m c) (hl:news.length=m*size) (hnews:∀j u,news[j]?=some u→w.cell? (a.add j)=some u) (h1:∀u∈news,u.oneCell'=true)
  (h63:n+m≤maxLen) (hbytes:(n+m)*bytes≤140737488355328) (hbase:base≤w.heap.size) (hm:0<m)
  (h:∀v' w',w'.ownsRow base e size v' (n+m) (xs++news)→w.grownBy w' v.ownBlock→(v'.ownBlock=v.ownBlock∨v'.ownBlock=some w.heap.size)→post v' w'):qbc P o ac w post:=by
 obtain ⟨v',w',hr,h2,h3,h4⟩:=qce (P:=P) w base t o.type e i z size bytes ht hi hz hsize hby hzs hsz v n xs hown a m c news hl hnews h1 h63 hbytes hbase hm
 refine .inl ⟨v',w',?_,h v' w' h2 h3 h4⟩
 unfold execOp
 simp only [ho,resolve,invoke,builtin,Sem.run_bind,Sem.run_pure,Result.andThen_ok,List.map_toArray,List.map_cons,List.map_nil,hs,hx,hr]
theorem qa5 {w w':World} {v:Value} (h:w.grownBy w' v.ownBlock):qaa (fun b=>v.ownBlock=some b) w w' :=
 ⟨h.os,h.tape,h.output,h.size,fun k hk ho=>h.block k hk fun e=>ho e.symm⟩
theorem qjr (A M R X:List Value) (hM:M.take A.length=A) (hl:M.length=A.length+X.length):over (M++R) A.length X=A++X++R:=by
 unfold over
 rw [List.take_append_of_le_length (by omega),hM,←hl,List.drop_left]
theorem qgV (A D T X:List Value) (hx:X.length≤T.length):over (over (A++D++T) (A.length+X.length) D) A.length X=A++X++(D++T.drop X.length):=by
 have h1:over (A++D++T) (A.length+X.length) D=(A++D++T).take (A.length+X.length)++(D++T.drop X.length):=by
  unfold over
  rw [List.append_assoc]
  congr 2
  rw [show A.length+X.length+D.length=(A++D).length+X.length by simp;omega,←List.drop_drop,List.drop_left]
 rw [h1]
 refine qjr A _ _ X ?_ ?_
 ·rw [List.take_take,Nat.min_eq_left (by omega),List.append_assoc,List.take_left]
 ·rw [List.length_take,List.length_append,List.length_append,Nat.min_eq_left (by omega)]
theorem qkq (A X D Z T:List Value) (hz:Z.length=X.length+D.length):over (over (A++Z++T) A.length X) (A.length+X.length) D=A++X++D++T:=by
 have h1:over (A++Z++T) A.length X=(A++X)++Z.drop X.length++T:=by
  unfold over
  rw [List.append_assoc A Z T,List.take_left,←List.drop_drop,List.drop_left,List.drop_append_of_le_length (by omega)]
  simp
 rw [h1]
 unfold over
 rw [←List.length_append,List.append_assoc (A++X),List.take_left,←List.drop_drop,List.drop_left,show D.length=(Z.drop X.length).length by simp;omega,List.drop_left]
theorem RecV.cells_len (r:RecV):r.cells.length=8:=rfl
theorem qgl (r:RecV) (rs:List RecV):recs (r :: rs)=r.cells++recs rs:=by simp [recs]
theorem RecV.one_cell (r:RecV) (v:Value) (hv:v∈r.cells):v.oneCell'=true:=by
 simp [RecV.cells] at hv;rcases hv with rfl | rfl | rfl | rfl | rfl | rfl | rfl | rfl<;>rfl
theorem Tryz.sizeR (w:World):(Go.sizeOf 152).run Tryz.prog w=.ok 8 w:=by
 obtain ⟨i0,hi,_,hz1,_⟩:=info_parts Tryz.infoR
 simp [sizeOf,typeInfo,hi,hz1]
theorem qgc (w:World) (g b off lb cb:Nat) (r:RecV) (L:List Value) (hg:w.heap[g]?=some (.cells L.toArray 152)) (hL:L.length≠0) (hb:w.heap[b]?=some (.cells r.cells.toArray 152)) (hbg:b≠g) :
  (callFunc 235 #[.slice (some ⟨b,0,none⟩) 1 1,.slice (some ⟨g,off,none⟩) lb cb]).run Tryz.prog w=.ok (.value (.bool false)) w:=by
 have h1:=@run_callFunc_extern Tryz.prog 235 _ (Extern.SlicesOverlaps.overlaps #[145,145] #[4]) Tryz.func235 (by kernel_rfl) (by kernel_rfl) (by kernel_rfl) (by kernel_rfl)
 rw [h1,Lib.run_overlaps_apart w 145 4 152 Tryz.underlying145 8 Tryz.sizeR ⟨b,0,none⟩ ⟨g,off,none⟩ 1 1 lb cb hbg 152 152 8 L.length (by simp [World.shape?,hb,RecV.cells]) (by simp [World.shape?,hg]) hL (by simp [World.frozen?,hb]) (by simp [World.frozen?,hb])]
 rfl
theorem qg6 (base g n c i b:Nat) (rs:List RecV) (r:RecV) (w:World) (hn:rs.length=n) (hn9:n≤100) (hi:i<n) (hroom:n+1≤c) (hown:w.ownsRow base 152 8 (.slice (some ⟨g,0,none⟩) n c) n (recs rs)) (hb:w.heap[b]?=some (.cells r.cells.toArray 152)) (hbg:b≠g) :
  Calls Tryz.prog 197 #[.slice (some ⟨g,0,none⟩) n c,.int .i64 i,.slice (some ⟨b,0,none⟩) 1 1] w fun e w' =>
   e=.returned (.slice (some ⟨g,0,none⟩) (n+1:Nat) c)∧w'.ownsRow base 152 8 (.slice (some ⟨g,0,none⟩) (n+1) c) (n+1) (recs (rs.take i++r :: rs.drop i))∧qaa (fun x=>x=g) w w':=by
 obtain ⟨tl,h1,h2,h3,h4,h5,h6⟩:=qaP hown
 obtain ⟨i0,hi0,hz0,hz1,hz2⟩:=info_parts Tryz.infoR
 have hdl:(recs (rs.drop i)).length=(n-i)*8:=by rw [qah,List.length_drop,hn]
 have htl:(recs (rs.take i)).length=i*8:=by rw [qah,List.length_take,hn,Nat.min_eq_left (by omega)]
 have hL:recs rs++tl=recs (rs.take i)++recs (rs.drop i)++tl:=by rw [←qa7,List.take_append_drop]
 rw [hL] at h1 h3
 have hLl:(recs (rs.take i)++recs (rs.drop i)++tl).length=c*8:=h3
 have htl8:8≤tl.length:=by rw [List.length_append,List.length_append,htl,hdl] at hLl;omega
 have hov:∀off lb cb,(callFunc 235 #[.slice (some ⟨b,0,none⟩) 1 1,.slice (some ⟨g,off,none⟩) lb cb]).run Tryz.prog w=.ok (.value (.bool false)) w:=fun off lb cb=>qgc w g b off lb cb r _ h1 (by rw [hLl];omega) hb hbg
 obtain ⟨W1,hW1⟩:∃W1,W1=w.drew.setCells g ((i+1)*8) (recs (rs.drop i)):=⟨_,rfl⟩
 have hcp1:∀ty dc sc,(Builtin.copy_ #[145,145] ty #[.slice (some ⟨g,(i+1)*8,none⟩) (n-i) dc,.slice (some ⟨g,i*8,none⟩) (n+1-i) sc]).run Tryz.prog w.drew=.ok (.int .i64 ((n-i:Nat):Int)) W1:=fun ty dc sc=>by
  have hmin:Nat.min (n+1-i) (n-i)=n-i:=Nat.min_eq_right (by omega)
  have h7:=qbl (P:=Tryz.prog) w.drew 145 145 ty 152 i0 g ((i+1)*8) (n-i) dc (some ⟨g,i*8,none⟩) (n+1-i) sc (recs (rs.drop i)) Tryz.underlying145 hi0 (by rw [hmin,hz1,hdl]) (fun h=>by cases h) (fun a ha k v hk=>by
   cases ha
   have hkl:k<(recs (rs.drop i)).length:=by
    rcases Nat.lt_or_ge k (recs (rs.drop i)).length with h | h
    ·exact h
    ·rw [List.getElem?_eq_none h] at hk;cases hk
   rw [qaW]
   show w.cell? _=_
   rw [qaZ h1,List.append_assoc,List.getElem?_append_right (by omega),htl,Nat.add_sub_cancel_left,List.getElem?_append_left hkl,hk]) (fun k hk=>qbF (w:=w) h1 (by rw [hLl];rw [hdl] at hk;omega)) (fun k _=>qam (w:=w) h1) (fun v hv=>qb9 _ v hv)
  rw [hmin,←hW1] at h7
  exact h7
 have hh1:W1.heap[g]?=some (.cells (over (recs (rs.take i)++recs (rs.drop i)++tl) ((i+1)*8) (recs (rs.drop i))).toArray 152):=by
  rw [hW1]
  exact qaH g _ _ _ _ w.drew h1 (by rw [hLl,hdl];omega)
 have hW1l:(over (recs (rs.take i)++recs (rs.drop i)++tl) ((i+1)*8) (recs (rs.drop i))).length=c*8:=by rw [qcN _ _ _ (by rw [hLl,hdl];omega),hLl]
 have hs1:qaa (fun x=>x=g) w W1:=by
  rw [hW1]
  exact (qaa.refl (fun x=>x=g) w).drew.trans (qa4 (fun x=>x=g) g rfl _ _ w.drew)
 have hb1:W1.heap[b]?=some (.cells r.cells.toArray 152):=hs1.heap hb hbg
 obtain ⟨W2,hW2⟩:∃W2,W2=W1.setCells g (i*8) r.cells:=⟨_,rfl⟩
 have hcp2:∀ty dc,(Builtin.copy_ #[145,145] ty #[.slice (some ⟨g,i*8,none⟩) (n+1-i) dc,.slice (some ⟨b,0,none⟩) 1 1]).run Tryz.prog W1=.ok (.int .i64 1) W2:=fun ty dc=>by
  have hmin:Nat.min 1 (n+1-i)=1:=Nat.min_eq_left (by omega)
  have h7:=qbl (P:=Tryz.prog) W1 145 145 ty 152 i0 g (i*8) (n+1-i) dc (some ⟨b,0,none⟩) 1 1 r.cells Tryz.underlying145 hi0 (by rw [hmin,hz1];rfl) (fun h=>by cases h) (fun a ha k v hk=>by
   cases ha
   rw [qaW,Nat.zero_add,qaZ hb1,hk]) (fun k hk=>qbF hh1 (by rw [hW1l];rw [RecV.cells_len] at hk;omega)) (fun k _=>qam hh1) (fun v hv=>RecV.one_cell r v hv)
  rw [hmin,←hW2] at h7
  exact h7
 have hs2:qaa (fun x=>x=g) w W2:=by
  rw [hW2]
  exact hs1.trans (qa4 (fun x=>x=g) g rfl _ _ W1)
 have HE:=hid (show W2.ownsRow base 152 8 (.slice (some ⟨g,0,none⟩) (n+1) c) (n+1) (recs (rs.take i++r :: rs.drop i)) from by
  have h8:=qaH g 152 r.cells (i*8) _ W1 hh1 (by rw [hW1l,RecV.cells_len];omega)
  rw [←hW2] at h8
  have h9:=qgV (recs (rs.take i)) (recs (rs.drop i)) tl r.cells (by rw [RecV.cells_len];exact htl8)
  rw [htl,RecV.cells_len,show i*8+8=(i+1)*8 by omega] at h9
  rw [h9] at h8
  have hA:recs (rs.take i++r :: rs.drop i)=recs (rs.take i)++r.cells++recs (rs.drop i):=by rw [qa7,qgl,List.append_assoc]
  rw [←List.append_assoc,←hA] at h8
  refine qey h8 ?_ ?_ (by omega) h5 h6
  ·rw [hA,List.length_append,List.length_append,htl,hdl,RecV.cells_len];omega
  ·rw [hA,List.length_append,List.length_append,List.length_append,htl,hdl,RecV.cells_len,List.length_drop]
   rw [List.length_append,List.length_append,htl,hdl] at hLl
   omega)
 have hz3:¬((i:Int)=(n:Int)):=by omega
 have hz4:¬((c:Int)<(n:Int)+1):=by omega
 have hz5:(i:Int)≤(n:Int):=by omega
 have hz6:(n:Int)+1≤(c:Int):=by omega
 have hz8:(i:Int)≤(n:Int)+1:=by omega
 have hz9:¬c=i:=by omega
 have hz10:¬c=i+1:=by omega
 clear h1 h2 h3 hL hLl hh1 hW1l hs1 hb1 hb hown hW1 hW2
 go_enter Tryz.func197,Tryz.ntmps197
 go_wp2_with (first | (simp only [hov])|fail)
 go_region
 go_wp2_with fail
 go_ret
 exact ⟨rfl,HE.out,hs2⟩
theorem qgP (base g n c i b:Nat) (rs:List RecV) (r:RecV) (w:World) (hn:rs.length=n) (hn9:n≤100) (hi:i<n) (hroom:c<n+1) (hown:w.ownsRow base 152 8 (.slice (some ⟨g,0,none⟩) n c) n (recs rs)) (hb:w.heap[b]?=some (.cells r.cells.toArray 152)) (hbase:base≤w.heap.size) :
  Calls Tryz.prog 197 #[.slice (some ⟨g,0,none⟩) n c,.int .i64 i,.slice (some ⟨b,0,none⟩) 1 1] w fun e w' =>
   ∃G,e=.returned (.slice (some ⟨w.heap.size,0,none⟩) (n+1:Nat) G)∧w'.ownsRow base 152 8 (.slice (some ⟨w.heap.size,0,none⟩) (n+1) G) (n+1) (recs (rs.take i++r :: rs.drop i))∧Below w.heap.size w w':=by
 obtain ⟨tl,h1,h2,h3,h4,h5,h6⟩:=qaP hown
 obtain ⟨i0,hi0,hz0,hz1,hz2⟩:=info_parts Tryz.infoR
 have hdl:(recs (rs.drop i)).length=(n-i)*8:=by rw [qah,List.length_drop,hn]
 have htl:(recs (rs.take i)).length=i*8:=by rw [qah,List.length_take,hn,Nat.min_eq_left (by omega)]
 have hL:recs rs++tl=recs (rs.take i)++recs (rs.drop i)++tl:=by rw [←qa7,List.take_append_drop]
 rw [hL] at h1 h3
 have hgw:=cells_lt h1
 have hbw:=cells_lt hb
 have hold:(Builtin.firstCells i0.size i (.slice (some ⟨g,0,none⟩) i c)).run Tryz.prog w.drew=.ok (recs (rs.take i)).toArray w.drew:=by
  rw [hz1]
  exact run_firstCells_some w.drew 8 i ⟨g,0,none⟩ i c (recs (rs.take i)) htl (fun k v hk=>by
   have hkl:k<(recs (rs.take i)).length:=by
    rcases Nat.lt_or_ge k (recs (rs.take i)).length with h | h
    ·exact h
    ·rw [List.getElem?_eq_none h] at hk;cases hk
   rw [qaW,Nat.zero_add]
   show w.cell? _=_
   rw [qaZ h1,List.append_assoc,List.getElem?_append_left hkl,hk])
 have hkk:(n:Int)+1-(i:Int)=((n+1-i:Nat):Int):=by omega
 have hik:i+(n+1-i)=n+1:=by omega
 obtain ⟨G,hG⟩:∃G,G=grownCap w (n+1) c 152:=⟨_,rfl⟩
 obtain ⟨Z1,hZ1⟩:∃Z1:List Value,Z1=(Builtin.zeroCells (Value.agg #[.string ByteArray.empty,.int .i64 0,.int .i64 0,.int .i64 0,.int .i64 0,.int .i64 0,.slice none 0 0,.slice none 0 0]).cells (n+1-i)).toList:=⟨_,rfl⟩
 obtain ⟨Z2,hZ2⟩:∃Z2:List Value,Z2=(Builtin.zeroCells (Value.agg #[.string ByteArray.empty,.int .i64 0,.int .i64 0,.int .i64 0,.int .i64 0,.int .i64 0,.slice none 0 0,.slice none 0 0]).cells (G-(n+1))).toList:=⟨_,rfl⟩
 have hZ1l:Z1.length=(n+1-i)*8:=by rw [hZ1];simp [Builtin.zeroCells,Value.cells]
 have hZ2l:Z2.length=(G-(n+1))*8:=by rw [hZ2];simp [Builtin.zeroCells,Value.cells]
 obtain ⟨W0,hW0⟩:∃W0,W0=w.drew.alloc (.cells (recs (rs.take i)++Z1++Z2).toArray 152):=⟨_,rfl⟩
 have hrz:∀ty,(Builtin.append_ #[145,3] ty #[.slice (some ⟨g,0,none⟩) i c,.int .i64 ((n:Int)+1-(i:Int))]).run Tryz.prog w=.ok (.slice (some ⟨w.heap.size,0,none⟩) (n+1) G) W0:=fun ty=>by
  have h:=Lib.run_append_grow_zeros w 145 3 ty 152 i0 _ .i64 .i64 Tryz.underlying145 Tryz.underlying3 hi0 hz0 (some ⟨g,0,none⟩) i c (recs (rs.take i)) hold (n+1-i) (by omega) (by omega) (by omega) (by omega) (by rw [hz2];omega) (by rw [hz2,hik];exact growslice_fits hroom (by omega))
  rw [hik,←hG] at h
  rw [hkk,h,hW0,hZ1,hZ2]
  congr 3
  rw [←List.append_toArray,←List.append_toArray]
 have hGn:n+1≤G:=by rw [hG];exact grownCap_ge w _ _ _
 have hGm:G≤maxLen:=by rw [hG];exact grownCap_le_maxLen w (n+1) c 152 (by unfold maxLen;omega)
 have hb0:Below w.heap.size w W0:=by rw [hW0];exact (Below.refl w.heap.size w).drew.alloc nl _
 have hh0:W0.heap[w.heap.size]?=some (.cells (recs (rs.take i)++Z1++Z2).toArray 152):=by rw [hW0];show (w.heap.push _)[w.heap.size]?=_;simp
 have hl0:(recs (rs.take i)++Z1++Z2).length=G*8:=by rw [List.length_append,List.length_append,htl,hZ1l,hZ2l];omega
 obtain ⟨W1,hW1⟩:∃W1,W1=W0.setCells w.heap.size (i*8) r.cells:=⟨_,rfl⟩
 have hcp1:∀ty dc,(Builtin.copy_ #[145,145] ty #[.slice (some ⟨w.heap.size,i*8,none⟩) (n+1-i) dc,.slice (some ⟨b,0,none⟩) 1 1]).run Tryz.prog W0=.ok (.int .i64 1) W1:=fun ty dc=>by
  have hmin:Nat.min 1 (n+1-i)=1:=Nat.min_eq_left (by omega)
  have h7:=qbl (P:=Tryz.prog) W0 145 145 ty 152 i0 w.heap.size (i*8) (n+1-i) dc (some ⟨b,0,none⟩) 1 1 r.cells Tryz.underlying145 hi0 (by rw [hmin,hz1];rfl) (fun h=>by cases h) (fun a ha k v hk=>by
   cases ha
   rw [qaW,Nat.zero_add,hb0.cell (p:=⟨b,k,none⟩) hbw,qaZ hb,hk]) (fun k hk=>qbF hh0 (by rw [hl0];rw [RecV.cells_len] at hk;omega)) (fun k _=>qam hh0) (fun v hv=>RecV.one_cell r v hv)
  rw [hmin,←hW1] at h7
  exact h7
 have hb1:Below w.heap.size w W1:=by rw [hW1];exact hb0.trans ((qa4 (fun x=>x=w.heap.size) w.heap.size rfl _ _ W0).below _ hb0.size (fun k hk=>by omega))
 have hh1:=qaH w.heap.size 152 r.cells (i*8) _ W0 hh0 (by rw [hl0,RecV.cells_len];omega)
 rw [←hW1] at hh1
 have hl1:=qcN (recs (rs.take i)++Z1++Z2) (i*8) r.cells (by rw [hl0,RecV.cells_len];omega)
 rw [hl0] at hl1
 obtain ⟨W2,hW2⟩:∃W2,W2=W1.drew.setCells w.heap.size ((i+1)*8) (recs (rs.drop i)):=⟨_,rfl⟩
 have hcp2:∀ty dc sc,(Builtin.copy_ #[145,145] ty #[.slice (some ⟨w.heap.size,(i+1)*8,none⟩) (n-i) dc,.slice (some ⟨g,i*8,none⟩) (n-i) sc]).run Tryz.prog W1.drew=.ok (.int .i64 ((n-i:Nat):Int)) W2:=fun ty dc sc=>by
  have hmin:Nat.min (n-i) (n-i)=n-i:=Nat.min_self _
  have h7:=qbl (P:=Tryz.prog) W1.drew 145 145 ty 152 i0 w.heap.size ((i+1)*8) (n-i) dc (some ⟨g,i*8,none⟩) (n-i) sc (recs (rs.drop i)) Tryz.underlying145 hi0 (by rw [hmin,hz1,hdl]) (fun h=>by cases h) (fun a ha k v hk=>by
   cases ha
   have hkl:k<(recs (rs.drop i)).length:=by
    rcases Nat.lt_or_ge k (recs (rs.drop i)).length with h | h
    ·exact h
    ·rw [List.getElem?_eq_none h] at hk;cases hk
   rw [qaW]
   show W1.cell? _=_
   rw [hb1.cell (p:=⟨g,i*8+k,none⟩) hgw,qaZ h1,List.append_assoc,List.getElem?_append_right (by omega),htl,Nat.add_sub_cancel_left,List.getElem?_append_left hkl,hk]) (fun k hk=>qbF (w:=W1) hh1 (by rw [hl1];rw [hdl] at hk;omega)) (fun k _=>qam (w:=W1) hh1) (fun v hv=>qb9 _ v hv)
  rw [hmin,←hW2] at h7
  exact h7
 have hb2:Below w.heap.size w W2:=by rw [hW2];exact hb1.drew.trans ((qa4 (fun x=>x=w.heap.size) w.heap.size rfl _ _ W1.drew).below _ hb1.size (fun k hk=>by omega))
 have HE:=hid (show W2.ownsRow base 152 8 (.slice (some ⟨w.heap.size,0,none⟩) (n+1) G) (n+1) (recs (rs.take i++r :: rs.drop i)) from by
  have h8:=qaH w.heap.size 152 (recs (rs.drop i)) ((i+1)*8) _ W1.drew hh1 (by rw [hl1,hdl];omega)
  rw [←hW2] at h8
  have h9:=qkq (recs (rs.take i)) r.cells (recs (rs.drop i)) Z1 Z2 (by rw [hZ1l,RecV.cells_len,hdl];omega)
  rw [htl,RecV.cells_len,show i*8+8=(i+1)*8 by omega] at h9
  rw [h9] at h8
  have hA:recs (rs.take i++r :: rs.drop i)=recs (rs.take i)++r.cells++recs (rs.drop i):=by rw [qa7,qgl,List.append_assoc]
  rw [←hA] at h8
  refine qey h8 ?_ ?_ hGn hGm hbase
  ·rw [hA,List.length_append,List.length_append,htl,hdl,RecV.cells_len];omega
  ·rw [hA,List.length_append,List.length_append,List.length_append,htl,hdl,RecV.cells_len,hZ2l];omega)
 have hz3:¬((i:Int)=(n:Int)):=by omega
 have hz4:(c:Int)<(n:Int)+1:=by omega
 have hz5:(i:Int)≤(n:Int):=by omega
 have hz6:(n:Int)≤(c:Int):=by omega
 have hz8:(i:Int)≤(n:Int)+1:=by omega
 have hz9:¬c=i:=by omega
 have hz10:¬G=i:=by omega
 have hz11:¬G=i+1:=by omega
 clear h1 h2 h3 hL hh1 hl1 hb1 hb hown hW1 hW2 hW0 hh0 hl0 hb0 hZ1 hZ2 hZ1l hZ2l hold hik hkk hG
 go_enter Tryz.func197,Tryz.ntmps197
 go_wp2_with (first | (at_builtin;refine Lib.wpList_append_run _ rfl _ _ _ _ rfl _ _ rfl rfl _ _ (hrz _) ?_)|fail)
 go_region
 go_wp2_with fail
 go_ret
 exact ⟨G,rfl,HE.out,hb2⟩
theorem qin (base n b:Nat) (v:Value) (rs:List RecV) (r:RecV) (w:World) (hn:rs.length=n) (hn9:n≤100) (hown:w.ownsRow base 152 8 v n (recs rs)) (hb:w.heap[b]?=some (.cells r.cells.toArray 152)) (hbase:base≤w.heap.size) :
  Calls Tryz.prog 197 #[v,.int .i64 n,.slice (some ⟨b,0,none⟩) 1 1] w fun e w' =>
   ∃v',e=.returned v'∧w'.ownsRow base 152 8 v' (n+1) (recs (rs++[r]))∧qaa (fun x=>v.ownBlock=some x) w w'∧(v'.ownBlock=v.ownBlock∨v'.ownBlock=some w.heap.size):=by
 obtain ⟨i0,hi0,hz0,hz1,hz2⟩:=info_parts Tryz.infoR
 obtain ⟨v',w',hr,h1,h2,h3⟩:=qce (P:=Tryz.prog) w base 145 145 152 i0 _ 8 104 Tryz.underlying145 hi0 hz0 hz1 hz2 rfl (by decide) v n (recs rs) hown ⟨b,0,none⟩ 1 1 r.cells rfl (fun j u hj=>by rw [qaW,Nat.zero_add,qaZ hb,hj]) (fun u hu=>RecV.one_cell r u hu) (by unfold maxLen;omega) (by omega) hbase (by decide)
 have HE:=hid (show w'.ownsRow base 152 8 v' (n+1) (recs (rs++[r]))∧qaa (fun x=>v.ownBlock=some x) w w'∧(v'.ownBlock=v.ownBlock∨v'.ownBlock=some w.heap.size) from ⟨by rw [qa7,qkZ];exact h1,qa5 h2,h3⟩)
 obtain ⟨a,c,rfl,hrd⟩:=qad hown
 have hnc:n≤c∧(a=none→n=0∧c=0):=by
  rcases hown.2 with ⟨h8,h9⟩|⟨g',cap,cur,h8,_,_,h9,_⟩
  ·cases h8;exact ⟨by omega,fun _=>⟨rfl,rfl⟩⟩
  ·cases h8;exact ⟨h9,nofun⟩
 have hz3:(n:Int)≤(c:Int):=by omega
 clear h1 h2 h3 hb hown hrd
 by_cases hcn:c=n
 ·subst hcn
  go_enter Tryz.func197,Tryz.ntmps197
  go_wp2_with (first | (at_builtin;refine Lib.wpList_append_run _ rfl _ _ _ _ rfl _ _ rfl rfl _ _ hr ?_)|fail)
  go_ret
  exact ⟨v',rfl,HE.out⟩
 ·go_enter Tryz.func197,Tryz.ntmps197
  go_wp2_with (first | (at_builtin;refine Lib.wpList_append_run _ rfl _ _ _ _ rfl _ _ rfl rfl _ _ hr ?_)|fail)
  go_ret
  exact ⟨v',rfl,HE.out⟩
theorem qiy (base n i b:Nat) (v:Value) (rs:List RecV) (r:RecV) (w:World) (hn:rs.length=n) (hn9:n≤100) (hi:i≤n) (hown:w.ownsRow base 152 8 v n (recs rs)) (hb:w.heap[b]?=some (.cells r.cells.toArray 152)) (hbv:v.ownBlock≠some b) (hbase:base≤w.heap.size) :
  Calls Tryz.prog 197 #[v,.int .i64 i,.slice (some ⟨b,0,none⟩) 1 1] w fun e w' =>
   ∃v',e=.returned v'∧w'.ownsRow base 152 8 v' (n+1) (recs (rs.take i++r :: rs.drop i))∧qaa (fun x=>v.ownBlock=some x) w w'∧(v'.ownBlock=v.ownBlock∨v'.ownBlock=some w.heap.size):=by
 rcases Nat.lt_or_eq_of_le hi with hlt | rfl
 ·rcases hown.2 with ⟨_,h0⟩|⟨g,c,cur,rfl,_⟩
  ·omega
  ·by_cases hroom:n+1≤c
   ·refine (qg6 base g n c i b rs r w hn hn9 hlt hroom hown hb (fun e=>hbv (by rw [e];rfl))).mono ?_
    rintro e w' ⟨rfl,h1,h2⟩
    exact ⟨_,rfl,h1,h2.mono fun k hk=>by rw [hk];rfl,.inl rfl⟩
   ·refine (qgP base g n c i b rs r w hn hn9 hlt (by omega) hown hb hbase).mono ?_
    rintro e w' ⟨G,rfl,h1,h2⟩
    exact ⟨_,rfl,h1,qaa.ofBelow h2 nl,.inr rfl⟩
 ·have hA:rs.take i++r :: rs.drop i=rs++[r]:=by rw [←hn,List.take_length,List.drop_length]
  rw [hA]
  exact qin base i b v rs r w hn hn9 hown hb hbase
structure Ob where
 name:ByteArray
 mode:Nat
 t:Nat
 l:Nat
 size:Nat
 epoch:Nat
  deriving DecidableEq
instance : Inhabited Ob:=⟨⟨ByteArray.empty,0,0,0,0,0⟩⟩
def Ob.cells (r:Ob):List Value:=[.string r.name,.int .i64 r.mode,.int .i64 r.t,.int .i64 r.l,.int .i64 r.size,.int .i64 r.epoch]
def obs (l:List Ob):List Value:=l.flatMap Ob.cells
def RecV.ob (r:RecV):Ob:=⟨r.name,r.mode,r.t,r.l,r.size,r.epoch⟩
theorem qkE (rs:List RecV):objs rs=obs (rs.map RecV.ob):=by
 unfold objs obs
 rw [List.flatMap_map]
 rfl
theorem qeJ (rs:List Ob):(obs rs).length=rs.length*6:=by
 induction rs with
 | nil=>rfl
 | cons r rs ih=>simp only [obs,List.flatMap_cons,List.length_append] at ih ⊢;rw [ih];simp [Ob.cells];omega
theorem qkM (rs:List Ob) (k j:Nat) (hk:k<rs.length) (hj:j<6):(obs rs)[k*6+j]?=(rs[k]).cells[j]?:=by
 induction rs generalizing k with
 | nil=>simp at hk
 | cons r rs ih =>
  cases k with
  | zero =>
   simp only [obs,List.flatMap_cons,List.getElem_cons_zero,Nat.zero_mul,Nat.zero_add]
   rw [List.getElem?_append_left (by simp [Ob.cells];exact hj)]
  | succ k =>
   have:=ih k (by simpa using hk)
   simp only [obs,List.flatMap_cons,List.getElem_cons_succ] at this ⊢
   rw [←this,List.getElem?_append_right (by simp [Ob.cells];omega),show (k+1)*6+j-r.cells.length=k*6+j by simp [Ob.cells];omega]
theorem qhT (a b:List Ob):obs (a++b)=obs a++obs b:=by simp [obs]
theorem ob_at {w:World} {b o:Nat} {rs:List Ob} (h:Rd w (some ⟨b,o,none⟩) (obs rs)) (k:Nat) (hk:k<rs.length):b<w.heap.size ∧
  w.cell? ⟨b,o+k*6,none⟩=some (.string (rs[k]!).name)∧w.cell? ⟨b,o+k*6+1,none⟩=some (.int .i64 (rs[k]!).mode)∧w.cell? ⟨b,o+k*6+2,none⟩=some (.int .i64 (rs[k]!).t)∧w.cell? ⟨b,o+k*6+3,none⟩=some (.int .i64 (rs[k]!).l) ∧
  w.cell? ⟨b,o+k*6+4,none⟩=some (.int .i64 (rs[k]!).size)∧w.cell? ⟨b,o+k*6+5,none⟩=some (.int .i64 (rs[k]!).epoch):=by
 rw [getElem!_pos rs k hk]
 have key:∀j v,j<6→(rs[k]).cells[j]?=some v→b<w.heap.size∧w.cell? ⟨b,o+(k*6+j),none⟩=some v:=by
  intro j v hj hv
  obtain ⟨b',o',h1,h2,h3⟩:=h (k*6+j) v (by rw [qkM rs k j hk hj];exact hv)
  simp at h1
  obtain ⟨rfl,rfl⟩:=h1
  exact ⟨h2,h3⟩
 refine ⟨(key 0 _ (by decide) rfl).1,?_,?_,?_,?_,?_,?_⟩
 ·exact (key 0 _ (by decide) rfl).2
 ·exact (key 1 _ (by decide) rfl).2
 ·exact (key 2 _ (by decide) rfl).2
 ·exact (key 3 _ (by decide) rfl).2
 ·exact (key 4 _ (by decide) rfl).2
 ·exact (key 5 _ (by decide) rfl).2
theorem qe1 (x y:Ob):(x=y)↔x.name=y.name∧x.mode=y.mode∧x.t=y.t∧x.l=y.l∧x.size=y.size∧x.epoch=y.epoch:=by
 constructor
 ·rintro rfl;exact ⟨rfl,rfl,rfl,rfl,rfl,rfl⟩
 ·rintro ⟨h1,h2,h3,h4,h5,h6⟩
  obtain ⟨a1,a2,a3,a4,a5,a6⟩:=x
  obtain ⟨b1,b2,b3,b4,b5,b6⟩:=y
  simp only at h1 h2 h3 h4 h5 h6
  rw [h1,h2,h3,h4,h5,h6]
theorem bytes_beq (a b:ByteArray):(a.toList == b.toList)=decide (a=b):=by
 rw [ByteArray.toList_eq,ByteArray.toList_eq]
 by_cases h:a=b
 ·subst h;simp
 ·have:¬a.data.toList=b.data.toList:=fun e=>h (qg9 e)
  rw [decide_eq_false h,beq_eq_false_iff_ne]
  exact this
theorem qlI (x y:Ob) (w:World):(binOp .eql 55 (.agg #[.string x.name,.int .i64 x.mode,.int .i64 x.t,.int .i64 x.l,.int .i64 x.size,.int .i64 x.epoch]) (.agg #[.string y.name,.int .i64 y.mode,.int .i64 y.t,.int .i64 y.l,.int .i64 y.size,.int .i64 y.epoch])).run Tryz.prog w=.ok (.bool (decide (x=y))) w:=by
 have u3:=Tryz.underlying3
 have u9:=Tryz.underlying9
 have uP:=Tryz.underlying29
 have hS:Tryz.prog.underlying 55=some (.struct (Tryz.prog.fieldsOf 55)):=by kernel_rfl
 have hp:Tryz.prog.stoodInHeld 55=false:=by kernel_rfl
 have hS2:Tryz.prog.underlying 29=some (.struct (Tryz.prog.fieldsOf 29)):=by kernel_rfl
 have hp2:Tryz.prog.stoodInHeld 29=false:=by kernel_rfl
 rw [run_eql_struct,show (10000:Nat)=9999+1 from rfl,run_equalIn_agg w 9999 55 _ _ hS hp]
 simp only [Program.fieldsOf,Tryz.underlying55]
 go_simp
 have hn:(x.name.toList=y.name.toList)↔(x.name=y.name):=by rw [ByteArray.toList_eq,ByteArray.toList_eq];exact ⟨qg9,fun h=>by rw [h]⟩
 simp only [hn,Int.natCast_inj]
 by_cases h1:x.name=y.name<;>by_cases h2:x.mode=y.mode<;>by_cases h3:x.t=y.t<;>by_cases h4:x.l=y.l<;>by_cases h5:x.size=y.size<;>by_cases h6:x.epoch=y.epoch<;>simp [qe1,h1,h2,h3,h4,h5,h6]
theorem neqOb (x y:Ob) (w:World):(binOp .neq 55 (.agg #[.string x.name,.int .i64 x.mode,.int .i64 x.t,.int .i64 x.l,.int .i64 x.size,.int .i64 x.epoch]) (.agg #[.string y.name,.int .i64 y.mode,.int .i64 y.t,.int .i64 y.l,.int .i64 y.size,.int .i64 y.epoch])).run Tryz.prog w=.ok (.bool (!decide (x=y))) w:=by
 have h:=qlI x y w
 have e:∀a b,(binOp .neq 55 (.agg a) (.agg b)).run Tryz.prog w=((binOp .eql 55 (.agg a) (.agg b)).run Tryz.prog w).andThen fun v w'=>match v with | .bool t=>.ok (.bool (!t)) w' | v=>.ok v w':=by
  intro a b
  simp only [binOp,Sem.run_bind]
  generalize (Op.equal 55 (.agg a) (.agg b)).run Tryz.prog w=r
  cases r<;>rfl
 rw [e,h]
 rfl
attribute [local go_sem ↓] qlI neqOb
def qdY (L:List Ob):Bool:=decide (L≠[]∧∀j,j<L.length→L[j]! = L[0]!)
theorem qfv {P:Program} (w:World) (t e ty:TypeId) (z:Value) (ht:P.underlying t=some (.slice e)) (hv:∀w,(zeroValue e).run P w=.ok z w) (h1:∀v∈z.cells,v.oneCell'=true) (b o n c:Nat) (hn:0<n)
  (hc:∀j,j<n*z.cells.size→(w.cell? ⟨b,o+j,none⟩).isSome=true) (hf:∀j,j<n*z.cells.size→w.frozen? ⟨b,o+j,none⟩=false) :
  (Builtin.clear_ #[t] ty #[.slice (some ⟨b,o,none⟩) n c]).run P w=.ok (.tuple #[]) (w.setCells b o (Builtin.zeroCells z.cells n).toList):=by
 have hlen:(Builtin.zeroCells z.cells n).toList.length=n*z.cells.size:=by simp [Builtin.zeroCells]
 have hst:=run_storeCells_cells (P:=P) b o (Builtin.zeroCells z.cells n).toList 0 w (by rw [hlen];simpa using hc) (by rw [hlen];simpa using hf) (by
  intro v hv'
  simp only [Builtin.zeroCells,Array.toList_map,List.mem_map,Array.toList_range,List.mem_range] at hv'
  obtain ⟨i,hi,rfl⟩:=hv'
  have h0:0<z.cells.size:=by
   rcases Nat.eq_zero_or_pos z.cells.size with h | h
   ·rw [h] at hi;omega
   ·exact h
  rw [getElem!_pos z.cells _ (Nat.mod_lt _ h0)]
  exact h1 _ (Array.getElem_mem _))
 simp only [Nat.add_zero] at hst
 obtain ⟨m,rfl⟩:∃m,n=m+1:=⟨n-1,by omega⟩
 simp [Builtin.clear_,run_underlying ht,hv,hst]
end Go.Proofs.YtcegdgmbponapaaGreatDoor