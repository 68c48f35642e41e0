import Derived.Test.YtcegdgmbponapaaGreatDoorPart23
set_option maxRecDepth 100000
set_option maxHeartbeats 4000000
namespace Go.Proofs.YtcegdgmbponapaaGreatDoor
open Go.RowKit
section
variable {w:World} {L:Seat} {s:Sta}
end
attribute [local go_sem ↓] Go.wp_at_zero Go.wp_at_succ
theorem qkG (V key n B bc:Nat) (sp:Nat→Nat) (i:Nat) (w:World) (h:Va w V key n B 0 bc sp) (hi:i<n) :
  Calls Tryz.prog 82 #[.pointer (some ⟨V,0,none⟩),.int .i64 i] w fun e w'=>e=.returned (.tuple #[.pointer (some ⟨sp i,0,none⟩),.nilIface])∧w'=w:=by
 have c1:=h.c1
 have k:=h.st i hi
 rw [Nat.zero_add] at k
 have hi':(i:Int)<(n:Int):=by omega
 have hi0:¬(i:Int)<0:=by omega
 clear h
 go_enter Tryz.func82,Tryz.ntmps82
 go_wp2
 go_ret2
 exact ⟨rfl,rfl⟩
theorem vup_va (V key n B bc:Nat) (sp:Nat→Nat) (i:Nat) (up old:Bool) (w:World) (h:Va w V key n B 0 bc sp) (hi:i<n) (hc:w.cell? ⟨sp i,0,none⟩=some (.bool old)) (hf:w.frozen? ⟨sp i,0,none⟩=false) :
  Calls Tryz.prog 46 #[.pointer (some ⟨V,0,none⟩),.int .i64 i,.bool up] w fun e w'=>e=.returned .nilIface∧w'=w.setCell ⟨sp i,0,none⟩ (.bool (!up)):=by
 have HO:=hid (qkG V key n B bc sp i w h hi)
 have HS:=hid (qiU (sp i) up old w hc hf)
 clear h hc hf
 go_enter Tryz.func46,Tryz.ntmps46
 go_wp2_with (go_at_call 82;refine HO.out.mono ?_;rintro e w0 ⟨rfl,rfl⟩)
 refine HS.out.mono ?_
 rintro e w1 ⟨rfl,rfl⟩
 go_wp2
 go_ret
 exact ⟨rfl,rfl⟩
theorem qkP {mode t l n:Nat} (hp:qaj mode t l n) (size:Nat) (ss:List Nat) (rows:List (List UInt8)):(Cof.join mode t l size ss rows).length=size:=by
 unfold Cof.join
 rw [List.length_take,Cof.gather_length]
 have h1:(Cof.carry (ss.map fun s=>UInt8.ofNat (1+s)) rows (Cof.groupAt mode t l)).length=Cof.gsize mode t l:=by rw [←Cof.groupAt_length];simp [Cof.carry]
 rw [h1]
 have h2:=(qcB hp).1
 have h3:size≤Cof.ngroups mode t l size*Cof.gsize mode t l:=by
  unfold Cof.ngroups
  have h4:=Nat.div_add_mod (size+Cof.gsize mode t l-1) (Cof.gsize mode t l)
  have h5:=Nat.mod_lt (size+Cof.gsize mode t l-1) h2
  rw [Nat.mul_comm] at h4
  omega
 omega
section
variable {w:World} {L:Seat} {s:Sta}
theorem Bank.up_go (h:Bank w L s) (i:Nat) (hi:i<L.n) (up:Bool) :
  Calls Tryz.prog 21 #[.pointer (some ⟨L.C,0,none⟩),.int .i64 i,.bool up] w fun e w'=>e=.returned (.int .i64 0)∧Bank w' L ⟨fun j=>if j=i then !up else s.dn j,s.vs,s.rss,s.p,s.X⟩∧qaa (Mine L s) w w':=by
 have hs:=h.st i hi
 refine (qlW L.C L.V i up w _ h.cf (vup_va L.V L.key L.n L.B L.bc L.sp i up (s.dn i) w (Vt.va h.vp) hi (cq hs.hp rfl) (qam hs.hp))).mono ?_
 rintro e w' ⟨rfl,rfl⟩
 have hsp1:qaa (fun b=>b=L.sp i) w (w.setCell ⟨L.sp i,0,none⟩ (.bool (!up))):=(qaa.refl (fun b=>b=L.sp i) w).setCell (p:=⟨L.sp i,0,none⟩) rfl _
 have hsp:qaa (fun b=>b=L.V∨qaA L.n L.sp s.vs b) w (w.setCell ⟨L.sp i,0,none⟩ (.bool (!up))):=hsp1.mono fun b hb=>.inr ⟨i,hi,.inl hb⟩
 obtain ⟨Lb,hL,_⟩:=h.vp.hb
 refine ⟨rfl,h.next _ hsp (h.vp.keeps hsp1 (fun e=>?_) (fun e=>?_)) (fun j hj=>?_) (fun _ _=>.inl rfl) h.vi (fun j hj r hr=>h.stays hsp s.X (fun _ _=>rfl) j hj r hr) h.ap,Mine.of hsp⟩
 ·have:=h.vp.hp;rw [e,hs.hp] at this;cases this
 ·rw [e,hs.hp] at hL;cases hL
 ·have hj':=h.st j hj
  by_cases hji:j=i
  ·subst hji
   simp only [if_true]
   refine ⟨?_,qab hj'.row hsp1 (fun b hb e=>hj'.ne b hb e),hj'.so,hj'.le⟩
   rw [qan _ hj'.hp]
   rfl
  ·simp only [hji,if_false]
   exact hj'.keeps hsp1 (h.si j i hj hi hji) (fun b hb e=>by subst e;exact row_ne hj'.row hs.hp (by decide) hb)
def qbS (X:Nat→List UInt8) (g p:Nat) (d:UInt8) (b:Nat):List UInt8:=if b=g then Cof.spoil (X g) p d else X b
theorem Bank.spoil_go (h:Bank w L s) (hcr:s.p.crashed=false) (i:Nat) (hi:i<L.n) (nm:ByteArray) (hyes:hasName (s.rss i) nm=true) (p:Nat) (hp:p<(qac (s.rss i) nm).sn) (d:UInt8) :
  Calls Tryz.prog 23 #[.pointer (some ⟨L.C,0,none⟩),.int .i64 i,.string nm,.int .i64 p,.int .u8 d.toNat] w fun e w'=>e=.returned (.int .i64 0)∧Bank w' L ⟨s.dn,s.vs,s.rss,s.p,qbS s.X (blkNo (qac (s.rss i) nm).sa) p d⟩∧qaa (Mine L s) w w':=by
 obtain ⟨a,c,_,hst⟩:=(h.st i hi).st
 have hm:=qas hyes
 have hg:=h.ok i hi _ hm.1
 obtain ⟨g,hsa,hgm,_⟩:=hg.sa
 have hat:=hg.own.at hsa p hp
 have hngz:(qac (s.rss i) nm).sn≤1000:=by
  have h1:=hg.sn
  have h2:=qao hg.plan _ hg.z
  have h3:=hg.n12
  omega
 have hrd:=(h.ask hcr).rd
 refine qi1 L.C L.V i p d nm w _ h.cf (qiJ L.V L.key L.n L.B L.bc L.sp i p d nm w _ hrd hi ((qiw (L.sp i) (s.dn i) a c (s.rss i) (qac (s.rss i) nm) nm g p (((qac (s.rss i) nm).x s.X).getD p 0) d w hst hyes rfl hsa hngz hp hat.1 hat.2.1 hat.2.2).mono ?_))
 rintro e w' ⟨rfl,w1,hb1,hb2⟩
 have hs1:qaa (fun b=>b=g) w w1:=qaa.ofBelow hb1 nl
 have hsp:qaa (fun b=>b=g) w w':=(hs1.setCell (own:=fun b=>b=g) (p:=⟨g,p,none⟩) rfl _).trans (qaa.ofBelow hb2 (by simp))
 obtain ⟨_,cs,fz,hgh⟩:=hg.at hgm
 obtain ⟨n1,n2,n3,n4⟩:=h.not_own hgh
 have hgb:=hg.own
 have hblk:blkNo (qac (s.rss i) nm).sa=g:=by rw [hsa];rfl
 obtain ⟨Lb,hL,_⟩:=h.vp.hb
 have keepB:∀(r:RecV) (b:Nat),b∈r.blks→b≠g→qbS s.X g p d b=s.X b:=fun r b _ hb=>by unfold qbS;rw [if_neg hb]
 rw [hblk]
 refine ⟨rfl,?_,hsp.mono fun b e=>.inr (.inr ⟨i,hi,_,hm.1,by rw [e];exact hgm⟩)⟩
 refine ⟨h.cf.keeps hsp (fun e=>n1 e.symm),h.vp.keeps hsp (fun e=>n2 e.symm) (fun e=>n3 e.symm),h.n1,h.n8,h.hk,fun j hj=>(h.st j hj).keeps hsp (fun e=>n4 ⟨j,hj,.inl e.symm⟩) (fun b hb e=>n4 ⟨j,hj,.inr (by rw [←e];exact hb)⟩),h.si,h.vi,h.G.spared hsp (fun b e=>by rw [e];exact (hg.at hgm).1),h.bC,h.bV,h.bB,h.bsp,h.bv,fun j hj r hr=>?_,h.ap⟩
 have hr':=h.ok j hj r hr
 by_cases hin:g∈r.blks
 ·obtain ⟨rfl,e⟩:=h.ap j i hj hi r hr _ hm.1 g hin hgm
  rw [e]
  have hb:Bytes w' L.base (qac (s.rss j) nm).sa (qac (s.rss j) nm).sn (qac (s.rss j) nm).sc ((qac (s.rss j) nm).x (qbS s.X g p d)):=by
   have h1:=(hgb.keeps (qaa.ofBelow (own:=fun _=>False) hb1 nl) (fun _ _ h=>h)).set hsa p (((qac (s.rss j) nm).x s.X).getD p 0^^^d)
   have h2:=h1.keeps (qaa.ofBelow (own:=fun _=>False) hb2 (by simp)) (fun _ _ h=>h)
   have e2:(qac (s.rss j) nm).x (qbS s.X g p d)=((qac (s.rss j) nm).x s.X).set p (((qac (s.rss j) nm).x s.X).getD p 0^^^d):=by
    unfold RecV.x qbS
    rw [hblk,if_pos rfl]
    rfl
   rw [e2]
   exact h2
  refine ⟨hg.plan,hg.z,hg.e,hg.m1,hg.n1,hg.n12,hg.sn,hb,?_⟩
  rcases hg.nx with hn | ⟨k1,k2,k3,k4,k5,k6⟩
  ·exact .inl hn
  ·have k6':blkNo (qac (s.rss j) nm).na≠g:=by rw [←hblk];exact k6
   refine .inr ⟨k1,k2,k3,k4,?_,k6⟩
   have e2:(qac (s.rss j) nm).y (qbS s.X g p d)=(qac (s.rss j) nm).y s.X:=by
    unfold RecV.y qbS
    rw [if_neg k6']
   rw [e2]
   refine k5.keeps hsp (fun b hb e=>k6' ?_)
   rw [hb,←e]
   rfl
 ·exact hr'.keeps hsp (fun b hb e=>hin (by rw [←e];exact hb)) (fun b hb=>keepB r b hb (fun e=>hin (by rw [←e];exact hb)))
end
theorem qlD (rs:List RecV) (k j:Nat) (hk:k<rs.length) (hj:j<6):(objs rs)[k*6+j]?=(rs[k]!).obj[j]?:=by
 rw [getElem!_pos rs k hk]
 induction rs generalizing k with
 | nil=>simp at hk
 | cons r rs ih =>
  cases k with
  | zero =>
   simp only [objs,List.flatMap_cons,List.getElem_cons_zero,Nat.zero_mul,Nat.zero_add]
   rw [List.getElem?_append_left (by simp [RecV.obj];exact hj)]
  | succ k =>
   have:=ih k (by simpa using hk)
   simp only [objs,List.flatMap_cons,List.getElem_cons_succ] at this ⊢
   rw [←this,List.getElem?_append_right (by simp [RecV.obj];omega),show (k+1)*6+j-r.obj.length=k*6+j by simp [RecV.obj];omega]
theorem qg1 (C V key n B bc:Nat) (sp:Nat→Nat) (down:Bool) (v:Value) (rs:List RecV) (w:World) (hc:Cf w C V) (h:Rdy w V key n B bc sp) (hs:Sto w (sp 0) down v rs) (hnm:∀k,k<rs.length→(rs[k]!).name.size≤1000) :
  Calls Tryz.prog 27 #[.pointer (some ⟨C,0,none⟩)] w fun e w'=>∃ov,e=.returned ov∧w'.ownsRow w.heap.size 55 6 ov rs.length (objs rs)∧Below w.heap.size w w':=by
 have c0:w.cell? ⟨C,0,none⟩=some (.pointer (some ⟨V,0,none⟩)):=cq hc rfl
 have HV:=hid (qc8 V key n B bc sp down v rs w h hs)
 have hle:=hs.le
 have HNM:=hid hnm
 obtain ⟨m,hm⟩:∃m,m=rs.length:=⟨_,rfl⟩
 rw [←hm] at HV hle ⊢
 have HM:=hid hm
 clear hc h hs hnm hm
 go_enter Tryz.func27,Tryz.ntmps27
 go_wp2_with fail
 refine HV.out.mono ?_
 rintro e w1 ⟨ov,rfl,hown,hb1⟩
 have HO:=hid hown
 obtain ⟨oa,oc,rfl,_⟩:=qad hown
 clear hown
 go_wp2_with fail
 go_loopw [12] (fun u wr=>∃(k:Nat),k≤m∧u=.int .i64 k∧Below w1.heap.size w1 wr) (fun u _=>m-(intOf u).toNat)
 case atStart=>exact ⟨0,Nat.zero_le _,rfl,bl⟩
 case round =>
  obtain ⟨k,hk,rfl,hbr⟩:=hrel
  have hor:=qal HO.out hbr nl
  by_cases hkm:k<m
  ·have hkm':(k:Int)<(m:Int):=by omega
   obtain ⟨g,cap,hv,hg1,hg2⟩:=qb4 hor (by omega)
   cases hv
   have hcell:∀w':World,w'.ownsRow w.heap.size 55 6 (.slice (some ⟨g,0,none⟩) m oc) m (objs rs)→w'.cell? ⟨g,k*6,none⟩=some (.string (rs[k]!).name):=fun w' ho=>by
    have e:=qlD rs k 0 (by rw [←HM.out];exact hkm) (by decide)
    rw [ho.cellAt (k*6) (by omega)]
    exact e
   have hnk:=HNM.out k (by rw [←HM.out];exact hkm)
   obtain ⟨nk,en⟩:∃nk,nk=(rs[k]!).name:=⟨_,rfl⟩
   rw [←en] at hnk hcell
   have q0:=hcell wr hor
   have HCE:=hid hcell
   clear hor hcell en
   go_wp2_with fail
   refine (qfg nk wr (by omega)).mono ?_
   rintro e w4 ⟨rfl,hb4⟩
   have hbr4:=hbr.trans (hb4.mono hbr.size)
   have hor4:=qal HO.out hbr4 nl
   have q4:=HCE.out w4 hor4
   have f4:w4.frozen? ⟨g,k*6,none⟩=false:=hor4.frozenAt (k*6)
   have HSS:=hid (qdA q4)
   clear hor4
   go_wp2_with fail
   go_roundw
   case rel=>exact ⟨k+1,by omega,by go_num,by rw [HSS.out];exact hbr4⟩
   case measure=>simp [intOf];omega
  ·have hk1:k=m:=by omega
   subst hk1
   have HOR:=hid hor
   clear hor
   go_wp2_with fail
   go_ret
   exact ⟨_,rfl,HOR.out,hb1.trans (hbr.mono hb1.size)⟩
section
variable {w:World} {L:Seat} {s:Sta}
theorem Bank.objects_go (h:Bank w L s) (hcr:s.p.crashed=false) :
  Calls Tryz.prog 27 #[.pointer (some ⟨L.C,0,none⟩)] w fun e w'=>∃ov,e=.returned ov∧w'.ownsRow w.heap.size 55 6 ov (s.rss 0).length (objs (s.rss 0))∧Below w.heap.size w w':=by
 have h0:0<L.n:=h.n1
 refine qg1 L.C L.V L.key L.n L.B L.bc L.sp (s.dn 0) (s.vs 0) (s.rss 0) w h.cf (h.ask hcr).rd (h.st 0 h0) (fun k hk=>?_)
 rw [getElem!_pos _ k hk]
 have:=(h.ok 0 h0 _ (List.getElem_mem hk)).n12
 omega
open Classical in
theorem qeZ (key mode t l n epoch size:Nat) (nm:ByteArray) (len:Nat) (down:Nat→Bool) (X:Nat→List UInt8):∃bad P,qd7 key mode t l n epoch size nm len down bad X P:=by
 refine ⟨fun i=>decide (¬∃Q,Cof.Good key (Cof.head mode t l n i epoch size nm.data.toList) len (X i) Q),fun i=>if hq:∃Q,Cof.Good key (Cof.head mode t l n i epoch size nm.data.toList) len (X i) Q then Classical.choose hq else [],fun i _ _=>⟨fun hb=>?_,fun hb=>of_decide_eq_true hb⟩⟩
 have hq:∃Q,Cof.Good key (Cof.head mode t l n i epoch size nm.data.toList) len (X i) Q:=Classical.byContradiction fun h=>by
  have:=of_decide_eq_false hb
  exact this h
 simp only [dif_pos hq]
 exact Classical.choose_spec hq
theorem Bank.get_go (h:Bank w L s) (hc:Calm L s) (nm:ByteArray) (hyes:hasName (s.rss 0) nm=true) (o:Ob) (ho:o=(qac (s.rss 0) nm).ob) (bad:Nat→Bool) (P:Nat→List UInt8)
  (hJ:qd7 L.key o.mode o.t o.l L.n o.epoch o.size nm (Cof.ngroups o.mode o.t o.l o.size) s.dn bad (fun i=>(qac (s.rss i) nm).x s.X) P) :
  Calls Tryz.prog 24 #[.pointer (some ⟨L.C,0,none⟩),.string nm] w fun e w' =>
   (if Cof.gsize o.mode o.t o.l+Cof.tsize o.mode o.t≤(upTo (fun i=>s.dn i || bad i) L.n).length then
    e=.returned (.tuple #[.string ⟨(Cof.join o.mode o.t o.l o.size ((upTo (fun i=>s.dn i || bad i) L.n).take (Cof.gsize o.mode o.t o.l+Cof.tsize o.mode o.t)) (((upTo (fun i=>s.dn i || bad i) L.n).take (Cof.gsize o.mode o.t o.l+Cof.tsize o.mode o.t)).map P)).toArray⟩,.int .i64 0])
   else e=.returned (.tuple #[.string ByteArray.empty,.int .i64 10]))∧Below w.heap.size w w':=by
 obtain ⟨hH,hall,hon⟩:=h.held hc nm hyes o ho
 have hg:=(hall 0 h.n1).2.2.1
 have hob:=(hall 0 h.n1).2.1
 obtain ⟨onm,om,ot,ol,oz,oe⟩:=o
 simp only at hH hon hJ ⊢
 subst hon
 simp only [RecV.ob,Ob.mk.injEq] at hob
 obtain ⟨e1,e2,e3,e4,e5,e6⟩:=hob
 have hp:qaj om ot ol L.n:=by have:=hg.plan;rw [e2,e3,e4] at this;exact this
 have hz:oz≤60:=by have:=hg.z;omega
 have he:oe≤100:=by have:=hg.e;omega
 have hn1:1≤onm.size:=by have:=hg.n1;rw [e1] at this;exact this
 have hn12:onm.size≤12:=by have:=hg.n12;rw [e1] at this;exact this
 have hng:=qao hp oz hz
 by_cases hen:Cof.gsize om ot ol+Cof.tsize om ot≤(upTo (fun i=>s.dn i || bad i) L.n).length
 ·simp only [if_pos hen]
  exact qlK L.C L.V oz onm _ w h.cf (qkP hp oz _ _).symm (qjO L.base L.V L.key L.n L.B L.bc L.sp s.dn bad om ot ol oz oe onm _ P s.vs s.rss w hH hp he hz hn1 hn12 h.hk hng hJ h.G.tb _ rfl hen _ rfl)
 ·simp only [if_neg hen]
  exact qjR L.C L.V 3 10 onm w h.cf (by omega) h.G.et (qgn L.base L.V L.key L.n L.B L.bc L.sp s.dn bad om ot ol oz oe onm _ P s.vs s.rss w hH hp he hz hn1 hn12 h.hk hng hJ h.G.tb (by omega))
end
def No (w:World) (e:Ending) (w':World):Prop:=∃k:Int,e=.returned (.int .i64 k)∧k≠0∧k≠1∧Below w.heap.size w w'
theorem qfO (n:Nat) (p:Nat→Prop) (h:¬∀i,i<n→p i):∃m,m<n∧(∀i,i<m→p i)∧¬p m:=by
 induction n with
 | zero=>exact absurd (fun i hi=>by omega) h
 | succ n ih =>
  by_cases hn:∀i,i<n→p i
  ·exact ⟨n,Nat.lt_succ_self _,hn,fun hp=>h fun i hi=>by
    rcases Nat.lt_or_eq_of_le (Nat.lt_succ_iff.1 hi) with h' | rfl
    ·exact hn i h'
    ·exact hp⟩
  ·obtain ⟨m,h1,h2,h3⟩:=ih hn
   exact ⟨m,by omega,h2,h3⟩
theorem qjV (n:Nat) (dn:Nat→Bool):(∀i,i<n→dn i=false)∨∃i,i<n∧dn i=true:=by
 by_cases h:∀i,i<n→dn i=false
 ·exact .inl h
 ·obtain ⟨m,h1,_,h3⟩:=qfO n _ h
  exact .inr ⟨m,h1,by cases hq:dn m with | true=>rfl | false=>exact absurd hq h3⟩
section
variable {w:World} {L:Seat} {s:Sta}
end
theorem Tryz.infoBs:(Tryz.prog.info? 50).map (fun i=>(i.zero,i.size,i.bytes))=some (some (.slice none 0 0),1,24):=by kernel_rfl
def RecV.z (X:Nat→List UInt8) (r:RecV):List UInt8:=if r.na=none then [] else r.y X
def qbb (n i:Nat) (rs:List RecV) (X:Nat→List UInt8):List UInt8:=qbT n i rs (fun k=>(rs[k]!).x X) (fun k=>(rs[k]!).z X) rs.length
theorem qa1.tell {w:World} {base n:Nat} {X:Nat→List UInt8} {r:RecV} (h:qa1 w base n X r) (i:Nat):Tell w n i r (r.x X) (r.z X):=by
 have hng:=qao h.plan r.size h.z
 have hsn:=h.sn
 have hnm:=h.n12
 obtain ⟨g,hsa,_⟩:=h.sa
 refine ⟨h.plan,h.e,h.z,h.n12,⟨h.own.rd,h.own.len,by omega,fun e=>by rw [hsa] at e;cases e⟩,?_⟩
 unfold RecV.z
 rcases h.nx with ⟨h1,h2,h3⟩|⟨h1,_,_,h4,h5,_⟩
 ·rw [if_pos h1,h1,h2,h3]
  exact ⟨Rd.nil _ _,rfl,by omega,fun _=>rfl⟩
 ·rw [if_neg h1]
  exact ⟨h5.rd,h5.len,by omega,fun e=>absurd e h1⟩
theorem qg5 {w:World} {base n:Nat} {X:Nat→List UInt8} {rs:List RecV} (h:∀r∈rs,qa1 w base n X r) (i k:Nat) (hk:k≤rs.length):(qbT n i rs (fun k=>(rs[k]!).x X) (fun k=>(rs[k]!).z X) k).length≤k*300:=by
 induction k with
 | zero=>simp [qbT]
 | succ k ih =>
  have:=ih (by omega)
  have hr:rs[k]! ∈ rs:=by rw [getElem!_pos rs k (by omega)];exact List.getElem_mem _
  have ht:=(h _ hr).tell i
  have hg:=h _ hr
  have hng:=qao hg.plan _ hg.z
  have hsn:=hg.sn
  have hnm:=hg.n12
  have h1:=ht.sh.2.1
  have h2:=ht.nx.2.1
  have h3:(rs[k]!).nn≤(rs[k]!).sn:=by
   rcases hg.nx with ⟨_,h2,_⟩|⟨_,_,_,h4,_⟩<;>omega
  unfold qbT qel
  simp only [List.length_append,List.length_cons,Cof.length_head]
  have h4:(rs[k]!).name.data.toList.length=(rs[k]!).name.size:=by simp
  omega
structure Imgs (w:World) (W G n i:Nat) (Z:Nat→List UInt8) (vs:Nat→Value):Prop where
 row:∃P:Array Value,w.heap[G]?=some (.cells P 50)∧P.size=n∧∀j,j<i→P[j]?=some (vs j)
 own:∀j,j<i→w.ownsRow W 5 1 (vs j) (Z j).length (bs (Z j))
theorem Imgs.rows {w:World} {W G n:Nat} {Z:Nat→List UInt8} {vs:Nat→Value} (h:Imgs w W G n n Z vs):qaE w (some ⟨G,0,none⟩) ((List.range n).map Z):=by
 obtain ⟨P,h1,h2,h3⟩:=h.row
 refine ⟨(List.range n).map vs,by simp,fun k v hk=>?_,fun k v hk=>?_⟩
 ·have hkn:k<n:=by
   rcases Nat.lt_or_ge k n with h | h
   ·exact h
   ·rw [List.getElem?_eq_none (by simpa using h)] at hk;cases hk
  refine ⟨G,0,rfl,cells_lt h1,?_⟩
  rw [Nat.zero_add,cells_at h1,h3 k hkn,←hk]
  simp [hkn]
 ·have hkn:k<n:=by
   rcases Nat.lt_or_ge k n with h | h
   ·exact h
   ·rw [List.getElem?_eq_none (by simpa using h)] at hk;cases hk
  have hv:v=vs k:=by simpa [hkn] using hk.symm
  subst hv
  obtain ⟨a,c,e,hr⟩:=qad (h.own k hkn)
  have eZ:((List.range n).map Z).getD k []=Z k:=by simp [hkn]
  rw [eZ]
  exact ⟨a,c,e,hr⟩
def qaM (i:Nat):Option Nat:=if i=12 then none else some (i+22)
def viV (W0 G V n B bc S i:Nat) (rs:List RecV) (Z:List UInt8):Nat→Value→World→Prop
 | 0,v,_=>v=.slice (some ⟨G,0,none⟩) n n
 | 1,v,_=>v=.int .i64 i
 | 2,v,_=>v=.pointer (some ⟨S,0,none⟩)
 | 3,v,w=>w.ownsRow W0 152 8 v rs.length (recs rs)
 | 4,v,_=>v=.pointer (some ⟨V,0,none⟩)
 | 5,v,_=>v=.pointer (some ⟨V,0,none⟩)
 | 6,v,_=>v=.pointer (some ⟨V,1,none⟩)
 | 7,v,_=>v=.slice (some ⟨B,0,none⟩) n bc
 | 8,v,_=>v=.int .i64 n
 | 9,v,_=>v=.int .i64 i
 | 10,v,w=>w.ownsRow W0 5 1 v Z.length (bs Z)
 | 11,v,_=>v=.pointer (some ⟨G,i,none⟩)
 | _,_,_=>True
def viA (W0 G V n B bc S i:Nat) (rs:List RecV) (Z:List UInt8) (P:Array Value) (j:Nat) (a:Act) (w:World):Prop :=
 viV W0 G V n B bc S i rs Z j (a.tmps.getD (j+22) undef) w∧(j=12→w.heap[G]?=some (.cells (P.setIfInBounds i (a.tmps.getD 32 undef)) 50))
theorem qiS (W0 G V n B bc S i:Nat) (rs:List RecV) (Z:List UInt8) (hG:G<W0) (q j:Nat) (v:Value) (w w':World) (h:viV W0 G V n B bc S i rs Z j v w) (hs:qaa (fun b=>q=12∧b=G) w w'):viV W0 G V n B bc S i rs Z j v w':=by
 unfold viV at h ⊢
 split at h
 ·exact h
 ·exact h
 ·exact h
 ·exact qab h hs (fun b hb ⟨_,e⟩=>by have:=(h.lt b hb).1;omega)
 ·exact h
 ·exact h
 ·exact h
 ·exact h
 ·exact h
 ·exact h
 ·exact qab h hs (fun b hb ⟨_,e⟩=>by have:=(h.lt b hb).1;omega)
 ·exact h
 ·trivial
theorem arrF36 (t:Array Value) (h:t.size=36):∃f:Nat→Value,(∀k,t.getD k undef=f k)∧t=#[f 0,f 1,f 2,f 3,f 4,f 5,f 6,f 7,f 8,f 9,f 10,f 11,f 12,f 13,f 14,f 15,f 16,f 17,f 18,f 19,f 20,f 21,f 22,f 23,f 24,f 25,f 26,f 27,f 28,f 29,f 30,f 31,f 32,f 33,f 34,f 35]:=⟨fun k=>t.getD k undef,fun _=>rfl,qco t 36 h⟩
theorem qhl (V key n B bc:Nat) (sp:Nat→Nat) (dn:Nat→Bool) (vs:Nat→Value) (rss:Nat→List RecV) (X:Nat→List UInt8) (base:Nat) (w:World) (h:Va w V key n B 0 bc sp) (hn1:1≤n) (hn8:n≤8) (hst:∀i,i<n→Sto w (sp i) (dn i) (vs i) (rss i)) (hok:∀i,i<n→∀r∈rss i,qa1 w base n X r) :
  Calls Tryz.prog 63 #[.pointer (some ⟨V,0,none⟩)] w fun e w'=>∃g,e=.returned (.slice (some ⟨g,0,none⟩) n n)∧qaE w' (some ⟨g,0,none⟩) ((List.range n).map fun i=>qbb n i (rss i) X)∧Below w.heap.size w w':=by
 obtain ⟨i0,hi,hz0,hz1,hz2⟩:=info_parts Tryz.infoBs
 have c1:=h.c1
 have hVl:=h.lt
 have HVA:=hid h
 have HST:=hid hst
 have HOK:=hid hok
 clear h hst hok
 go_enter Tryz.func63,Tryz.ntmps63
 go_wp2_with (first | (at_make;refine wpList_make_full _ rfl (.tmp 10) (.tmp 10) 109 rfl w.heap.size 50 i0 (.slice none 0 0) 1 Tryz.underlying109 hi hz0 hz1 .i64 .i64 _ _ n rfl rfl rfl rfl (by rw [hz2];omega) (by unfold maxLen;omega) nl ?_;intro w1 hown1 hgrow1;(have hb1:=grown_below hgrow1);(have HO1:=hid hown1);(have c11:w1.cell? ⟨V,1,none⟩=some (.slice (some ⟨B,0,none⟩) n bc):=(hb1.cell hVl).trans c1);clear hown1 hgrow1)|fail)
 have HM0:=hid (show Imgs w1 w.heap.size w.heap.size n 0 (fun i=>qbb n i (rss i) X) (fun _=>undef) from by
  obtain ⟨tl,h1,h2,h3,_⟩:=qaP HO1.out
  exact ⟨⟨_,h1,by rw [Nat.mul_one] at h3;simpa using h3,fun j hj=>by omega⟩,fun j hj=>by omega⟩)
 clear HO1
 go_loopw [17] (fun u wr=>∃(i:Nat) (us:Nat→Value),u=.int .i64 i∧i≤n∧Imgs wr w.heap.size w.heap.size n i (fun i=>qbb n i (rss i) X) us∧Below w.heap.size w wr) (fun u _=>n-(intOf u).toNat)
 case atStart=>exact ⟨0,_,rfl,Nat.zero_le _,HM0.out,hb1⟩
 case round =>
  obtain ⟨i,us,rfl,hin,him,hbr⟩:=hrel
  have HIM:=hid him
  clear him
  by_cases hlt:i<n
  ·have hlt':(i:Int)<(n:Int):=by omega
   have k1:wr.cell? ⟨B,i,none⟩=some (.pointer (some ⟨sp i,0,none⟩)):=by
    have:=(HVA.out.keeps hbr nl).st i hlt
    rwa [Nat.zero_add] at this
   obtain ⟨Z,hZ⟩:∃Z,Z=qbb n i (rss i) X:=⟨_,rfl⟩
   obtain ⟨P,hP,hPs,hPj⟩:=HIM.out.row
   have hPi:i<P.size:=by omega
   have hGlt:w.heap.size<wr.heap.size:=cells_lt hP
   have HP:=hid hP
   have HPJ:=hid hPj
   have HZ:=hid hZ
   have hsp0:∀w',qaa (fun b=>∃q,q=12∧b=w.heap.size) { wr with drawn:=wr.drawn+1 } w'→Below w.heap.size w w':=fun w' hs=>hbr.drew.trans (hs.below w.heap.size (by show w.heap.size≤wr.heap.size;omega) (fun b ⟨_,_,e⟩=>Nat.le_of_eq e.symm))
   have HREC:=hid (show ∀w',qaa (fun b=>∃q,q=12∧b=w.heap.size) { wr with drawn:=wr.drawn+1 } w'→Calls Tryz.prog 89 #[.pointer (some ⟨sp i,0,none⟩)] w' fun e w''=>∃v,e=.returned v∧w''.ownsRow w'.heap.size 152 8 v (rss i).length (recs (rss i))∧Below w'.heap.size w' w'' from fun w' hs=>qdD (sp i) (dn i) (vs i) (rss i) w' ((HST.out i hlt).keeps (qaa.ofBelow (own:=fun _=>False) (hsp0 w' hs) nl) (fun h=>h) (fun _ _ h=>h)))
   have HMADE:=hid (show ∀w' ra rc,qaa (fun b=>∃q,q=12∧b=w.heap.size) { wr with drawn:=wr.drawn+1 } w'→Rd w' ra (recs (rss i))→Calls Tryz.prog 108 #[.slice ra (rss i).length rc,.int .i64 n,.int .i64 i] w' fun e w''=>∃v,e=.returned v∧w''.ownsRow w'.heap.size 5 1 v Z.length (bs Z)∧Below w'.heap.size w' w'' from fun w' ra rc hs hr=>by
    rw [hZ]
    have hgood:∀r∈rss i,qa1 w' base n X r:=fun r hr=>(HOK.out i hlt r hr).keeps (qaa.ofBelow (own:=fun _=>False) (hsp0 w' hs) nl) (fun _ _ h=>h) (fun _ _=>rfl)
    exact qjP ra (rss i).length rc n i (rss i) _ _ w' rfl (HST.out i hlt).le hlt hr (fun k hk=>(hgood _ (by rw [getElem!_pos (rss i) k hk];exact List.getElem_mem _)).tell i) (fun k hk=>by have h1:=qg5 hgood i k hk;have h2:=(HST.out i hlt).le;omega))
   have HV1:∀w',qaa (fun b=>∃q,q=12∧b=w.heap.size) { wr with drawn:=wr.drawn+1 } w'→w'.cell? ⟨V,1,none⟩=some (.slice (some ⟨B,0,none⟩) n bc):=fun w' hs=>((hsp0 w' hs).cell hVl).trans c1
   clear hZ hP hPj
   go_wp2_with fail
   have MK:∀(j:Nat) (a:Act) (w':World) (o:Oper),a.tmps.size=36→j<13→j≠12→qbc Tryz.prog o a w' (fun u w''=>qaa (fun b=>j=12∧b=w.heap.size) w' w''∧viV wr.heap.size w.heap.size V n B bc (sp i) i (rss i) Z j u w'')→qcS Tryz.prog o a w' (fun u w''=>qaa (fun b=>j=12∧b=w.heap.size) w' w''∧viA wr.heap.size w.heap.size V n B bc (sp i) i (rss i) Z P j (a.put (qaM j) u) w''):=by
    intro j a w' o hsz hj h12 hh
    refine .inl <| hh.weaken fun u w'' hp=>⟨hp.1,?_,fun e=>absurd e h12⟩
    have e:qaM j=some (j+22):=by unfold qaM;rw [if_neg h12]
    rw [e,put_eq _ _ _ (by omega)]
    exact hp.2
   refine qcK (by kernel_rfl) qaM (viA wr.heap.size w.heap.size V n B bc (sp i) i (rss i) Z P) (fun j w'=>j=12→w'.heap[w.heap.size]?=some (.cells P 50)) (fun j b=>j=12∧b=w.heap.size) [(0,.pointer (some ⟨V,0,none⟩)),(1,undef),(2,.slice none 0 0),(3,.slice (some ⟨w.heap.size,0,none⟩) n n),(4,.int .i64 i),(5,.pointer (some ⟨sp i,0,none⟩)),(6,.pointer (some ⟨V,0,none⟩)),(7,.pointer (some ⟨V,0,none⟩)),(8,.pointer (some ⟨V,1,none⟩)),(9,.slice (some ⟨B,0,none⟩) n bc),(10,.int .i64 n),(11,.slice (some ⟨w.heap.size,0,none⟩) n n),(12,.pointer (some ⟨V,0,none⟩)),(13,.pointer (some ⟨V,0,none⟩)),(14,.pointer (some ⟨V,1,none⟩)),(15,.slice (some ⟨B,0,none⟩) n bc),(16,.int .i64 n),(17,.int .i64 i),(35,undef)] 36 (fun j=>if j=0 then [3] else if j=1∨j=9 then [4] else if j=2 then [5] else if j=4 then [0] else []) (by kernel_rfl) rfl rfl ?_ ?_ ?_ ?_ ?_ ?_
   ·simp
   ·exact fun _ _ _=>HP.out
   ·intro q j ac u w3 w4 hj hij hwt _ hr hs hsl
    have e:∀k,k≠q∨q=12→((ac.put (qaM q) u).tmps.getD (k+22) undef)=ac.tmps.getD (k+22) undef:=fun k hk=>by
     unfold qaM
     split
     ·rfl
     ·rename_i h12
      exact qhA _ _ _ _ (by rcases hk with h | h<;>omega)
    refine ⟨?_,fun h12=>?_⟩
    ·rw [e j (.inl (Ne.symm hij))]
     exact qiS _ _ _ _ _ _ _ _ _ _ hGlt q j _ w3 w4 hr.1 hs
    ·subst h12
     have hq10:q≠10:=by
      rintro rfl
      exact absurd (Eq.trans (show true=_ by kernel_rfl) hwt) (by decide)
     rw [show (32:Nat)=10+22 from rfl,e 10 (.inl (Ne.symm hq10))]
     exact hs.heap (hr.2 rfl) (fun ⟨h,_⟩=>hij h)
   ·intro q j w3 w4 hij _ _ hu hs hj12
    exact hs.heap (hu hj12) (fun ⟨h,_⟩=>hij (h.trans hj12.symm))
   ·refine ⟨?_,?_,?_,?_,?_,?_,?_,?_,?_,?_,?_,?_,?_,trivial⟩
    ·intro ac w' hsz hs hf hd2 hu
     have hd:=fun e he hb=>(hd2 e he hb).1.1
     refine MK 0 ac w' _ hsz (by decide) (by decide) ?_
     clear hsz
     have f3:ac.tmps[3]?.getD undef=.slice (some ⟨w.heap.size,0,none⟩) n n:=by simpa using hf (3,.slice (some ⟨w.heap.size,0,none⟩) n n) (by simp) rfl
     simp [viV,Region.binds] at hd
     exact .inl ⟨.slice (some ⟨w.heap.size,0,none⟩) n n,w',by go_simp,sr,rfl⟩
    ·intro ac w' hsz hs hf hd2 hu
     have hd:=fun e he hb=>(hd2 e he hb).1.1
     refine MK 1 ac w' _ hsz (by decide) (by decide) ?_
     clear hsz
     have f4:ac.tmps[4]?.getD undef=.int .i64 i:=by simpa using hf (4,.int .i64 i) (by simp) rfl
     simp [viV,Region.binds] at hd
     exact .inl ⟨.int .i64 i,w',by go_simp,sr,rfl⟩
    ·intro ac w' hsz hs hf hd2 hu
     have hd:=fun e he hb=>(hd2 e he hb).1.1
     refine MK 2 ac w' _ hsz (by decide) (by decide) ?_
     clear hsz
     have f5:ac.tmps[5]?.getD undef=.pointer (some ⟨sp i,0,none⟩):=by simpa using hf (5,.pointer (some ⟨sp i,0,none⟩)) (by simp) rfl
     simp [viV,Region.binds] at hd
     exact .inl ⟨.pointer (some ⟨sp i,0,none⟩),w',by go_simp,sr,rfl⟩
    ·intro ac w' hsz hs hf hd2 hu
     have hd:=fun e he hb=>(hd2 e he hb).1.1
     refine MK 3 ac w' _ hsz (by decide) (by decide) ?_
     clear hsz
     simp [viV,Region.binds] at hd
     refine .inr ⟨89,#[.pointer (some ⟨sp i,0,none⟩)],by go_simp,(HREC.out w' hs).mono ?_⟩
     rintro e w'' ⟨v,rfl,hown,hb⟩
     exact ⟨_,rfl,qaa.ofBelow hb nl,World.ownsRow.mono hown (by have:=hs.size;simpa using this)⟩
    ·intro ac w' hsz hs hf hd2 hu
     have hd:=fun e he hb=>(hd2 e he hb).1.1
     refine MK 4 ac w' _ hsz (by decide) (by decide) ?_
     clear hsz
     have f0:ac.tmps[0]?.getD undef=.pointer (some ⟨V,0,none⟩):=by simpa using hf (0,.pointer (some ⟨V,0,none⟩)) (by simp) rfl
     simp [viV,Region.binds] at hd
     exact .inl ⟨.pointer (some ⟨V,0,none⟩),w',by go_simp,sr,rfl⟩
    ·intro ac w' hsz hs hf hd2 hu
     have hd:=fun e he hb=>(hd2 e he hb).1.1
     refine MK 5 ac w' _ hsz (by decide) (by decide) ?_
     clear hsz
     simp [viV,Region.binds] at hd
     exact .inl ⟨.pointer (some ⟨V,0,none⟩),w',by go_simp,sr,rfl⟩
    ·intro ac w' hsz hs hf hd2 hu
     have hd:=fun e he hb=>(hd2 e he hb).1.1
     refine MK 6 ac w' _ hsz (by decide) (by decide) ?_
     clear hsz
     simp [viV,Region.binds] at hd
     exact .inl ⟨.pointer (some ⟨V,1,none⟩),w',by go_simp,sr,rfl⟩
    ·intro ac w' hsz hs hf hd2 hu
     have hd:=fun e he hb=>(hd2 e he hb).1.1
     refine MK 7 ac w' _ hsz (by decide) (by decide) ?_
     clear hsz
     have q1:=HV1 w' hs
     simp [viV,Region.binds] at hd
     exact .inl ⟨.slice (some ⟨B,0,none⟩) n bc,w',by go_simp,sr,rfl⟩
    ·intro ac w' hsz hs hf hd2 hu
     have hd:=fun e he hb=>(hd2 e he hb).1.1
     refine MK 8 ac w' _ hsz (by decide) (by decide) ?_
     clear hsz
     simp [viV,Region.binds] at hd
     exact .inl ⟨.int .i64 n,w',by go_simp,sr,rfl⟩
    ·intro ac w' hsz hs hf hd2 hu
     have hd:=fun e he hb=>(hd2 e he hb).1.1
     refine MK 9 ac w' _ hsz (by decide) (by decide) ?_
     clear hsz
     have f4:ac.tmps[4]?.getD undef=.int .i64 i:=by simpa using hf (4,.int .i64 i) (by simp) rfl
     simp [viV,Region.binds] at hd
     exact .inl ⟨.int .i64 i,w',by go_simp,sr,rfl⟩
    ·intro ac w' hsz hs hf hd2 hu
     refine MK 10 ac w' _ hsz (by decide) (by decide) ?_
     clear hsz
     have h3:=(hd2 ⟨3,.data⟩ (by simp) rfl).1.1
     have h8:=(hd2 ⟨8,.data⟩ (by simp) rfl).1.1
     have h9:=(hd2 ⟨9,.data⟩ (by simp) rfl).1.1
     obtain ⟨ra,rc,hrv,hrr⟩:=qad h3
     have hrv':ac.tmps.getD 25 undef=.slice ra (rss i).length rc:=hrv
     have h8':ac.tmps.getD 30 undef=.int .i64 n:=h8
     have h9':ac.tmps.getD 31 undef=.int .i64 i:=h9
     simp at hrv' h8' h9'
     refine .inr ⟨108,#[.slice ra (rss i).length rc,.int .i64 n,.int .i64 i],by go_simp,(HMADE.out w' ra rc hs hrr).mono ?_⟩
     rintro e w'' ⟨v,rfl,hown,hb⟩
     exact ⟨_,rfl,qaa.ofBelow hb nl,World.ownsRow.mono hown (by have:=hs.size;simpa using this)⟩
    ·intro ac w' hsz hs hf hd2 hu
     have hd:=fun e he hb=>(hd2 e he hb).1.1
     refine MK 11 ac w' _ hsz (by decide) (by decide) ?_
     clear hsz
     simp [viV,Region.binds] at hd
     exact .inl ⟨.pointer (some ⟨w.heap.size,i,none⟩),w',by go_simp,sr,rfl⟩
    ·intro ac w' hsz hs hf hd2 hu
     have h10:=(hd2 ⟨10,.data⟩ (by simp) rfl).1.1
     have h11:=(hd2 ⟨11,.data⟩ (by simp) rfl).1.1
     obtain ⟨va,vc,hvv,_⟩:=qad h10
     have hvv':ac.tmps.getD 32 undef=.slice va Z.length vc:=hvv
     have h11':ac.tmps.getD 33 undef=.pointer (some ⟨w.heap.size,i,none⟩):=h11
     have hG:=hu rfl
     have cG:w'.cell? ⟨w.heap.size,i,none⟩=some P[i]:=by rw [cells_at hG];simp [hPi]
     have fG:w'.frozen? ⟨w.heap.size,i,none⟩=false:=qam hG
     have hset:=qan (k:=i) (.slice va Z.length vc) hG
     have hsp':qaa (fun b=>(12:Nat)=12∧b=w.heap.size) w' (w'.setCell ⟨w.heap.size,i,none⟩ (.slice va Z.length vc)):=(qaa.refl (fun b=>(12:Nat)=12∧b=w.heap.size) w').setCell (p:=⟨w.heap.size,i,none⟩) ⟨rfl,rfl⟩ _
     clear hsz hG
     simp at hvv' h11'
     refine .inr ⟨w'.setCell ⟨w.heap.size,i,none⟩ (.slice va Z.length vc),by go_simp,hsp',trivial,fun _=>?_⟩
     have e:(ac.put none undef).tmps.getD 32 undef=.slice va Z.length vc:=by simpa [Act.put] using hvv'
     rw [show qaM 12=none from rfl,e]
     exact hset
   ·intro a2 w5 hdf hsz hs5 hf hr
    obtain ⟨tm2,df2⟩:=a2
    simp only at hdf hsz hf hr
    subst hdf
    have h10:=(hr 10 (by decide)).1
    have h12:=(hr 12 (by decide)).2 rfl
    obtain ⟨f,hfk,rfl⟩:=arrF36 tm2 hsz
    have e0:f 0=.pointer (some ⟨V,0,none⟩):=(hfk 0).symm.trans (hf (0,.pointer (some ⟨V,0,none⟩)) (by simp) (show ∀k,k<13→qaM k≠some 0 by decide))
    have e1:f 1=undef:=(hfk 1).symm.trans (hf (1,undef) (by simp) (show ∀k,k<13→qaM k≠some 1 by decide))
    have e2:f 2=.slice none 0 0:=(hfk 2).symm.trans (hf (2,.slice none 0 0) (by simp) (show ∀k,k<13→qaM k≠some 2 by decide))
    have e3:f 3=.slice (some ⟨w.heap.size,0,none⟩) n n:=(hfk 3).symm.trans (hf (3,.slice (some ⟨w.heap.size,0,none⟩) n n) (by simp) (show ∀k,k<13→qaM k≠some 3 by decide))
    have e4:f 4=.int .i64 i:=(hfk 4).symm.trans (hf (4,.int .i64 i) (by simp) (show ∀k,k<13→qaM k≠some 4 by decide))
    have e5:f 5=.pointer (some ⟨sp i,0,none⟩):=(hfk 5).symm.trans (hf (5,.pointer (some ⟨sp i,0,none⟩)) (by simp) (show ∀k,k<13→qaM k≠some 5 by decide))
    have e6:f 6=.pointer (some ⟨V,0,none⟩):=(hfk 6).symm.trans (hf (6,.pointer (some ⟨V,0,none⟩)) (by simp) (show ∀k,k<13→qaM k≠some 6 by decide))
    have e7:f 7=.pointer (some ⟨V,0,none⟩):=(hfk 7).symm.trans (hf (7,.pointer (some ⟨V,0,none⟩)) (by simp) (show ∀k,k<13→qaM k≠some 7 by decide))
    have e8:f 8=.pointer (some ⟨V,1,none⟩):=(hfk 8).symm.trans (hf (8,.pointer (some ⟨V,1,none⟩)) (by simp) (show ∀k,k<13→qaM k≠some 8 by decide))
    have e9:f 9=.slice (some ⟨B,0,none⟩) n bc:=(hfk 9).symm.trans (hf (9,.slice (some ⟨B,0,none⟩) n bc) (by simp) (show ∀k,k<13→qaM k≠some 9 by decide))
    have e10:f 10=.int .i64 n:=(hfk 10).symm.trans (hf (10,.int .i64 n) (by simp) (show ∀k,k<13→qaM k≠some 10 by decide))
    have e11:f 11=.slice (some ⟨w.heap.size,0,none⟩) n n:=(hfk 11).symm.trans (hf (11,.slice (some ⟨w.heap.size,0,none⟩) n n) (by simp) (show ∀k,k<13→qaM k≠some 11 by decide))
    have e12:f 12=.pointer (some ⟨V,0,none⟩):=(hfk 12).symm.trans (hf (12,.pointer (some ⟨V,0,none⟩)) (by simp) (show ∀k,k<13→qaM k≠some 12 by decide))
    have e13:f 13=.pointer (some ⟨V,0,none⟩):=(hfk 13).symm.trans (hf (13,.pointer (some ⟨V,0,none⟩)) (by simp) (show ∀k,k<13→qaM k≠some 13 by decide))
    have e14:f 14=.pointer (some ⟨V,1,none⟩):=(hfk 14).symm.trans (hf (14,.pointer (some ⟨V,1,none⟩)) (by simp) (show ∀k,k<13→qaM k≠some 14 by decide))
    have e15:f 15=.slice (some ⟨B,0,none⟩) n bc:=(hfk 15).symm.trans (hf (15,.slice (some ⟨B,0,none⟩) n bc) (by simp) (show ∀k,k<13→qaM k≠some 15 by decide))
    have e16:f 16=.int .i64 n:=(hfk 16).symm.trans (hf (16,.int .i64 n) (by simp) (show ∀k,k<13→qaM k≠some 16 by decide))
    have e17:f 17=.int .i64 i:=(hfk 17).symm.trans (hf (17,.int .i64 i) (by simp) (show ∀k,k<13→qaM k≠some 17 by decide))
    have e35:f 35=undef:=(hfk 35).symm.trans (hf (35,undef) (by simp) (show ∀k,k<13→qaM k≠some 35 by decide))
    rw [show (10:Nat)+22=32 from rfl,hfk 32] at h10
    rw [hfk 32] at h12
    have h10':w5.ownsRow wr.heap.size 5 1 (f 32) Z.length (bs Z):=h10
    simp only [e0,e1,e2,e3,e4,e5,e6,e7,e8,e9,e10,e11,e12,e13,e14,e15,e16,e17,e35]
    have hspG:qaa (fun b=>b=w.heap.size) wr w5:=((qaa.refl (fun b=>b=w.heap.size) wr).drew).trans (hs5.mono fun b ⟨_,_,e⟩=>e)
    have HB5:=hid (hbr.trans (hspG.below w.heap.size hbr.size (fun b e=>Nat.le_of_eq e.symm)))
    have HI5:=hid (show Imgs w5 w.heap.size w.heap.size n (i+1) (fun i=>qbb n i (rss i) X) (fun j=>if j=i then f 32 else us j) from by
     refine ⟨⟨_,h12,by simpa using hPs,fun j hj=>?_⟩,fun j hj=>?_⟩
     ·by_cases e:j=i
      ·subst e
       simp only [if_true]
       rw [Array.getElem?_setIfInBounds_self_of_lt hPi]
      ·simp only [e,if_false]
       rw [Array.getElem?_setIfInBounds_ne (Ne.symm e)]
       exact HPJ.out j (by omega)
     ·by_cases e:j=i
      ·subst e
       simp only [if_true]
       rw [←HZ.out]
       exact World.ownsRow.mono h10' (by omega)
      ·simp only [e,if_false]
       refine qab (HIM.out.own j (by omega)) hspG (fun b hb e2=>?_)
       subst e2
       exact row_ne (HIM.out.own j (by omega)) HP.out (by decide) hb)
    clear hr hsz hf hfk h10 h10' h12 hspG hs5 MK HV1 hsp0 e0 e1 e2 e3 e4 e5 e6 e7 e8 e9 e10 e11 e12 e13 e14 e15 e16 e17 e35
    go_wp2_with fail
    go_roundw
    case rel=>exact ⟨i+1,_,by go_num,hlt,HI5.out,HB5.out⟩
    case measure=>simp [intOf];omega
  ·have hii:i=n:=by omega
   subst hii
   go_wp2_with fail
   go_ret
   exact ⟨_,rfl,HIM.out.rows,hbr⟩
end Go.Proofs.YtcegdgmbponapaaGreatDoor