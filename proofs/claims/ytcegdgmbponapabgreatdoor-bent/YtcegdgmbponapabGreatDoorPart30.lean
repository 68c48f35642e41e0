/-
  Put, Delete, Refresh, Spoil and Recover of a coffer with several objects: whatever they answer.
  A number of two bytes, read.
  A shard's head, read.
  What cannot be read of an image: a head that is cut off; epochs that cannot be.
-/
import Derived.Test.YtcegdgmbponapabGreatDoorPart29
namespace Go.Proofs.YtcegdgmbponapabGreatDoor
open Go.RowKit
def No (w:World) (e:Ending) (w':World):Prop:=∃k:Int,e=.returned (.int .i64 k)∧k≠0∧k≠1∧Below w.heap.size w w'
theorem no_of {w:World} {k:Int} (h0:k≠0) (h1:k≠1) {f:FuncId} {args:Array Value} (h:Calls Tryz.prog f args w fun e w'=>e=.returned (.int .i64 k)∧Below w.heap.size w w'):Calls Tryz.prog f args w (No w) :=
 h.mono fun _ _ ⟨h2,h3⟩=>⟨k,h2,h0,h1,h3⟩
theorem first_not (n:Nat) (p:Nat→Prop) (h:¬∀i,i<n→p i):∃m,m<n∧(∀i,i<m→p i)∧¬p m:=by
 induction n with
 | zero=>exact absurd (fun i hi=>by omega) h
 | succ n ih =>
  by_cases hn:∀i,i<n→p i
  ·exact ⟨n,Nat.lt_succ_self _,hn,fun hp=>h fun i hi=>by
    rcases Nat.lt_or_eq_of_le (Nat.lt_succ_iff.1 hi) with h' | rfl
    ·exact hn i h'
    ·exact hp⟩
  ·obtain ⟨m,h1,h2,h3⟩:=ih hn
   exact ⟨m,by omega,h2,h3⟩
theorem ups_or (n:Nat) (dn:Nat→Bool):(∀i,i<n→dn i=false)∨∃i,i<n∧dn i=true:=by
 by_cases h:∀i,i<n→dn i=false
 ·exact .inl h
 ·obtain ⟨m,h1,_,h3⟩:=first_not n _ h
  exact .inr ⟨m,h1,by cases hq:dn m with | true=>rfl | false=>exact absurd hq h3⟩
section
variable {w:World} {L:Seat} {s:Sta}
theorem Bank.put_any (h:Bank w L s) (hc:Calm L s) (mode t l:Nat) (nm vl tape:ByteArray) (hp:IsPlan mode t l L.n) (hz:vl.size≤60) (h1:1≤nm.size) (h12:nm.size≤12) (htp:Cof.tsize mode t*Cof.ngroups mode t l vl.size≤tape.size) :
  Calls Tryz.prog 16 #[.pointer (some ⟨L.C,0,none⟩),.string nm,.string vl,.agg #[.int .i64 mode,.int .i64 t,.int .i64 l],.string tape] w fun e w' =>
   No w e w'∨(hasName (s.rss 0) nm=false∧(s.rss 0).length<10∧∃s' ys k,Bank w' L s'∧News L s s' ⟨nm,mode,t,l,vl.size,0⟩ (fun i=>shardOf L.key ⟨nm,mode,t,l,vl.size,0⟩ L.n i ((Cof.split vl.data.toList mode t l L.n tape.data.toList).getD i [])) ys∧(∀i,s'.rss i=putL s.rss ys k i)∧EndsC L s s' L.n k e∧Spared (Mine L s) w w'):=by
 have ha:=h.ask hc.1
 cases hy:hasName (s.rss 0) nm with
 | true=>exact (no_of (by decide) (by decide) (ha.put_twice mode t l nm vl tape h1 h12 hp hz hy)).mono fun _ _ h=>.inl h
 | false =>
  by_cases hfew:(s.rss 0).length<10
  ·rcases ups_or L.n s.dn with hup | hd
   ·exact (h.put_go hc mode t l nm vl tape hy hfew hup hp hz h1 h12 htp).mono fun _ _ h=>.inr ⟨rfl,hfew,h⟩
   ·exact (no_of (by decide) (by decide) (ha.put_down mode t l nm vl tape h1 h12 hp hz hy hfew htp hd)).mono fun _ _ h=>.inl h
  ·exact (no_of (by decide) (by decide) (ha.put_full mode t l nm vl tape h1 h12 hp hz hy hfew)).mono fun _ _ h=>.inl h
theorem Bank.del_any (h:Bank w L s) (hc:Calm L s) (nm:ByteArray) :
  Calls Tryz.prog 18 #[.pointer (some ⟨L.C,0,none⟩),.string nm] w fun e w' =>
   No w e w'∨(hasName (s.rss 0) nm=true∧∃s' k,Bank w' L s'∧s'.dn=s.dn∧s'.X=s.X∧(∀i,s'.rss i=delL s.rss nm k i)∧EndsC L s s' L.n k e∧Spared (Mine L s) w w'):=by
 have ha:=h.ask hc.1
 cases hy:hasName (s.rss 0) nm with
 | false=>exact (no_of (by decide) (by decide) (ha.delete_none nm hy)).mono fun _ _ h=>.inl h
 | true =>
  rcases ups_or L.n s.dn with hup | hd
  ·exact (h.del_go hc nm hy hup).mono fun _ _ h=>.inr ⟨rfl,h⟩
  ·exact (no_of (by decide) (by decide) (ha.delete_down nm hy hd)).mono fun _ _ h=>.inl h
theorem Bank.ref_any (h:Bank w L s) (hc:Calm L s) (nm tape:ByteArray) (hyes:hasName (s.rss 0) nm=true) (o:Ob) (ho:o=(recOf (s.rss 0) nm).ob) (htp:Cof.tsize o.mode o.t*Cof.ngroups o.mode o.t o.l o.size≤tape.size) :
  Calls Tryz.prog 17 #[.pointer (some ⟨L.C,0,none⟩),.string nm,.string tape] w fun e w' =>
   No w e w'∨(o.mode=0∧o.epoch<100∧∃P:Nat→List UInt8,(∀i,i<L.n→Cof.Good L.key (Cof.head o.mode o.t o.l L.n i o.epoch o.size nm.data.toList) (Cof.ngroups o.mode o.t o.l o.size) ((recOf (s.rss i) nm).x s.X) (P i)) ∧
    ∃s' ys k,Bank w' L s'∧News L s s' ⟨nm,0,o.t,o.l,o.size,o.epoch+1⟩ (fun i=>shardOf L.key ⟨nm,0,o.t,o.l,o.size,o.epoch+1⟩ L.n i (Cof.sumRow (P i) ((Cof.split (List.replicate o.size 0) 0 o.t o.l L.n tape.data.toList).getD i []))) ys∧(∀i,s'.rss i=refL L.n s.rss nm ys k i)∧EndsC L s s' (2*L.n) k e∧Spared (Mine L s) w w'):=by
 have ha:=h.ask hc.1
 obtain ⟨hH,hall,hon⟩:=h.held hc nm hyes o ho
 have hg:=(hall 0 h.n1).2.2.1
 have hob:=(hall 0 h.n1).2.1
 obtain ⟨r,hr⟩:∃r,r=recOf (s.rss 0) nm:=⟨_,rfl⟩
 rw [←hr] at hg hob
 have hr':r=(s.rss 0)[posOf (s.rss 0) nm]! := hr
 have e0:r.name=nm:=by rw [←hon,←hob];rfl
 have em:r.mode=o.mode:=by rw [←hob];rfl
 have et:r.t=o.t:=by rw [←hob];rfl
 have el:r.l=o.l:=by rw [←hob];rfl
 have ez:r.size=o.size:=by rw [←hob];rfl
 have ee:r.epoch=o.epoch:=by rw [←hob];rfl
 have hp:IsPlan r.mode r.t r.l L.n:=hg.plan
 have hz:=hg.z
 have htp':Cof.tsize r.mode r.t*Cof.ngroups r.mode r.t r.l r.size≤tape.size:=by rw [em,et,el,ez];exact htp
 have hmode:r.mode=0∨r.mode=1:=by rcases hp.md with ⟨h,_⟩|⟨h,_⟩;exact .inl h;exact .inr h
 rcases hmode with hm0 | hm1
 ·by_cases he:r.epoch<100
  ·rcases ups_or L.n s.dn with hup | hd
   ·by_cases hgd:∀i,i<L.n→∃P,Cof.Good L.key (Cof.head o.mode o.t o.l L.n i o.epoch o.size nm.data.toList) (Cof.ngroups o.mode o.t o.l o.size) ((recOf (s.rss i) nm).x s.X) P
    ·obtain ⟨P,hP⟩:∃P:Nat→List UInt8,∀i,i<L.n→Cof.Good L.key (Cof.head o.mode o.t o.l L.n i o.epoch o.size nm.data.toList) (Cof.ngroups o.mode o.t o.l o.size) ((recOf (s.rss i) nm).x s.X) (P i):=by
      classical
      refine ⟨fun i=>if hi:i<L.n then Classical.choose (hgd i hi) else [],fun i hi=>?_⟩
      simp only [dif_pos hi]
      exact Classical.choose_spec (hgd i hi)
     exact (h.ref_go hc nm tape hyes o ho hup (by omega) (by omega) htp P hP).mono fun _ _ h=>.inr ⟨by omega,by omega,P,hP,h⟩
    ·obtain ⟨m,hmn,hbef,hbad⟩:=first_not L.n _ hgd
     obtain ⟨P,hP⟩:∃P:Nat→List UInt8,∀i,i<m→Cof.Good L.key (Cof.head o.mode o.t o.l L.n i o.epoch o.size nm.data.toList) (Cof.ngroups o.mode o.t o.l o.size) ((recOf (s.rss i) nm).x s.X) (P i):=by
      classical
      refine ⟨fun i=>if hi:i<m then Classical.choose (hbef i hi) else [],fun i hi=>?_⟩
      simp only [dif_pos hi]
      exact Classical.choose_spec (hbef i hi)
     have hng:=ngroups_le hp r.size hz
     have hn1:=hg.n1
     have hn12:=hg.n12
     have hek:=hg.e
     rw [e0] at hn1 hn12
     rw [em,et,el] at hp
     rw [em,et,el,ez] at hng
     refine (no_of (k:=12) (by decide) (by decide) (crefresh_no L.C L.V 3 12 nm tape w h.cf (by omega) h.G.et (vrefresh_not L.V 2 12 nm _ tape _ _ _ _ _ w (ha.object_some nm r hyes hr') fun w' hb=>?_))).mono fun _ _ h=>.inl h
     have h2:=ha.keeps hb
     have hHw:=hH.below hb
     rw [e0,em,et,el,ez,ee]
     refine (refreshed_gen L.V L.key L.n L.B L.bc L.sp o.mode o.t o.l o.size o.epoch nm tape P m (by omega) w' h2.rd (fun i hi=>by rw [h2.ups i hi,hup i hi]) h2.slt hp (by omega) (by omega) (by omega) hng (fun i hi=>(hP i hi).1) htp h2.tb
      (fun i hi w1 hb1 hT1=>hHw.piece_good hp (by omega) (by omega) hn1 hn12 h.hk hng i (by omega) (P i) (hP i hi) w1 hb1 hT1)
      (fun _ w1 hb1 hT1=>hHw.piece_bad hp (by omega) (by omega) hn1 hn12 h.hk hng m hmn hbad w1 hb1 hT1)).mono ?_
     rintro e w'' (⟨h3,_⟩|⟨_,h3⟩)
     ·omega
     ·exact h3
   ·exact (no_of (by decide) (by decide) (ha.refresh_down nm tape r hyes hr' hp hm0 he hz htp' hd)).mono fun _ _ h=>.inl h
  ·refine (no_of (k:=6) (by decide) (by decide) (ha.refresh_of nm tape r 6 1 (by decide) hyes hr' fun w' h2=>?_)).mono fun _ _ h=>.inl h
   rw [hm0]
   exact refreshed_full L.V r.t r.l r.size r.epoch r.name tape w' (by omega) (by have:=hg.e;omega) h2.tb
 ·refine (no_of (k:=11) (by decide) (by decide) (ha.refresh_of nm tape r 11 1 (by decide) hyes hr' fun w' h2=>?_)).mono fun _ _ h=>.inl h
  rw [hm1]
  exact refreshed_mode L.V r.t r.l r.size r.epoch r.name tape w'
end
end Go.Proofs.YtcegdgmbponapabGreatDoor
namespace Go.Proofs.YtcegdgmbponapabGreatDoor
open Go.RowKit
attribute [local go_sem ↓] Go.wp_at_zero Go.wp_at_succ
theorem or_small (a b:Nat) (ha:a<256) (hb:b<256):bits .or .i64 ((a*256:Nat):Int) (b:Int)=((a*256+b:Nat):Int):=by
 have h1:=Nat.shiftLeft_add_eq_or_of_lt (i:=8) (b:=b) (by simpa using hb) a
 rw [Nat.shiftLeft_eq] at h1
 have h2:bits .or .i64 ((a*256:Nat):Int) (b:Int)=((a*256 ||| b:Nat):Int):=by
  have hx:a*256 ||| b<2 ^ 62:=Nat.or_lt_two_pow (by omega) (by omega)
  have g1:(BitVec.ofInt 64 ((a*256:Nat):Int)).toNat=a*256:=by
   rw [BitVec.ofInt_natCast,BitVec.toNat_ofNat];exact Nat.mod_eq_of_lt (by omega)
  have g2:(BitVec.ofInt 64 (b:Int)).toNat=b:=by
   rw [BitVec.ofInt_natCast,BitVec.toNat_ofNat];exact Nat.mod_eq_of_lt (by omega)
  show IntKind.i64.wrap ((BitVec.ofInt 64 ((a*256:Nat):Int) ||| BitVec.ofInt 64 (b:Int)).toNat:Int)=_
  rw [BitVec.toNat_or,g1,g2,IntKind.wrap_i64]
  omega
 rw [h2,←h1]
set_option maxRecDepth 100000 in
set_option maxHeartbeats 1000000 in
theorem num_any (d:ByteArray) (w:World) (h:d.size=2) :
  Calls Tryz.prog 174 #[.string d] w fun e w'=>e=.returned (.int .i64 ((d.data.toList.getD 0 0).toNat*256+(d.data.toList.getD 1 0).toNat:Nat))∧Below w.heap.size w w':=by
 obtain ⟨⟨L⟩⟩:=d
 match L,h with
 | [a,b],_ =>
 go_enter Tryz.func174,Tryz.ntmps174
 go_wp2_with fail
 go_region
 go_wp2_with fail
 have ha:a.toNat<256:=a.toNat_lt
 have hb:b.toNat<256:=b.toNat_lt
 refine bodyPost_ret (v:=.int .i64 ((a.toNat*256+b.toNat:Nat):Int)) ?_ rfl ⟨rfl,(Below.refl _ _).drew⟩
 have h1:wrap64 (wrap64 (a.toNat:Int)*256)=((a.toNat*256:Nat):Int):=by unfold wrap64;omega
 have h2:wrap64 (b.toNat:Int)=(b.toNat:Int):=by unfold wrap64;omega
 have h3:=or_small a.toNat b.toNat ha hb
 simp [results,Tryz.results174,go_sem]
 refine Eq.trans ?_ (h3.trans (by omega))
 refine Eq.trans (?_:_=bits .or .i64 (wrap64 (wrap64 (a.toNat:Int)*256)) (wrap64 (b.toNat:Int))) (by rw [h1,h2])
 rfl
structure Hd8 where
 s:ByteArray
 q:Nat
 m:Nat
 t:Nat
 l:Nat
 sz:Nat
 ep:Nat
 st:Nat
 no:Nat
def rdR (h:Hd8):Nat→Value→World→Prop
 | 0,v,_=>v=.string h.s
 | 1,v,_=>v=.int .i64 (10+h.q)
 | 2,v,_=>v=.string (h.s.extract 10 (10+h.q))
 | 3,v,_=>v=.string (h.s.extract 10 (10+h.q))
 | 4,v,_=>v=.string h.s
 | 5,v,_=>v=.int .u8 h.m
 | 6,v,_=>v=.int .i64 h.m
 | 7,v,_=>v=.string h.s
 | 8,v,_=>v=.int .u8 h.t
 | 9,v,_=>v=.int .i64 h.t
 | 10,v,_=>v=.string h.s
 | 11,v,_=>v=.int .u8 h.l
 | 12,v,_=>v=.int .i64 h.l
 | 13,v,_=>v=.agg #[.int .i64 h.m,.int .i64 h.t,.int .i64 h.l]
 | 14,v,_=>v=.string h.s
 | 15,v,_=>v=.string (h.s.extract 5 7)
 | 16,v,_=>v=.int .i64 h.ep
 | 17,v,_=>v=.string h.s
 | 18,v,_=>v=.string (h.s.extract 7 9)
 | 19,v,_=>v=.int .i64 h.sz
 | 20,v,_=>v=.agg #[.string (h.s.extract 10 (10+h.q)),.int .i64 h.m,.int .i64 h.t,.int .i64 h.l,.int .i64 h.sz,.int .i64 h.ep]
 | _,_,_=>True
def rdSlot (i:Nat):Nat:=if i=21 then 6 else i+29
theorem rdR_any (h:Hd8) (j:Nat) (v:Value) (w w':World) (hr:rdR h j v w):rdR h j v w':=by
 unfold rdR at hr ⊢
 split at hr<;>first | exact hr | trivial
theorem arr61 (t:Array Value) (h:t.size=61):∃u0 u1 u2 u3 u4 u5 u6 u7 u8 u9 u10 u11 u12 u13 u14 u15 u16 u17 u18 u19 u20 u21 u22 u23 u24 u25 u26 u27 u28 u29 u30 u31 u32 u33 u34 u35 u36 u37 u38 u39 u40 u41 u42 u43 u44 u45 u46 u47 u48 u49 u50 u51 u52 u53 u54 u55 u56 u57 u58 u59 u60:Value,t=#[u0,u1,u2,u3,u4,u5,u6,u7,u8,u9,u10,u11,u12,u13,u14,u15,u16,u17,u18,u19,u20,u21,u22,u23,u24,u25,u26,u27,u28,u29,u30,u31,u32,u33,u34,u35,u36,u37,u38,u39,u40,u41,u42,u43,u44,u45,u46,u47,u48,u49,u50,u51,u52,u53,u54,u55,u56,u57,u58,u59,u60]:=⟨_,_,_,_,_,_,_,_,_,_,_,_,_,_,_,_,_,_,_,_,_,_,_,_,_,_,_,_,_,_,_,_,_,_,_,_,_,_,_,_,_,_,_,_,_,_,_,_,_,_,_,_,_,_,_,_,_,_,_,_,_,arr_of t 61 h⟩
theorem ext_at (s:ByteArray) (a b i:Nat) (hi:a+i<b) (hb:b≤s.size):(s.extract a b).data.toList.getD i 0=s[a+i]'(by omega):=by
 have h1:a+i<s.data.size:=by have:s.data.size=s.size:=rfl;omega
 rw [ByteArray.data_extract,List.getD_eq_getElem?_getD,Array.getElem?_toList,Array.getElem?_extract]
 rw [if_pos (by have:s.data.size=s.size:=rfl;omega),Array.getElem?_eq_getElem h1]
 rfl
def rlV (h:Hd8):Nat→Value→Prop
 | 0,v=>v=.agg #[.string (h.s.extract 10 (10+h.q)),.int .i64 h.m,.int .i64 h.t,.int .i64 h.l,.int .i64 h.sz,.int .i64 h.ep]
 | 1,v=>v=.string h.s
 | 2,v=>v=.int .u8 h.st
 | 3,v=>v=.int .i64 h.st
 | 4,v=>v=.string h.s
 | 5,v=>v=.int .u8 h.no
 | 6,v=>v=.int .i64 h.no
 | 7,v=>v=.agg #[.string (h.s.extract 10 (10+h.q)),.int .i64 h.m,.int .i64 h.t,.int .i64 h.l,.int .i64 h.sz,.int .i64 h.ep,.int .i64 h.st,.int .i64 h.no]
 | 8,v=>v=.string h.s
 | 9,v=>v=.int .i64 (10+h.q)
 | 10,v=>v=.string (h.s.extract (10+h.q) h.s.size)
 | 12,v=>v=.string (h.s.extract (10+h.q) h.s.size)
 | 13,v=>v=.nilIface
 | _,_=>True
def rlSlot (i:Nat):Option Nat:=if i=11 then none else if i=12 then some 3 else if i=13 then some 4 else some (i+50)
def rlS (i:Nat):Nat:=if i=12 then 3 else if i=13 then 4 else i+50
def rlA (h:Hd8) (T:Nat) (j:Nat) (a:Act) (w:World):Prop:=rlV h j (a.tmps.getD (rlS j) undef)∧(j=11→w.heap[T]?=some (.cells #[.string (h.s.extract 10 (10+h.q)),.int .i64 h.m,.int .i64 h.t,.int .i64 h.l,.int .i64 h.sz,.int .i64 h.ep,.int .i64 h.st,.int .i64 h.no] 134))
def rlU (T:Nat) (j:Nat) (w:World):Prop:=j=11→∃old:Array Value,old.size=8∧w.heap[T]?=some (.cells old 134)
theorem store_agg {P:Program} {o:Oper} {a:Act} {w:World} {post:Value→World→Prop} (ty:TypeId) (x y:Operand) (ho:o.op=.store ty x y)
  (g:Nat) (cells:Array Value) (hx:a.eval x=.pointer (some ⟨g,0,none⟩)) (hy:a.eval y=.agg cells)
  (t:TypeId) (old:Array Value) (hg:w.heap[g]?=some (.cells old t (0,0))) (hi:(P.info? ty).map (·.size)=some cells.size)
  (hold:cells.size=old.size) (h1:cells.all (·.oneCell')=true)
  (h:post undef (w.setRow g cells)):StepOk2 P o a w post:=by
 have hs:=run_storeCells_at P g 0 t cells.toList 0 old w hg (by simp [hold]) (fun v hv=>(Array.all_eq_true_iff_forall_mem.1 h1) v (by simpa using hv))
 simp only [Nat.add_zero,Nat.zero_add,Array.length_toList,List.take_zero,List.nil_append] at hs
 have hd:old.toList.drop cells.size=[]:=List.drop_of_length_le (by simp [hold])
 rw [hd,List.append_nil] at hs
 have hv:(storeVar ty ⟨g,0,none⟩ (.agg cells)).run P w=.ok () (w.setRow g cells):=by
  cases hq:P.info? ty with
  | none=>simp [hq] at hi
  | some i =>
   have hs':cells.size=i.size:=by simp [hq] at hi;omega
   simp [storeVar,sizeOf,typeInfo,hq,Value.cells,hs',hs]
 refine .inr ⟨_,?_,h⟩
 unfold execOp
 simp only [ho,hx,hy,Instr.storeAt,Instr.sureAddr,Sem.run_bind,Sem.run_pure,Result.andThen_ok,hv]
set_option maxRecDepth 100000 in
set_option maxHeartbeats 8000000 in
theorem read_ok (h:Hd8) (w:World) (h10:10≤h.s.size) (hbig:h.s.size≤9223372036854775807) (hq:(h.s[9]'(by omega)).toNat=h.q) (hfit:10+h.q≤h.s.size)
  (hm:(h.s[0]'(by omega)).toNat=h.m) (ht:(h.s[1]'(by omega)).toNat=h.t) (hl:(h.s[2]'(by omega)).toNat=h.l) (hst:(h.s[3]'(by omega)).toNat=h.st) (hno:(h.s[4]'(by omega)).toNat=h.no)
  (hep:(h.s[5]'(by omega)).toNat*256+(h.s[6]'(by omega)).toNat=h.ep) (hsz:(h.s[7]'(by omega)).toNat*256+(h.s[8]'(by omega)).toNat=h.sz) :
  Calls Tryz.prog 146 #[.string h.s] w fun e w'=>e=.returned (.tuple #[.agg #[.string (h.s.extract 10 (10+h.q)),.int .i64 h.m,.int .i64 h.t,.int .i64 h.l,.int .i64 h.sz,.int .i64 h.ep,.int .i64 h.st,.int .i64 h.no],.string (h.s.extract (10+h.q) h.s.size),.nilIface])∧Below w.heap.size w w':=by
 have hq8:h.q<256:=by have:=(h.s[9]'(by omega)).toNat_lt;omega
 have hl9:(9:Int)<(h.s.size:Int):=by omega
 have hl10:¬(h.s.size:Int)<10:=by omega
 have hfit':¬(h.s.size:Int)-10<(h.q:Int):=by omega
 have HEP:=hid hep
 have HSZ:=hid hsz
 clear hep hsz
 go_enter Tryz.func146,Tryz.ntmps146
 go_wp2_with fail
 have hba:=(Below.refl w.heap.size w).alloc (Nat.le_refl _) (.cells #[.string ⟨#[]⟩,.int .i64 0,.int .i64 0,.int .i64 0,.int .i64 0,.int .i64 0,.int .i64 0,.int .i64 0] 134)
 obtain ⟨w1,hw1⟩:∃w1,w1=w.alloc (.cells #[.string ⟨#[]⟩,.int .i64 0,.int .i64 0,.int .i64 0,.int .i64 0,.int .i64 0,.int .i64 0,.int .i64 0] 134):=⟨_,rfl⟩
 have HLB:=hid (show w1.heap[w.heap.size]?=some (.cells #[.string ⟨#[]⟩,.int .i64 0,.int .i64 0,.int .i64 0,.int .i64 0,.int .i64 0,.int .i64 0,.int .i64 0] 134) by rw [hw1];exact alloc_at _ _)
 rw [←hw1] at hba ⊢
 have HFX:∀a:Act,(∀x∈[((0:Nat),Value.string h.s),(5,.int .i64 (10+h.q)),(2,.pointer (some ⟨w.heap.size,0,none⟩))],a.tmps.getD x.1 undef=x.2)→a.tmps[0]?.getD undef=.string h.s∧a.tmps[5]?.getD undef=.int .i64 (10+h.q):=by
  intro a hx
  have:=hx
  simp at this
  exact ⟨this.1,this.2.1⟩
 have z0:(0:Int)<(h.s.size:Int):=by omega
 have z1:(1:Int)<(h.s.size:Int):=by omega
 have z2:(2:Int)<(h.s.size:Int):=by omega
 have z3:(3:Int)<(h.s.size:Int):=by omega
 have z4:(4:Int)<(h.s.size:Int):=by omega
 have z7:(7:Int)≤(h.s.size:Int):=by omega
 have z9:(9:Int)≤(h.s.size:Int):=by omega
 have zf:(10:Int)+(h.q:Int)≤(h.s.size:Int):=by omega
 have zA:(0:Int)≤10+(h.q:Int):=by omega
 have zB:(10:Int)≤10+(h.q:Int):=by omega
 have zC:((10:Int)+(h.q:Int)).toNat=10+h.q:=by omega
 have zne:¬h.s=ByteArray.empty:=fun e=>by rw [e] at h10;simp at h10
 have wm:IntKind.i64.wrap (h.m:Int)=(h.m:Int):=by have:=(h.s[0]'(by omega)).toNat_lt;rw [IntKind.wrap_i64];omega
 have wt:IntKind.i64.wrap (h.t:Int)=(h.t:Int):=by have:=(h.s[1]'(by omega)).toNat_lt;rw [IntKind.wrap_i64];omega
 have wl:IntKind.i64.wrap (h.l:Int)=(h.l:Int):=by have:=(h.s[2]'(by omega)).toNat_lt;rw [IntKind.wrap_i64];omega
 clear hw1
 refine wp_region_mem (by kernel_rfl) rdSlot (rdR h) [(0,.string h.s),(5,.int .i64 (10+h.q)),(2,.pointer (some ⟨w.heap.size,0,none⟩))] 61 21 22 [0,5,2] 65 #[.string (h.s.extract 10 (10+h.q)),.int .i64 h.m,.int .i64 h.t,.int .i64 h.l,.int .i64 h.sz,.int .i64 h.ep] #[.string ⟨#[]⟩,.int .i64 0,.int .i64 0,.int .i64 0,.int .i64 0,.int .i64 0] (.tmp 6) (.tmp 49) (by kernel_rfl) rfl ⟨_,rfl,fun a w'=>by go_simp⟩ rfl ⟨_,rfl,rfl,fun a=>by simp [Act.eval,rdSlot],fun a w' hx=>?_⟩ (by kernel_rfl) (by simp [Value.oneCell']) rfl rfl ?_ (fun j v w2 w3 hr _=>rdR_any h j v w2 w3 hr) (fun j v w2 b c _ hr _=>rdR_any h j v w2 _ hr) ?_ ?_
 ·have h20:=hx ⟨20,.data⟩ (by simp) rfl (by decide) (by decide)
  simp [rdR,rdSlot] at h20
  simp [Act.eval]
  exact h20
 ·simp
 ·refine ⟨?_,?_,?_,?_,?_,?_,?_,?_,?_,?_,?_,?_,?_,?_,?_,?_,?_,?_,?_,?_,?_,?_,?_,trivial⟩
  ·refine .inr (.inr fun a w' hb hf hd=>?_)
   obtain ⟨f0,f5⟩:=HFX a hf
   simp [rdR,rdSlot,Region.binds] at hd
   exact .inl ⟨.string h.s,w',by go_simp,Below.refl _ _,rfl⟩
  ·refine .inr (.inr fun a w' hb hf hd=>?_)
   obtain ⟨f0,f5⟩:=HFX a hf
   simp [rdR,rdSlot,Region.binds] at hd
   exact .inl ⟨.int .i64 (10+h.q),w',by go_simp,Below.refl _ _,rfl⟩
  ·refine .inr (.inr fun a w' hb hf hd=>?_)
   obtain ⟨f0,f5⟩:=HFX a hf
   simp [rdR,rdSlot,Region.binds] at hd
   exact .inl ⟨.string (h.s.extract 10 (10+h.q)),w',by go_simp,Below.refl _ _,rfl⟩
  ·refine .inr (.inr fun a w' hb hf hd=>?_)
   obtain ⟨f0,f5⟩:=HFX a hf
   simp [rdR,rdSlot,Region.binds] at hd
   refine .inr ⟨57,#[.string (h.s.extract 10 (10+h.q))],by go_simp,(sclone_any _ w' (by simp;omega)).mono ?_⟩
   rintro e w'' ⟨rfl,hb2⟩
   exact ⟨_,rfl,hb2,rfl⟩
  ·refine .inr (.inr fun a w' hb hf hd=>?_)
   obtain ⟨f0,f5⟩:=HFX a hf
   simp [rdR,rdSlot,Region.binds] at hd
   exact .inl ⟨.string h.s,w',by go_simp,Below.refl _ _,rfl⟩
  ·refine .inr (.inr fun a w' hb hf hd=>?_)
   obtain ⟨f0,f5⟩:=HFX a hf
   simp [rdR,rdSlot,Region.binds] at hd
   exact .inl ⟨.int .u8 h.m,w',by go_simp,Below.refl _ _,rfl⟩
  ·refine .inr (.inr fun a w' hb hf hd=>?_)
   obtain ⟨f0,f5⟩:=HFX a hf
   simp [rdR,rdSlot,Region.binds] at hd
   exact .inl ⟨.int .i64 h.m,w',by go_simp,Below.refl _ _,rfl⟩
  ·refine .inr (.inr fun a w' hb hf hd=>?_)
   obtain ⟨f0,f5⟩:=HFX a hf
   simp [rdR,rdSlot,Region.binds] at hd
   exact .inl ⟨.string h.s,w',by go_simp,Below.refl _ _,rfl⟩
  ·refine .inr (.inr fun a w' hb hf hd=>?_)
   obtain ⟨f0,f5⟩:=HFX a hf
   simp [rdR,rdSlot,Region.binds] at hd
   exact .inl ⟨.int .u8 h.t,w',by go_simp,Below.refl _ _,rfl⟩
  ·refine .inr (.inr fun a w' hb hf hd=>?_)
   obtain ⟨f0,f5⟩:=HFX a hf
   simp [rdR,rdSlot,Region.binds] at hd
   exact .inl ⟨.int .i64 h.t,w',by go_simp,Below.refl _ _,rfl⟩
  ·refine .inr (.inr fun a w' hb hf hd=>?_)
   obtain ⟨f0,f5⟩:=HFX a hf
   simp [rdR,rdSlot,Region.binds] at hd
   exact .inl ⟨.string h.s,w',by go_simp,Below.refl _ _,rfl⟩
  ·refine .inr (.inr fun a w' hb hf hd=>?_)
   obtain ⟨f0,f5⟩:=HFX a hf
   simp [rdR,rdSlot,Region.binds] at hd
   exact .inl ⟨.int .u8 h.l,w',by go_simp,Below.refl _ _,rfl⟩
  ·refine .inr (.inr fun a w' hb hf hd=>?_)
   obtain ⟨f0,f5⟩:=HFX a hf
   simp [rdR,rdSlot,Region.binds] at hd
   exact .inl ⟨.int .i64 h.l,w',by go_simp,Below.refl _ _,rfl⟩
  ·refine .inr (.inr fun a w' hb hf hd=>?_)
   obtain ⟨f0,f5⟩:=HFX a hf
   simp [rdR,rdSlot,Region.binds] at hd
   exact .inl ⟨.agg #[.int .i64 h.m,.int .i64 h.t,.int .i64 h.l],w',by go_simp,Below.refl _ _,rfl⟩
  ·refine .inr (.inr fun a w' hb hf hd=>?_)
   obtain ⟨f0,f5⟩:=HFX a hf
   simp [rdR,rdSlot,Region.binds] at hd
   exact .inl ⟨.string h.s,w',by go_simp,Below.refl _ _,rfl⟩
  ·refine .inr (.inr fun a w' hb hf hd=>?_)
   obtain ⟨f0,f5⟩:=HFX a hf
   simp [rdR,rdSlot,Region.binds] at hd
   exact .inl ⟨.string (h.s.extract 5 7),w',by go_simp,Below.refl _ _,rfl⟩
  ·refine .inr (.inr fun a w' hb hf hd=>?_)
   obtain ⟨f0,f5⟩:=HFX a hf
   simp [rdR,rdSlot,Region.binds] at hd
   refine .inr ⟨174,#[.string (h.s.extract 5 7)],by go_simp,(num_any _ w' (by simp;omega)).mono ?_⟩
   rintro e w'' ⟨rfl,hb2⟩
   have e0:=ext_at h.s 5 7 0 (by omega) (by omega)
   have e1:=ext_at h.s 5 7 1 (by omega) (by omega)
   rw [e0,e1]
   exact ⟨_,rfl,hb2,by show Value.int .i64 _=Value.int .i64 _;rw [←HEP.out]⟩
  ·refine .inr (.inr fun a w' hb hf hd=>?_)
   obtain ⟨f0,f5⟩:=HFX a hf
   simp [rdR,rdSlot,Region.binds] at hd
   exact .inl ⟨.string h.s,w',by go_simp,Below.refl _ _,rfl⟩
  ·refine .inr (.inr fun a w' hb hf hd=>?_)
   obtain ⟨f0,f5⟩:=HFX a hf
   simp [rdR,rdSlot,Region.binds] at hd
   exact .inl ⟨.string (h.s.extract 7 9),w',by go_simp,Below.refl _ _,rfl⟩
  ·refine .inr (.inr fun a w' hb hf hd=>?_)
   obtain ⟨f0,f5⟩:=HFX a hf
   simp [rdR,rdSlot,Region.binds] at hd
   refine .inr ⟨174,#[.string (h.s.extract 7 9)],by go_simp,(num_any _ w' (by simp;omega)).mono ?_⟩
   rintro e w'' ⟨rfl,hb2⟩
   have e0:=ext_at h.s 7 9 0 (by omega) (by omega)
   have e1:=ext_at h.s 7 9 1 (by omega) (by omega)
   rw [e0,e1]
   exact ⟨_,rfl,hb2,by show Value.int .i64 _=Value.int .i64 _;rw [←HSZ.out]⟩
  ·refine .inr (.inr fun a w' hb hf hd=>?_)
   obtain ⟨f0,f5⟩:=HFX a hf
   simp [rdR,rdSlot,Region.binds] at hd
   exact .inl ⟨.agg #[.string (h.s.extract 10 (10+h.q)),.int .i64 h.m,.int .i64 h.t,.int .i64 h.l,.int .i64 h.sz,.int .i64 h.ep],w',by go_simp,Below.refl _ _,rfl⟩
  ·exact .inl rfl
  ·exact .inr (.inl rfl)
 ·intro a1 w2 b hdf hsz hb hf hr hb1 hb2 hb3
  obtain ⟨tm,df⟩:=a1
  simp only at hdf hsz hf hr hb1
  subst hdf
  obtain ⟨u0,u1,u2,u3,u4,u5,u6,u7,u8,u9,u10,u11,u12,u13,u14,u15,u16,u17,u18,u19,u20,u21,u22,u23,u24,u25,u26,u27,u28,u29,u30,u31,u32,u33,u34,u35,u36,u37,u38,u39,u40,u41,u42,u43,u44,u45,u46,u47,u48,u49,u50,u51,u52,u53,u54,u55,u56,u57,u58,u59,u60,rfl⟩:=arr61 tm hsz
  simp [rdSlot] at hb1 hf
  obtain ⟨rfl,rfl,rfl⟩:=hf
  subst hb1
  clear hr hsz
  go_wp2_with fail
  have hb12:Below w1.heap.size w1 w2:=(Below.refl w1.heap.size w1).drew.trans hb
  have hT1:w.heap.size<w1.heap.size:=cells_lt HLB.out
  have hT2:w2.heap[w.heap.size]?=_:=(hb12.block _ hT1).trans HLB.out
  have hbT:b≠w.heap.size:=by omega
  have ws:IntKind.i64.wrap (h.st:Int)=(h.st:Int):=by have:=(h.s[3]'(by omega)).toNat_lt;rw [IntKind.wrap_i64];omega
  have wn:IntKind.i64.wrap (h.no:Int)=(h.no:Int):=by have:=(h.s[4]'(by omega)).toNat_lt;rw [IntKind.wrap_i64];omega
  have HC2:∀w':World,Spared (fun k=>∃i,i=11∧k=w.heap.size) { w2 with drawn:=w2.drawn+1 } w'→w'.cell? ⟨b,0,none⟩=some (.string (h.s.extract 10 (10+h.q)))∧w'.cell? ⟨b,1,none⟩=some (.int .i64 h.m)∧w'.cell? ⟨b,2,none⟩=some (.int .i64 h.t)∧w'.cell? ⟨b,3,none⟩=some (.int .i64 h.l)∧w'.cell? ⟨b,4,none⟩=some (.int .i64 h.sz)∧w'.cell? ⟨b,5,none⟩=some (.int .i64 h.ep):=by
   intro w' hs
   have hh:=hs.heap (b:=b) hb3 (by rintro ⟨i,_,e⟩;exact hbT e)
   exact ⟨by rw [cells_at hh];rfl,by rw [cells_at hh];rfl,by rw [cells_at hh];rfl,by rw [cells_at hh];rfl,by rw [cells_at hh];rfl,by rw [cells_at hh];rfl⟩
  have MK:∀(i:Nat) (a:Act) (w':World) (o:Oper),a.tmps.size=61→i<14→i≠11→StepOk Tryz.prog o a w' (fun u w''=>Spared (fun k=>i=11∧k=w.heap.size) w' w''∧rlV h i u)→StepOk2 Tryz.prog o a w' (fun u w''=>Spared (fun k=>i=11∧k=w.heap.size) w' w''∧rlA h w.heap.size i (a.put (rlSlot i) u) w''):=by
   intro i a w' o hsz hi h11 hh
   refine .inl <| hh.weaken fun u w'' hp=>⟨hp.1,?_,fun e=>absurd e h11⟩
   have e:rlSlot i=some (rlS i):=by
    unfold rlSlot rlS
    rw [if_neg h11]
    split
    ·rfl
    ·split<;>rfl
   have hlt:rlS i<a.tmps.size:=by
    unfold rlS
    split
    ·omega
    ·split<;>omega
   rw [e,put_eq _ _ _ hlt]
   exact hp.2
  refine wp_region_own2 (by kernel_rfl) rlSlot (rlA h w.heap.size) (rlU w.heap.size) (fun i k=>i=11∧k=w.heap.size) [(0,.string h.s),(5,.int .i64 (10+h.q)),(2,.pointer (some ⟨w.heap.size,0,none⟩)),(6,.pointer (some ⟨b,0,none⟩))] 61 (fun i=>if i=0 then [6] else if i=1∨i=4∨i=8 then [0] else if i=9 then [5] else if i=11 then [2] else []) (by kernel_rfl) rfl rfl ?_ ?_ ?_ ?_ ?_ ?_
  ·simp
  ·intro j _ _
   exact ⟨_,rfl,hT2⟩
  ·intro i j ac u w3 w4 hj hij hwt _ hr hs hsl
   refine ⟨?_,fun h11=>?_⟩
   ·by_cases h11:j=11
    ·subst h11;trivial
    ·have e:((ac.put (rlSlot i) u).tmps.getD (rlS j) undef)=ac.tmps.getD (rlS j) undef:=by
      have ej:rlSlot j=some (rlS j):=by
       unfold rlSlot rlS
       rw [if_neg h11]
       split
       ·rfl
       ·split<;>rfl
      cases hq:rlSlot i with
      | none=>rfl
      | some t=>exact put_ne _ _ _ _ (fun e=>hsl (by rw [hq,ej,e]))
     rw [e]
     exact hr.1
   ·refine hs.heap (hr.2 h11) ?_
    rintro ⟨h,_⟩
    omega
  ·intro i j w3 w4 hij _ _ hr hs h11
   obtain ⟨old,h1,h2⟩:=hr h11
   exact ⟨old,h1,hs.heap h2 (fun ⟨h,_⟩=>hij (by omega))⟩
  ·refine ⟨?_,?_,?_,?_,?_,?_,?_,?_,?_,?_,?_,?_,?_,?_,trivial⟩
   ·intro ac w' hsz hs hf hd2 hu
    have hd:=fun e he hb=>(hd2 e he hb).1.1
    refine MK 0 ac w' _ hsz (by decide) (by decide) ?_
    clear hsz
    have f6:ac.tmps[6]?.getD undef=.pointer (some ⟨b,0,none⟩):=by simpa using hf (6,.pointer (some ⟨b,0,none⟩)) (by simp) rfl
    obtain ⟨k0,k1,k2,k3,k4,k5⟩:=HC2 w' (hs.mono fun k ⟨i,h⟩=>⟨i,h⟩)
    simp [rlV,rlS,Region.binds] at hd
    exact .inl ⟨.agg #[.string (h.s.extract 10 (10+h.q)),.int .i64 h.m,.int .i64 h.t,.int .i64 h.l,.int .i64 h.sz,.int .i64 h.ep],w',by go_simp,Spared.refl _ _,rfl⟩
   ·intro ac w' hsz hs hf hd2 hu
    have hd:=fun e he hb=>(hd2 e he hb).1.1
    refine MK 1 ac w' _ hsz (by decide) (by decide) ?_
    clear hsz
    have f0:ac.tmps[0]?.getD undef=.string h.s:=by simpa using hf (0,.string h.s) (by simp) rfl
    simp [rlV,rlS,Region.binds] at hd
    exact .inl ⟨.string h.s,w',by go_simp,Spared.refl _ _,rfl⟩
   ·intro ac w' hsz hs hf hd2 hu
    have hd:=fun e he hb=>(hd2 e he hb).1.1
    refine MK 2 ac w' _ hsz (by decide) (by decide) ?_
    clear hsz
    simp [rlV,rlS,Region.binds] at hd
    exact .inl ⟨.int .u8 h.st,w',by go_simp,Spared.refl _ _,rfl⟩
   ·intro ac w' hsz hs hf hd2 hu
    have hd:=fun e he hb=>(hd2 e he hb).1.1
    refine MK 3 ac w' _ hsz (by decide) (by decide) ?_
    clear hsz
    simp [rlV,rlS,Region.binds] at hd
    exact .inl ⟨.int .i64 h.st,w',by go_simp,Spared.refl _ _,rfl⟩
   ·intro ac w' hsz hs hf hd2 hu
    have hd:=fun e he hb=>(hd2 e he hb).1.1
    refine MK 4 ac w' _ hsz (by decide) (by decide) ?_
    clear hsz
    have f0:ac.tmps[0]?.getD undef=.string h.s:=by simpa using hf (0,.string h.s) (by simp) rfl
    simp [rlV,rlS,Region.binds] at hd
    exact .inl ⟨.string h.s,w',by go_simp,Spared.refl _ _,rfl⟩
   ·intro ac w' hsz hs hf hd2 hu
    have hd:=fun e he hb=>(hd2 e he hb).1.1
    refine MK 5 ac w' _ hsz (by decide) (by decide) ?_
    clear hsz
    simp [rlV,rlS,Region.binds] at hd
    exact .inl ⟨.int .u8 h.no,w',by go_simp,Spared.refl _ _,rfl⟩
   ·intro ac w' hsz hs hf hd2 hu
    have hd:=fun e he hb=>(hd2 e he hb).1.1
    refine MK 6 ac w' _ hsz (by decide) (by decide) ?_
    clear hsz
    simp [rlV,rlS,Region.binds] at hd
    exact .inl ⟨.int .i64 h.no,w',by go_simp,Spared.refl _ _,rfl⟩
   ·intro ac w' hsz hs hf hd2 hu
    have hd:=fun e he hb=>(hd2 e he hb).1.1
    refine MK 7 ac w' _ hsz (by decide) (by decide) ?_
    clear hsz
    simp [rlV,rlS,Region.binds] at hd
    exact .inl ⟨.agg #[.string (h.s.extract 10 (10+h.q)),.int .i64 h.m,.int .i64 h.t,.int .i64 h.l,.int .i64 h.sz,.int .i64 h.ep,.int .i64 h.st,.int .i64 h.no],w',by go_simp,Spared.refl _ _,rfl⟩
   ·intro ac w' hsz hs hf hd2 hu
    have hd:=fun e he hb=>(hd2 e he hb).1.1
    refine MK 8 ac w' _ hsz (by decide) (by decide) ?_
    clear hsz
    have f0:ac.tmps[0]?.getD undef=.string h.s:=by simpa using hf (0,.string h.s) (by simp) rfl
    simp [rlV,rlS,Region.binds] at hd
    exact .inl ⟨.string h.s,w',by go_simp,Spared.refl _ _,rfl⟩
   ·intro ac w' hsz hs hf hd2 hu
    have hd:=fun e he hb=>(hd2 e he hb).1.1
    refine MK 9 ac w' _ hsz (by decide) (by decide) ?_
    clear hsz
    have f5:ac.tmps[5]?.getD undef=.int .i64 (10+h.q):=by simpa using hf (5,.int .i64 (10+h.q)) (by simp) rfl
    simp [rlV,rlS,Region.binds] at hd
    exact .inl ⟨.int .i64 (10+h.q),w',by go_simp,Spared.refl _ _,rfl⟩
   ·intro ac w' hsz hs hf hd2 hu
    have hd:=fun e he hb=>(hd2 e he hb).1.1
    refine MK 10 ac w' _ hsz (by decide) (by decide) ?_
    clear hsz
    simp [rlV,rlS,Region.binds] at hd
    exact .inl ⟨.string (h.s.extract (10+h.q) h.s.size),w',by go_simp,Spared.refl _ _,rfl⟩
   ·intro ac w' hsz hs hf hd2 hu
    have hd:=fun e he hb=>(hd2 e he hb).1.1
    have f2:ac.tmps[2]?.getD undef=.pointer (some ⟨w.heap.size,0,none⟩):=by simpa using hf (2,.pointer (some ⟨w.heap.size,0,none⟩)) (by simp) rfl
    simp [rlV,rlS,Region.binds] at hd
    obtain ⟨old,ho1,ho2⟩:=hu rfl
    have h7:ac.tmps[57]?.getD undef=.agg #[.string (h.s.extract 10 (10+h.q)),.int .i64 h.m,.int .i64 h.t,.int .i64 h.l,.int .i64 h.sz,.int .i64 h.ep,.int .i64 h.st,.int .i64 h.no]:=by
     have:=(hd2 ⟨7,.data⟩ (by simp) rfl).1.1
     simpa [rlV,rlS] using this
    refine store_agg 134 (.tmp 2) (.tmp 57) rfl w.heap.size #[.string (h.s.extract 10 (10+h.q)),.int .i64 h.m,.int .i64 h.t,.int .i64 h.l,.int .i64 h.sz,.int .i64 h.ep,.int .i64 h.st,.int .i64 h.no] (by simp [Act.eval];exact f2) (by simp [Act.eval];exact h7) 134 old ho2 (by kernel_rfl) (by rw [ho1];rfl) (by simp [Value.oneCell']) ?_
    exact ⟨(setRow_spared w' w.heap.size _).mono fun k hk=>⟨rfl,hk⟩,trivial,fun _=>setRow_heap w' w.heap.size old _ _ _ ho2⟩
   ·intro ac w' hsz hs hf hd2 hu
    have hd:=fun e he hb=>(hd2 e he hb).1.1
    refine MK 12 ac w' _ hsz (by decide) (by decide) ?_
    clear hsz
    simp [rlV,rlS,Region.binds] at hd
    exact .inl ⟨.string (h.s.extract (10+h.q) h.s.size),w',by go_simp,Spared.refl _ _,rfl⟩
   ·intro ac w' hsz hs hf hd2 hu
    have hd:=fun e he hb=>(hd2 e he hb).1.1
    refine MK 13 ac w' _ hsz (by decide) (by decide) ?_
    clear hsz
    simp [rlV,rlS,Region.binds] at hd
    exact .inl ⟨.nilIface,w',by go_simp,Spared.refl _ _,rfl⟩
  ·intro ac w' hdf hsz hsp hfx hr
   have r11:=(hr 11 (by decide)).2 rfl
   have r12:=(hr 12 (by decide)).1
   have r13:=(hr 13 (by decide)).1
   have f2:=hfx (2,.pointer (some ⟨w.heap.size,0,none⟩)) (by simp) (fun k _ e=>by
    unfold rlSlot at e
    split at e
    ·cases e
    ·split at e
     ·cases e
     ·split at e
      ·cases e
      ·simp at e)
   obtain ⟨tm,df⟩:=ac
   simp only at hdf hsz r12 r13 f2
   subst hdf
   obtain ⟨y0,y1,y2,y3,y4,y5,y6,y7,y8,y9,y10,y11,y12,y13,y14,y15,y16,y17,y18,y19,y20,y21,y22,y23,y24,y25,y26,y27,y28,y29,y30,y31,y32,y33,y34,y35,y36,y37,y38,y39,y40,y41,y42,y43,y44,y45,y46,y47,y48,y49,y50,y51,y52,y53,y54,y55,y56,y57,y58,y59,y60,rfl⟩:=arr61 tm hsz
   simp [rlV,rlS] at r12 r13 f2
   subst r12 r13 f2
   have x0:w'.cell? ⟨w.heap.size,0,none⟩=some (.string (h.s.extract 10 (10+h.q))):=by rw [cells_at r11];rfl
   have x1:w'.cell? ⟨w.heap.size,1,none⟩=some (.int .i64 h.m):=by rw [cells_at r11];rfl
   have x2:w'.cell? ⟨w.heap.size,2,none⟩=some (.int .i64 h.t):=by rw [cells_at r11];rfl
   have x3:w'.cell? ⟨w.heap.size,3,none⟩=some (.int .i64 h.l):=by rw [cells_at r11];rfl
   have x4:w'.cell? ⟨w.heap.size,4,none⟩=some (.int .i64 h.sz):=by rw [cells_at r11];rfl
   have x5:w'.cell? ⟨w.heap.size,5,none⟩=some (.int .i64 h.ep):=by rw [cells_at r11];rfl
   have x6:w'.cell? ⟨w.heap.size,6,none⟩=some (.int .i64 h.st):=by rw [cells_at r11];rfl
   have x7:w'.cell? ⟨w.heap.size,7,none⟩=some (.int .i64 h.no):=by rw [cells_at r11];rfl
   have hbF:Below w.heap.size w w':=by
    have h1:Below w.heap.size w w2:=hba.trans (hb12.mono (Nat.le_of_lt hT1))
    have h2:Below w.heap.size { w2 with drawn:=w2.drawn+1 } w':=(Spared.mono (own':=fun k=>k=w.heap.size) hsp (by rintro k ⟨i,_,e⟩;exact e)).below w.heap.size (by show w.heap.size≤w2.heap.size;have:=hb12.size;omega) (fun k hk=>by omega)
    exact h1.drew.trans h2
   clear hr hsz hfx
   go_wp2_with fail
   refine bodyPost_ret (v:=.tuple #[.agg #[.string (h.s.extract 10 (10+h.q)),.int .i64 h.m,.int .i64 h.t,.int .i64 h.l,.int .i64 h.sz,.int .i64 h.ep,.int .i64 h.st,.int .i64 h.no],.string (h.s.extract (10+h.q) h.s.size),.nilIface]) ?_ rfl ⟨rfl,hbF⟩
   simp [results,Tryz.results146,go_sem,x0,x1,x2,x3,x4,x5,x6,x7]
def noLabel:Value:=.agg #[.string ⟨#[]⟩,.int .i64 0,.int .i64 0,.int .i64 0,.int .i64 0,.int .i64 0,.int .i64 0,.int .i64 0]
theorem wpList_store_same {P:Program} {ops:Array Oper} {rest:List Oper} {o:Oper} {a:Act} {w:World} {Q:Exit→Act→World→Prop} (hgd:o.guard=none) (ty:TypeId) (x y:Operand) (ho:o.op=.store ty x y)
  (g:Nat) (cells:Array Value) (hx:a.eval x=.pointer (some ⟨g,0,none⟩)) (hy:a.eval y=.agg cells)
  (t:TypeId) (hg:w.heap[g]?=some (.cells cells t (0,0))) (hi:(P.info? ty).map (·.size)=some cells.size) (h1:cells.all (·.oneCell')=true)
  (h:wpList P ops Q rest (a.put o.dst undef) w):wpList P ops Q (o :: rest) a w:=by
 refine wpList_store_rec hgd ty x y ho g 0 cells hx hy t cells hg hi (by omega) h1 ?_
 have e:(cells.toList.take 0++cells.toList++cells.toList.drop (0+cells.size)).toArray=cells:=by
  rw [List.take_zero,List.nil_append,Nat.zero_add,List.drop_of_length_le (by simp),List.append_nil]
 rw [e,setRow_self w g cells t (0,0) hg]
 exact h
set_option maxRecDepth 100000 in
set_option maxHeartbeats 2000000 in
theorem read_no (s:ByteArray) (w:World) (hbig:s.size≤9223372036854775807) (hno:s.size<10∨∃h:10≤s.size,s.size<10+(s[9]'(by omega)).toNat) (hT:Tab w) :
  Calls Tryz.prog 146 #[.string s] w fun e w'=>∃ev,e=.returned (.tuple #[noLabel,.string ⟨#[]⟩,ev])∧Chain w' 12 2 ev∧Below w.heap.size w w':=by
 have hba:=(Below.refl w.heap.size w).alloc (Nat.le_refl _) (.cells #[.string ⟨#[]⟩,.int .i64 0,.int .i64 0,.int .i64 0,.int .i64 0,.int .i64 0,.int .i64 0,.int .i64 0] 134)
 have HT:=hid (hT.keeps hba (Nat.le_refl _))
 have HI:=hid (show I64 (s.size:Int) by unfold I64;omega)
 have HB:=hid hba
 clear hT hba
 unfold noLabel
 rcases hno with hlt | ⟨h10,hlt⟩
 ·have hl:(s.size:Int)<10:=by omega
  go_enter Tryz.func146,Tryz.ntmps146
  go_wp2_with (first | (go_at_call 77;refine (atCount_any (s.size:Int) _ _ 12 0 _ HI.out (by decide) HT.out .hit).mono ?_;rintro e w2 ⟨e2,rfl,hch,hb2⟩;(have HCH:=hid hch);(obtain ⟨te,ve,rfl⟩:=hch.shape);clear hch)|(go_at_call 53;refine (at_chain _ _ 12 1 _ HCH.out).mono ?_;rintro e w3 ⟨e3,rfl,hch3,hb3⟩;(have HH:=hid ((hb3.block w.heap.size (by have:=hb2.size;simp at this;omega)).trans ((hb2.block w.heap.size (by simp)).trans (alloc_at _ _)))))|(refine wpList_store_same rfl 134 (.tmp 2) (.tmp 19) rfl w.heap.size #[.string ⟨#[]⟩,.int .i64 0,.int .i64 0,.int .i64 0,.int .i64 0,.int .i64 0,.int .i64 0,.int .i64 0] rfl rfl 134 HH.out (by kernel_rfl) (by simp [Value.oneCell']) ?_)|fail)
  have hb23:Below w.heap.size w w3:=HB.out.trans ((hb2.mono (by simp)).trans (hb3.mono (by have:=hb2.size;simp at this;omega)))
  have x0:w3.cell? ⟨w.heap.size,0,none⟩=some (.string ⟨#[]⟩):=by rw [cells_at HH.out];rfl
  have x1:w3.cell? ⟨w.heap.size,1,none⟩=some (.int .i64 0):=by rw [cells_at HH.out];rfl
  have x2:w3.cell? ⟨w.heap.size,2,none⟩=some (.int .i64 0):=by rw [cells_at HH.out];rfl
  have x3:w3.cell? ⟨w.heap.size,3,none⟩=some (.int .i64 0):=by rw [cells_at HH.out];rfl
  have x4:w3.cell? ⟨w.heap.size,4,none⟩=some (.int .i64 0):=by rw [cells_at HH.out];rfl
  have x5:w3.cell? ⟨w.heap.size,5,none⟩=some (.int .i64 0):=by rw [cells_at HH.out];rfl
  have x6:w3.cell? ⟨w.heap.size,6,none⟩=some (.int .i64 0):=by rw [cells_at HH.out];rfl
  have x7:w3.cell? ⟨w.heap.size,7,none⟩=some (.int .i64 0):=by rw [cells_at HH.out];rfl
  refine bodyPost_ret (v:=.tuple #[.agg #[.string ⟨#[]⟩,.int .i64 0,.int .i64 0,.int .i64 0,.int .i64 0,.int .i64 0,.int .i64 0,.int .i64 0],.string ⟨#[]⟩,e3]) ?_ rfl ⟨_,rfl,hch3,hb23⟩
  simp [results,Tryz.results146,go_sem,x0,x1,x2,x3,x4,x5,x6,x7]
 ·have hl9:(9:Int)<(s.size:Int):=by omega
  have hl10:¬(s.size:Int)<10:=by omega
  obtain ⟨q,hq9⟩:∃q,(s[9]'(by omega)).toNat=q:=⟨_,rfl⟩
  rw [hq9] at hlt
  have hq:(s.size:Int)-10<(q:Int):=by omega
  have hwq:wrap64 (q:Int)=(q:Int):=by have:=(s[9]'(by omega)).toNat_lt;unfold wrap64;omega
  go_enter Tryz.func146,Tryz.ntmps146
  go_wp2_with (first | (go_at_call 77;refine (atCount_any (s.size:Int) _ _ 12 0 _ HI.out (by decide) HT.out .hit).mono ?_;rintro e w2 ⟨e2,rfl,hch,hb2⟩;(have HCH:=hid hch);(obtain ⟨te,ve,rfl⟩:=hch.shape);clear hch)|(go_at_call 53;refine (at_chain _ _ 12 1 _ HCH.out).mono ?_;rintro e w3 ⟨e3,rfl,hch3,hb3⟩;(have HH:=hid ((hb3.block w.heap.size (by have:=hb2.size;simp at this;omega)).trans ((hb2.block w.heap.size (by simp)).trans (alloc_at _ _)))))|(refine wpList_store_same rfl 134 (.tmp 2) (.tmp 19) rfl w.heap.size #[.string ⟨#[]⟩,.int .i64 0,.int .i64 0,.int .i64 0,.int .i64 0,.int .i64 0,.int .i64 0,.int .i64 0] rfl rfl 134 HH.out (by kernel_rfl) (by simp [Value.oneCell']) ?_)|fail)
  have hb23:Below w.heap.size w w3:=HB.out.trans ((hb2.mono (by simp)).trans (hb3.mono (by have:=hb2.size;simp at this;omega)))
  have x0:w3.cell? ⟨w.heap.size,0,none⟩=some (.string ⟨#[]⟩):=by rw [cells_at HH.out];rfl
  have x1:w3.cell? ⟨w.heap.size,1,none⟩=some (.int .i64 0):=by rw [cells_at HH.out];rfl
  have x2:w3.cell? ⟨w.heap.size,2,none⟩=some (.int .i64 0):=by rw [cells_at HH.out];rfl
  have x3:w3.cell? ⟨w.heap.size,3,none⟩=some (.int .i64 0):=by rw [cells_at HH.out];rfl
  have x4:w3.cell? ⟨w.heap.size,4,none⟩=some (.int .i64 0):=by rw [cells_at HH.out];rfl
  have x5:w3.cell? ⟨w.heap.size,5,none⟩=some (.int .i64 0):=by rw [cells_at HH.out];rfl
  have x6:w3.cell? ⟨w.heap.size,6,none⟩=some (.int .i64 0):=by rw [cells_at HH.out];rfl
  have x7:w3.cell? ⟨w.heap.size,7,none⟩=some (.int .i64 0):=by rw [cells_at HH.out];rfl
  refine bodyPost_ret (v:=.tuple #[.agg #[.string ⟨#[]⟩,.int .i64 0,.int .i64 0,.int .i64 0,.int .i64 0,.int .i64 0,.int .i64 0,.int .i64 0],.string ⟨#[]⟩,e3]) ?_ rfl ⟨_,rfl,hch3,hb23⟩
  simp [results,Tryz.results146,go_sem,x0,x1,x2,x3,x4,x5,x6,x7]
def EpochsOk (mode epoch count:Nat):Prop:=(count=1∨count=2)∧epoch+count-1≤100∧(0<epoch+count-1→mode≠1)
set_option maxRecDepth 100000 in
set_option maxHeartbeats 2000000 in
theorem epochs_ok (nm:ByteArray) (mode t l size epoch count:Nat) (w:World) (h:EpochsOk mode epoch count) :
  Calls Tryz.prog 147 #[.agg #[.string nm,.int .i64 mode,.int .i64 t,.int .i64 l,.int .i64 size,.int .i64 epoch],.int .i64 count] w fun e w'=>e=.returned .nilIface∧Below w.heap.size w w':=by
 obtain ⟨h1,h2,h3⟩:=h
 have hba:=(Below.refl w.heap.size w).alloc (Nat.le_refl _) (.cells #[.string nm,.int .i64 mode,.int .i64 t,.int .i64 l,.int .i64 size,.int .i64 epoch] 65)
 have HB:=hid hba
 clear hba
 rcases h1 with rfl | rfl
 ·have hle:¬(100:Int)<(epoch:Int):=by omega
  by_cases h0:epoch=0
  ·subst h0
   go_enter Tryz.func147,Tryz.ntmps147
   go_wp2_with fail
   go_ret
   exact ⟨rfl,HB.out⟩
  ·have hpos:(0:Int)<(epoch:Int):=by omega
   have hm:¬(mode:Int)=1:=by have:=h3 (by omega);omega
   go_enter Tryz.func147,Tryz.ntmps147
   go_wp2_with fail
   go_ret
   exact ⟨rfl,HB.out⟩
 ·have hle:¬(100:Int)<(epoch:Int)+2-1:=by omega
  have hpos:(0:Int)<(epoch:Int)+2-1:=by omega
  have hm:¬(mode:Int)=1:=by have:=h3 (by omega);omega
  go_enter Tryz.func147,Tryz.ntmps147
  go_wp2_with fail
  go_ret
  exact ⟨rfl,HB.out⟩
end Go.Proofs.YtcegdgmbponapabGreatDoor