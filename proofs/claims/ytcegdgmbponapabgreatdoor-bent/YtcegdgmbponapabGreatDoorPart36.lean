/-
  cofferkeep.Bent: what the row says of the program, worked out by the kernel: a fact each, so that what one holds is freed ahead of the next.
  slices.Concat of bytes, of greater rows.
  An image is made of a store's records.
  An image is made: the loop.
-/
import Derived.Test.YtcegdgmbponapabGreatDoorPart26
namespace Go.Proofs.YtcegdgmbponapabGreatDoor
open Go.ChangeShapes Go.WideShapes Go.ChangeAt Go.RowKit Go.Joins
theorem bent_inPlace:(Rows.bentRow.inPlace == Tryz.pinned.checked.prog.inPlace 3)=true:=by kernel_rfl
theorem bent_unfollowed:(Rows.bentRow.unfollowed == Tryz.pinned.checked.prog.unfollowed 3)=true:=by kernel_rfl
theorem bent_recurses:(Rows.bentRow.recurses == Tryz.pinned.checked.prog.recurses 3)=true:=by kernel_rfl
theorem bent_named:(Rows.bentRow.named == Tryz.pinned.checked.prog.varsNamed 3)=true:=by kernel_rfl
theorem bent_joined:Go.joinedFacts Tryz.pinned.checked.prog 3 Tryz.f3 Rows.bentSpec Rows.bentRow=true:=by
 unfold Go.joinedFacts
 rw [bent_inPlace,bent_unfollowed,bent_recurses,bent_named]
 kernel_rfl
theorem bent_instance:Go.Func.isInstance Tryz.pinned.checked.prog Tryz.f3 Rows.bentRow.origin Rows.bentRow.targs:=of_decide_eq_true (by kernel_rfl)
theorem bent_wrapper:Go.Func.isWrapper Tryz.pinned.checked.prog Tryz.f3 Rows.bentRow.wrapper Rows.bentRow.mainSum:=by unfold Func.isWrapper;first | (rw [if_pos (by decide +kernel)];kernel_rfl)|(rw [if_neg (by decide +kernel)];exact ⟨rfl,rfl⟩)
theorem bent_func:Tryz.pinned.checked.prog.funcNamed Rows.bentRow.func=some 3:=by kernel_rfl
end Go.Proofs.YtcegdgmbponapabGreatDoor
namespace Go.Proofs.YtcegdgmbponapabGreatDoor
open Go.RowKit
set_option maxRecDepth 100000 in
set_option maxHeartbeats 400000 in
theorem growBig (n:Nat) (w:World) (hn:n≤100000) :
  Calls Tryz.prog 105 #[.slice none 0 0,.int .i64 n] w fun e w'=>∃v,e=.returned v∧w'.ownsRow w.heap.size 5 1 v 0 []∧Below w.heap.size w w':=by
 obtain ⟨i0,hi,hz0,hz1,hz2⟩:=info_parts Tryz.info5
 by_cases h0:n=0
 ·subst h0
  go_enter Tryz.func105,Tryz.ntmps105
  go_wp2
  go_ret
  exact ⟨_,rfl,World.ownsRow_nil _ _ _ _,Below.refl _ _⟩
 ·have hrun:∀ty,(Builtin.append_ #[44,3] ty #[.slice none 0 0,.int .i64 n]).run Tryz.prog w=_:=fun ty=>Lib.run_append_nil_zeros w 44 3 ty 5 i0 (Value.int .u8 0) .i64 .i64 Tryz.underlying44 Tryz.underlying3 hi hz0 n (by omega) (by omega) (by omega) (by rw [hz2];omega)
  have hg:=grownCap_ge w n 0 5
  have hm:=grownCap_le_maxLen w n 0 5 (by unfold maxLen;omega)
  have HO:=hid (grown_room w 5 (Value.int .u8 0) n (grownCap w n 0 5) rfl hg hm)
  have HB:=hid (((Below.refl w.heap.size w).drew).alloc (Nat.le_refl _) (.cells (Builtin.zeroCells (Value.int .u8 0).cells n++Builtin.zeroCells (Value.int .u8 0).cells (grownCap w n 0 5-n)) 5))
  generalize grownCap w n 0 5=cap at *
  generalize (w.drew.alloc (.cells (Builtin.zeroCells (Value.int .u8 0).cells n++Builtin.zeroCells (Value.int .u8 0).cells (cap-n)) 5))=w1 at *
  have HR:=hid hrun
  clear hrun
  unfold maxLen at hm
  go_enter Tryz.func105,Tryz.ntmps105
  go_wp2_with (first | (at_builtin;refine Lib.wpList_append_run _ rfl (.tmp 20) (.tmp 21) _ _ rfl _ _ rfl rfl _ _ (HR.out _) ?_)|fail)
  go_ret
  exact ⟨_,rfl,HO.out,HB.out⟩
set_option maxRecDepth 100000 in
set_option maxHeartbeats 1000000 in
theorem concatBig (b M c:Nat) (A:Nat→Option Addr) (N C:Nat→Nat) (X:Nat→List UInt8) (w:World) (hbs:b<w.heap.size) (hM:M≤10)
  (hc:∀k,k<M→w.cell? ⟨b,k,none⟩=some (.slice (A k) (N k) (C k))∧Rd w (A k) (bs (X k))∧(X k).length=N k∧N k≤5000∧(A k=none→C k=0)) :
  Calls Tryz.prog 74 #[.slice (some ⟨b,0,none⟩) M c] w fun e w'=>∃v,e=.returned v∧w'.ownsRow w.heap.size 5 1 v (flat X M).length (bs (flat X M))∧Below w.heap.size w w':=by
 obtain ⟨i0,hi,hz0,hz1,hz2⟩:=info_parts Tryz.info5
 have HC:=hid hc
 have hfl:=flat_len X M 5000 (fun k hk=>by obtain ⟨_,_,h3,h4,_⟩:=hc k hk;omega)
 have HFL:=hid hfl
 clear hc hfl
 go_enter Tryz.func74,Tryz.ntmps74
 go_wp2
 go_loopw [3,11] (fun s i wr=>∃k:Nat,k≤M∧i=.int .i64 k∧s=.int .i64 ((flat X k).length:Nat)∧wr=w) (fun _ i _=>M-(intOf i).toNat)
 case atStart=>exact ⟨0,Nat.zero_le _,rfl,by simp [flat],rfl⟩
 case round =>
  obtain ⟨k,hk,rfl,rfl,rfl⟩:=hrel
  by_cases hlt:k<M
  ·obtain ⟨h1,h2,h3,h4,h5⟩:=HC.out k hlt
   have HL:=hid (show (flat X (k+1)).length=(flat X k).length+N k by rw [flat_succ,List.length_append,h3])
   have hb:=HFL.out k hk
   have hq:k*5000≤10*5000:=Nat.mul_le_mul_right _ (by omega)
   generalize (flat X k).length=s at *
   generalize N k=n at *
   generalize A k=a at *
   generalize C k=cc at *
   have hlt':(k:Int)<(M:Int):=by omega
   clear h2 h3 h5
   go_wp2
   go_roundw
   case rel=>exact ⟨k+1,by omega,by go_num,by rw [HL.out];simp,trivial⟩
   case measure=>simp [intOf];omega
  ·have hkn:k=M:=by omega
   subst hkn
   have hb:=HFL.out k (Nat.le_refl _)
   have hq:k*5000≤10*5000:=Nat.mul_le_mul_right _ (by omega)
   obtain ⟨S,hS⟩:∃S,S=(flat X k).length:=⟨_,rfl⟩
   have HS:=hid hS
   rw [←hS] at hb
   rw [←hS]
   clear hS
   obtain ⟨w0,hw0⟩:∃w0,w0=wr:=⟨_,rfl⟩
   obtain ⟨M,hMM⟩:∃M,M=k:=⟨_,rfl⟩
   subst hw0 hMM
   go_wp2_with fail
   refine (growBig S _ (by omega)).mono ?_
   rintro e w1 ⟨v1,rfl,hown1,hb1⟩
   have HO1:=hid hown1
   have hzw:=hb1.size
   clear hown1
   go_wp2
   go_loopw [6,27] (fun v i wr=>∃k:Nat,k≤M∧i=.int .i64 k∧wr.ownsRow w0.heap.size 5 1 v (flat X k).length (bs (flat X k))∧Below w0.heap.size w0 wr) (fun _ i _=>M-(intOf i).toNat)
   case atStart=>exact ⟨0,Nat.zero_le _,rfl,by rw [flat_zero];exact HO1.out,hb1⟩
   case round =>
    obtain ⟨k,hk,rfl,hown,hbel⟩:=hrel
    have hzb:=hbel.size
    by_cases hlt:k<M
    ·obtain ⟨h1,h2,h3,h4,h5⟩:=HC.out k hlt
     have c1:wr.cell? ⟨b,k,none⟩=some (.slice (A k) (N k) (C k)):=(hbel.cell (by exact hbs)).trans h1
     have HR:=hid (h2.below hbel (Nat.le_refl _))
     have HL:=hid (show (flat X (k+1)).length=(flat X k).length+N k by rw [flat_succ,List.length_append,h3])
     have HF:=hid (show bs (flat X (k+1))=bs (flat X k)++bs (X k) by rw [flat_succ];simp [bs])
     have H3:=hid (show (bs (X k)).length=N k by rw [bs_length,h3])
     have H1:=hid (fun u hu=>bs_one (X k) u hu)
     have hbk:=HFL.out k hk
     have hqk:k*5000≤10*5000:=Nat.mul_le_mul_right _ (by omega)
     have HO:=hid hown
     generalize (flat X k).length=s at *
     generalize bs (flat X k)=fl at *
     generalize bs (X k)=xk at *
     generalize N k=n at *
     generalize A k=a at *
     generalize C k=cc at *
     have H5:=hid h5
     have hlt':(k:Int)<(M:Int):=by omega
     clear h1 h2 h3 h5 hown
     go_wp2_with (first | (at_builtin;refine append_src _ rfl (.tmp 31) (.tmp 32) 44 rfl w0.heap.size 5 i0 (Value.int .u8 0) 1 Tryz.underlying44 hi hz0 hz1 hz2 rfl _ s fl rfl HO.out a n cc xk rfl H3.out HR.out H5.out H1.out (by omega) (by omega) hzb ?_;intro v2 w2 hown2 hgrow2;have hb2:Below w0.heap.size w0 w2:=hbel.grown hgrow2 hzb (fun k hk=>(HO.out.lt k hk).1);have HO2:=hid hown2;clear hown2 hgrow2)|fail)
     go_roundw
     case rel=>exact ⟨k+1,by omega,by go_num,by rw [HL.out,HF.out];exact HO2.out,hb2⟩
     case measure=>simp [intOf];omega
    ·have hkn:k=M:=by omega
     subst hkn
     go_wp2
     go_ret
     exact ⟨_,rfl,hown,hbel⟩
end Go.Proofs.YtcegdgmbponapabGreatDoor
namespace Go.Proofs.YtcegdgmbponapabGreatDoor
open Go.RowKit
attribute [local go_sem ↓] Go.wp_at_zero Go.wp_at_succ
def RecV.count (r:RecV):Nat:=if r.na=none then 1 else 2
set_option maxRecDepth 100000 in
set_option maxHeartbeats 1000000 in
theorem count_any (r:RecV) (w:World) :
  Calls Tryz.prog 75 #[.agg #[.string r.name,.int .i64 r.mode,.int .i64 r.t,.int .i64 r.l,.int .i64 r.size,.int .i64 r.epoch,.slice r.sa r.sn r.sc,.slice r.na r.nn r.nc]] w fun e w'=>e=.returned (.int .u8 r.count)∧Below w.heap.size w w':=by
 have HB:=hid ((Below.refl w.heap.size w).alloc (Nat.le_refl _) (.cells #[.string r.name,.int .i64 r.mode,.int .i64 r.t,.int .i64 r.l,.int .i64 r.size,.int .i64 r.epoch,.slice r.sa r.sn r.sc,.slice r.na r.nn r.nc] 127))
 have HC:=hid (show r.count=if r.na=none then 1 else 2 from rfl)
 have hEQ:∀(w:World) (a:Option Addr) (n c:Nat),(binOp .eql 44 (.slice a n c) (.slice none 0 0)).run Tryz.prog w=.ok (.bool a.isNone) w:=fun w a n c=>Lib.run_eql_slice_nil w _ _ a n c 0 0 Tryz.underlying44
 generalize r.count=x at *
 obtain ⟨name,mode,t,l,size,epoch,sa,sn,sc,na,nn,nc⟩:=r
 simp only at HB HC ⊢
 cases na with
 | none =>
  have hx:=HC.out
  rw [if_pos rfl] at hx
  subst hx
  go_enter Tryz.func75,Tryz.ntmps75
  go_wp2_with fail
  go_ret
  exact ⟨rfl,HB.out⟩
 | some ad =>
  have hx:=HC.out
  rw [if_neg (by simp)] at hx
  subst hx
  go_enter Tryz.func75,Tryz.ntmps75
  go_wp2_with fail
  go_ret
  exact ⟨rfl,HB.out⟩
structure Tell (w:World) (n i:Nat) (r:RecV) (X Y:List UInt8):Prop where
 plan:IsPlan r.mode r.t r.l n
 ep:r.epoch≤100
 sz:r.size≤60
 nm:r.name.size≤12
 sh:Rd w r.sa (bs X)∧X.length=r.sn∧r.sn≤5000∧(r.sa=none→r.sc=0)
 nx:Rd w r.na (bs Y)∧Y.length=r.nn∧r.nn≤5000∧(r.na=none→r.nc=0)
theorem Tell.keeps {w w':World} {n i:Nat} {r:RecV} {X Y:List UInt8} (h:Tell w n i r X Y) (hb:Below w.heap.size w w'):Tell w' n i r X Y :=
 ⟨h.plan,h.ep,h.sz,h.nm,⟨h.sh.1.below hb (Nat.le_refl _),h.sh.2⟩,⟨h.nx.1.below hb (Nat.le_refl _),h.nx.2⟩⟩
def imgRec (n i:Nat) (r:RecV) (X Y:List UInt8):List UInt8:=UInt8.ofNat r.count :: (Cof.head r.mode r.t r.l n i r.epoch r.size r.name.data.toList++X++Y)
def imgRows (I:List UInt8) (n i:Nat) (r:RecV) (X Y:List UInt8):Nat→List UInt8
 | 0=>I
 | 1=>[UInt8.ofNat r.count]
 | 2=>Cof.head r.mode r.t r.l n i r.epoch r.size r.name.data.toList
 | 3=>X
 | _=>Y
theorem imgRows_flat (I:List UInt8) (n i:Nat) (r:RecV) (X Y:List UInt8):flat (imgRows I n i r X Y) 5=I++imgRec n i r X Y:=by
 simp [flat,imgRows,imgRec,List.range_succ]
def imgOf (n i:Nat) (rs:List RecV) (X Y:Nat→List UInt8):Nat→List UInt8
 | 0=>[]
 | k+1=>imgOf n i rs X Y k++imgRec n i (rs[k]!) (X k) (Y k)
def Row5 (w:World) (a:Option Addr) (n c:Nat) (X:List UInt8):Prop:=Rd w a (bs X)∧X.length=n∧n≤5000∧(a=none→c=0)
theorem Row5.keeps {w w':World} {a:Option Addr} {n c:Nat} {X:List UInt8} (h:Row5 w a n c X) (hb:Below w.heap.size w w'):Row5 w' a n c X:=⟨h.1.below hb (Nat.le_refl _),h.2⟩
theorem owns_row5 {w:World} {base n:Nat} {v:Value} {X:List UInt8} (h:w.ownsRow base 5 1 v n (bs X)) (hn:n≤5000):∃a c,v=.slice a n c∧Row5 w a n c X:=by
 have h1:=h.1
 rw [bs_length,Nat.mul_one] at h1
 obtain ⟨a,c,rfl,hrd⟩:=owns_rd_size h
 refine ⟨a,c,rfl,hrd,h1,hn,fun e=>?_⟩
 rcases h.2 with ⟨h8,_⟩|⟨g',cap,cur,h8,_⟩
 ·cases h8;rfl
 ·cases h8;cases e
def imV (T W0:Nat) (r:RecV) (a0 ah:Option Addr) (n0 c0 nh ch:Nat) (Z:List UInt8):Nat→Value→World→Prop
 | 0,v,_=>v=.slice a0 n0 c0
 | 1,v,_=>v=.agg #[.string r.name,.int .i64 r.mode,.int .i64 r.t,.int .i64 r.l,.int .i64 r.size,.int .i64 r.epoch,.slice r.sa r.sn r.sc,.slice r.na r.nn r.nc]
 | 2,v,_=>v=.int .u8 r.count
 | 3,v,w=>∃b1,v=.slice (some ⟨b1,0,none⟩) 1 1∧w.heap[b1]?=some (.cells #[.int .u8 r.count] 5)
 | 4,v,_=>v=.slice ah nh ch
 | 5,v,_=>v=.pointer (some ⟨T,6,none⟩)
 | 6,v,_=>v=.slice r.sa r.sn r.sc
 | 7,v,_=>v=.pointer (some ⟨T,7,none⟩)
 | 8,v,_=>v=.slice r.na r.nn r.nc
 | 9,v,w=>∃b2 b1,v=.slice (some ⟨b2,0,none⟩) 5 5∧w.heap[b2]?=some (.cells #[.slice a0 n0 c0,.slice (some ⟨b1,0,none⟩) 1 1,.slice ah nh ch,.slice r.sa r.sn r.sc,.slice r.na r.nn r.nc] 44)∧w.heap[b1]?=some (.cells #[.int .u8 r.count] 5)
 | 10,v,w=>w.ownsRow W0 5 1 v Z.length (bs Z)
 | 11,v,w=>w.ownsRow W0 5 1 v Z.length (bs Z)
 | _,_,_=>True
def imS (i:Nat):Nat:=if i=11 then 7 else i+23
theorem imV_keeps (T W0:Nat) (r:RecV) (a0 ah:Option Addr) (n0 c0 nh ch:Nat) (Z:List UInt8) (j:Nat) (v:Value) (w w':World) (h:imV T W0 r a0 ah n0 c0 nh ch Z j v w) (hs:Spared (fun _=>False) w w'):imV T W0 r a0 ah n0 c0 nh ch Z j v w':=by
 unfold imV at h ⊢
 split at h
 ·exact h
 ·exact h
 ·exact h
 ·obtain ⟨b1,h1,h2⟩:=h
  exact ⟨b1,h1,hs.heap h2 (fun h=>h)⟩
 ·exact h
 ·exact h
 ·exact h
 ·exact h
 ·exact h
 ·obtain ⟨b2,b1,h1,h2,h3⟩:=h
  exact ⟨b2,b1,h1,hs.heap h2 (fun h=>h),hs.heap h3 (fun h=>h)⟩
 ·exact owns_spared h hs (fun _ _ h=>h)
 ·exact owns_spared h hs (fun _ _ h=>h)
 ·trivial
theorem arr36 (t:Array Value) (h:t.size=36):∃u0 u1 u2 u3 u4 u5 u6 u7 u8 u9 u10 u11 u12 u13 u14 u15 u16 u17 u18 u19 u20 u21 u22 u23 u24 u25 u26 u27 u28 u29 u30 u31 u32 u33 u34 u35:Value,t=#[u0,u1,u2,u3,u4,u5,u6,u7,u8,u9,u10,u11,u12,u13,u14,u15,u16,u17,u18,u19,u20,u21,u22,u23,u24,u25,u26,u27,u28,u29,u30,u31,u32,u33,u34,u35]:=⟨_,_,_,_,_,_,_,_,_,_,_,_,_,_,_,_,_,_,_,_,_,_,_,_,_,_,_,_,_,_,_,_,_,_,_,_,arr_of t 36 h⟩
set_option maxRecDepth 100000 in
set_option maxHeartbeats 2000000 in
theorem imade_any (a:Option Addr) (m c n i:Nat) (rs:List RecV) (X Y:Nat→List UInt8) (w:World) (em:m=rs.length) (hm:m≤10) (hi:i<n) (hr:Rd w a (recs rs)) (ht:∀k,k<m→Tell w n i (rs[k]!) (X k) (Y k)) (hI:∀k,k≤m→(imgOf n i rs X Y k).length≤5000) :
  Calls Tryz.prog 49 #[.slice a m c,.int .i64 n,.int .i64 i] w fun e w'=>∃v,e=.returned v∧w'.ownsRow w.heap.size 5 1 v (imgOf n i rs X Y m).length (bs (imgOf n i rs X Y m))∧Below w.heap.size w w':=by
 have EM:=hid em
 have HR:=hid hr
 have HT:=hid ht
 have HIM:=hid hI
 clear em hr ht hI
 go_enter Tryz.func49,Tryz.ntmps49
 go_wp2_with fail
 go_loopw [7,13] (fun v u wr=>∃k:Nat,u=.int .i64 k∧k≤m∧wr.ownsRow w.heap.size 5 1 v (imgOf n i rs X Y k).length (bs (imgOf n i rs X Y k))∧Below w.heap.size w wr) (fun _ u _=>m-(intOf u).toNat)
 case atStart=>exact ⟨0,rfl,Nat.zero_le _,⟨rfl,.inl ⟨rfl,rfl⟩⟩,Below.refl _ _⟩
 case round =>
  obtain ⟨k,rfl,hkm,hown,hbel⟩:=hrel
  by_cases hlt:k<m
  ·have hlt':(k:Int)<(m:Int):=by omega
   obtain ⟨b,o,rfl,hb,_⟩:=HR.out.pos (by rw [recs_length,←EM.out];omega)
   obtain ⟨_,k0,k1,k2,k3,k4,k5,k6,k7⟩:=rec_at (HR.out.below hbel (Nat.le_refl _)) k (by rw [←EM.out];omega)
   have hT:=(HT.out k hlt).keeps hbel
   obtain ⟨r,hr⟩:∃r,r=rs[k]! := ⟨_,rfl⟩
   rw [←hr] at k0 k1 k2 k3 k4 k5 k6 k7 hT
   have HRR:=hid hr
   clear hr
   have HO:=hid hown
   have HTT:=hid hT
   have HHD:=hid (fun w'=>head_any r.mode r.t r.l n i r.epoch r.size r.name w' hT.plan hi hT.ep hT.sz hT.nm)
   clear hown hT
   go_wp2_with fail
   refine (HHD.out _).mono ?_
   rintro e w2 ⟨hv,rfl,hhd,hb2⟩
   have HH:=hid hhd
   clear hhd
   go_wp2_with fail
   obtain ⟨ah,ch,rfl,hrh⟩:=owns_row5 HH.out (by have:=HTT.out.nm;omega)
   obtain ⟨a0,c0,rfl,hr0⟩:=owns_row5 HO.out (HIM.out k hkm)
   have HI1:=hid (HIM.out (k+1) hlt)
   obtain ⟨n0,hn0⟩:∃n0,n0=(imgOf n i rs X Y k).length:=⟨_,rfl⟩
   obtain ⟨nh,hnh⟩:∃nh,nh=10+r.name.size:=⟨_,rfl⟩
   rw [←hn0] at hr0 ⊢
   rw [←hnh] at hrh ⊢
   obtain ⟨T,hT⟩:∃T,T=wr.heap.size:=⟨_,rfl⟩
   have HBX:=hid ((hb2.block wr.heap.size (by simp)).trans (alloc_at wr _))
   have hbr2:Below wr.heap.size wr w2:=((Below.refl wr.heap.size wr).alloc (Nat.le_refl _) _).trans (hb2.mono (by simp))
   have HR0:=hid (hr0.keeps hbr2)
   have HRH:=hid hrh
   have HSH:=hid (show Row5 w2 r.sa r.sn r.sc (X k) from ⟨HTT.out.sh.1.below hbr2 (Nat.le_refl _),HTT.out.sh.2⟩)
   have HNX:=hid (show Row5 w2 r.na r.nn r.nc (Y k) from ⟨HTT.out.nx.1.below hbr2 (Nat.le_refl _),HTT.out.nx.2⟩)
   have hbw2:Below w.heap.size w w2:=hbel.trans (hbr2.mono hbel.size)
   have HN0:=hid hn0
   rw [←hT] at HBX ⊢
   clear hr0 hrh hn0 hnh hT k0 k1 k2 k3 k4 k5 k6 k7 HH HO
   obtain ⟨Z,hZ⟩:∃Z,Z=imgOf n i rs X Y k++imgRec n i r (X k) (Y k):=⟨_,rfl⟩
   have HZ:=hid hZ
   clear hZ
   have HC:∀w':World,Spared (fun b=>∃_:Nat,False) { w2 with drawn:=w2.drawn+1 } w'→w'.cell? ⟨T,0,none⟩=some (.string r.name)∧w'.cell? ⟨T,1,none⟩=some (.int .i64 r.mode)∧w'.cell? ⟨T,2,none⟩=some (.int .i64 r.t)∧w'.cell? ⟨T,3,none⟩=some (.int .i64 r.l)∧w'.cell? ⟨T,4,none⟩=some (.int .i64 r.size)∧w'.cell? ⟨T,5,none⟩=some (.int .i64 r.epoch)∧w'.cell? ⟨T,6,none⟩=some (.slice r.sa r.sn r.sc)∧w'.cell? ⟨T,7,none⟩=some (.slice r.na r.nn r.nc):=by
    intro w' hs
    have hh:=hs.heap (b:=T) HBX.out (by rintro ⟨_,h⟩;exact h)
    exact ⟨by rw [cells_at hh];rfl,by rw [cells_at hh];rfl,by rw [cells_at hh];rfl,by rw [cells_at hh];rfl,by rw [cells_at hh];rfl,by rw [cells_at hh];rfl,by rw [cells_at hh];rfl,by rw [cells_at hh];rfl⟩
   have MK:∀(j:Nat) (a:Act) (w':World) (o:Oper),a.tmps.size=36→j<12→StepOk Tryz.prog o a w' (fun u w''=>Spared (fun _=>False) w' w''∧imV T w.heap.size r a0 ah n0 c0 nh ch Z j u w'')→StepOk Tryz.prog o a w' (fun u w''=>Spared (fun _=>False) w' w''∧imV T w.heap.size r a0 ah n0 c0 nh ch Z j ((a.put (some (imS j)) u).tmps.getD (imS j) undef) w''):=by
    intro j a w' o hsz hj hh
    refine hh.weaken fun u w'' hp=>⟨hp.1,?_⟩
    rw [put_eq _ _ _ (by unfold imS;split<;>omega)]
    exact hp.2
   refine wp_region_own (by kernel_rfl) imS (fun j a w'=>imV T w.heap.size r a0 ah n0 c0 nh ch Z j (a.tmps.getD (imS j) undef) w') (fun _ _=>True) (fun _ _=>False) [(0,.slice (some ⟨b,o,none⟩) m c),(1,.int .i64 n),(2,.int .i64 i),(3,undef),(4,undef),(5,undef),(6,.slice none 0 0),(7,.slice a0 n0 c0),(8,undef),(9,.pointer (some ⟨T,0,none⟩)),(10,.slice ah nh ch),(11,.slice (some ⟨b,o,none⟩) m c),(12,.int .i64 m),(13,.int .i64 k),(35,undef)] 36 (fun j=>if j=0 then [7] else if j=1∨j=5∨j=7 then [9] else if j=4 then [10] else []) (by kernel_rfl) rfl rfl ?_ (fun _ _=>trivial) ?_ (fun _ _ _ _ _ _ _ _=>trivial) ?_ ?_
   ·simp
   ·intro p q ac u w3 w4 _ hpq _ _ hr hs hsl
    rw [put_ne _ _ _ _ hsl]
    exact imV_keeps _ _ _ _ _ _ _ _ _ _ _ _ w3 w4 hr hs
   ·refine ⟨?_,?_,?_,?_,?_,?_,?_,?_,?_,?_,?_,?_,trivial⟩
    ·intro ac w' hsz hs hf hd2 hu
     have hd:=fun e he hb=>(hd2 e he hb).1
     refine MK 0 ac w' _ hsz (by decide) ?_
     clear hsz
     have f7:ac.tmps[7]?.getD undef=.slice a0 n0 c0:=by simpa using hf (7,.slice a0 n0 c0) (by simp) rfl
     simp [imV,imS,Region.binds] at hd
     exact .inl ⟨.slice a0 n0 c0,w',by go_simp,Spared.refl _ _,rfl⟩
    ·intro ac w' hsz hs hf hd2 hu
     have hd:=fun e he hb=>(hd2 e he hb).1
     refine MK 1 ac w' _ hsz (by decide) ?_
     clear hsz
     have f9:ac.tmps[9]?.getD undef=.pointer (some ⟨T,0,none⟩):=by simpa using hf (9,.pointer (some ⟨T,0,none⟩)) (by simp) rfl
     obtain ⟨k0,k1,k2,k3,k4,k5,k6,k7⟩:=HC w' hs
     simp [imV,imS,Region.binds] at hd
     exact .inl ⟨.agg #[.string r.name,.int .i64 r.mode,.int .i64 r.t,.int .i64 r.l,.int .i64 r.size,.int .i64 r.epoch,.slice r.sa r.sn r.sc,.slice r.na r.nn r.nc],w',by go_simp,Spared.refl _ _,rfl⟩
    ·intro ac w' hsz hs hf hd2 hu
     have hd:=fun e he hb=>(hd2 e he hb).1
     refine MK 2 ac w' _ hsz (by decide) ?_
     clear hsz
     simp [imV,imS,Region.binds] at hd
     refine .inr ⟨75,#[.agg #[.string r.name,.int .i64 r.mode,.int .i64 r.t,.int .i64 r.l,.int .i64 r.size,.int .i64 r.epoch,.slice r.sa r.sn r.sc,.slice r.na r.nn r.nc]],by go_simp,(count_any r w').mono ?_⟩
     rintro e w'' ⟨rfl,hb3⟩
     exact ⟨_,rfl,Spared.ofBelow hb3 (Nat.le_refl _),rfl⟩
    ·intro ac w' hsz hs hf hd2 hu
     have hd:=fun e he hb=>(hd2 e he hb).1
     refine MK 3 ac w' _ hsz (by decide) ?_
     clear hsz
     simp [imV,imS,Region.binds] at hd
     refine .inl ⟨.slice (some ⟨w'.heap.size,0,none⟩) 1 1,w'.alloc (.cells #[.int .u8 r.count] 5),by go_simp,Spared.ofBelow ((Below.refl _ _).alloc (Nat.le_refl _) _) (Nat.le_refl _),w'.heap.size,rfl,alloc_at _ _⟩
    ·intro ac w' hsz hs hf hd2 hu
     have hd:=fun e he hb=>(hd2 e he hb).1
     refine MK 4 ac w' _ hsz (by decide) ?_
     clear hsz
     have f10:ac.tmps[10]?.getD undef=.slice ah nh ch:=by simpa using hf (10,.slice ah nh ch) (by simp) rfl
     simp [imV,imS,Region.binds] at hd
     exact .inl ⟨.slice ah nh ch,w',by go_simp,Spared.refl _ _,rfl⟩
    ·intro ac w' hsz hs hf hd2 hu
     have hd:=fun e he hb=>(hd2 e he hb).1
     refine MK 5 ac w' _ hsz (by decide) ?_
     clear hsz
     have f9:ac.tmps[9]?.getD undef=.pointer (some ⟨T,0,none⟩):=by simpa using hf (9,.pointer (some ⟨T,0,none⟩)) (by simp) rfl
     simp [imV,imS,Region.binds] at hd
     exact .inl ⟨.pointer (some ⟨T,6,none⟩),w',by go_simp,Spared.refl _ _,rfl⟩
    ·intro ac w' hsz hs hf hd2 hu
     have hd:=fun e he hb=>(hd2 e he hb).1
     refine MK 6 ac w' _ hsz (by decide) ?_
     clear hsz
     obtain ⟨k0,k1,k2,k3,k4,k5,k6,k7⟩:=HC w' hs
     simp [imV,imS,Region.binds] at hd
     exact .inl ⟨.slice r.sa r.sn r.sc,w',by go_simp,Spared.refl _ _,rfl⟩
    ·intro ac w' hsz hs hf hd2 hu
     have hd:=fun e he hb=>(hd2 e he hb).1
     refine MK 7 ac w' _ hsz (by decide) ?_
     clear hsz
     have f9:ac.tmps[9]?.getD undef=.pointer (some ⟨T,0,none⟩):=by simpa using hf (9,.pointer (some ⟨T,0,none⟩)) (by simp) rfl
     simp [imV,imS,Region.binds] at hd
     exact .inl ⟨.pointer (some ⟨T,7,none⟩),w',by go_simp,Spared.refl _ _,rfl⟩
    ·intro ac w' hsz hs hf hd2 hu
     have hd:=fun e he hb=>(hd2 e he hb).1
     refine MK 8 ac w' _ hsz (by decide) ?_
     clear hsz
     obtain ⟨k0,k1,k2,k3,k4,k5,k6,k7⟩:=HC w' hs
     simp [imV,imS,Region.binds] at hd
     exact .inl ⟨.slice r.na r.nn r.nc,w',by go_simp,Spared.refl _ _,rfl⟩
    ·intro ac w' hsz hs hf hd2 hu
     have hd:=fun e he hb=>(hd2 e he hb).1
     refine MK 9 ac w' _ hsz (by decide) ?_
     clear hsz
     simp [imV,imS,Region.binds] at hd
     obtain ⟨d0,⟨b1,d1,d1h⟩,d2,d3,d4⟩:=hd
     refine .inl ⟨.slice (some ⟨w'.heap.size,0,none⟩) 5 5,w'.alloc (.cells #[.slice a0 n0 c0,.slice (some ⟨b1,0,none⟩) 1 1,.slice ah nh ch,.slice r.sa r.sn r.sc,.slice r.na r.nn r.nc] 44),by go_simp,Spared.ofBelow ((Below.refl _ _).alloc (Nat.le_refl _) _) (Nat.le_refl _),w'.heap.size,b1,rfl,alloc_at _ _,?_⟩
     exact (((Below.refl w'.heap.size w').alloc (Nat.le_refl _) _).block b1 (cells_lt d1h)).trans d1h
    ·intro ac w' hsz hs hf hd2 hu
     have hd:=fun e he hb=>(hd2 e he hb).1
     refine MK 10 ac w' _ hsz (by decide) ?_
     clear hsz
     simp [imV,imS,Region.binds] at hd
     obtain ⟨⟨b2,d9,b1,d9h,d9b⟩,_⟩:=hd
     have hbb:Below w2.heap.size w2 w':=(Below.refl w2.heap.size w2).drew.trans (hs.below _ (Nat.le_refl _) (by rintro k ⟨_,h⟩;exact h.elim))
     have hcc:∀q,q<5→w'.cell? ⟨b2,q,none⟩=some (.slice (match q with | 0=>a0 | 1=>some ⟨b1,0,none⟩|2=>ah | 3=>r.sa | _=>r.na) (match q with | 0=>n0 | 1=>1 | 2=>nh | 3=>r.sn | _=>r.nn) (match q with | 0=>c0 | 1=>1 | 2=>ch | 3=>r.sc | _=>r.nc))∧Row5 w' (match q with | 0=>a0 | 1=>some ⟨b1,0,none⟩|2=>ah | 3=>r.sa | _=>r.na) (match q with | 0=>n0 | 1=>1 | 2=>nh | 3=>r.sn | _=>r.nn) (match q with | 0=>c0 | 1=>1 | 2=>ch | 3=>r.sc | _=>r.nc) (imgRows (imgOf n i rs X Y k) n i r (X k) (Y k) q):=by
      intro q hq
      rcases show q=0∨q=1∨q=2∨q=3∨q=4 by omega with rfl | rfl | rfl | rfl | rfl
      ·exact ⟨by rw [cells_at d9h];rfl,HR0.out.keeps hbb⟩
      ·refine ⟨by rw [cells_at d9h];rfl,fun j u hj=>⟨b1,0,rfl,cells_lt d9b,?_⟩,rfl,show (1:Nat)≤5000 by decide,nofun⟩
       rw [Nat.zero_add,cells_at d9b,←hj]
       have hc8:(UInt8.ofNat r.count).toNat=r.count:=by unfold RecV.count;split<;>rfl
       simp only [imgRows,bs,List.map_cons,List.map_nil,hc8]
       simp
      ·exact ⟨by rw [cells_at d9h];rfl,HRH.out.keeps hbb⟩
      ·exact ⟨by rw [cells_at d9h];rfl,HSH.out.keeps hbb⟩
      ·exact ⟨by rw [cells_at d9h];rfl,HNX.out.keeps hbb⟩
     refine .inr ⟨74,#[.slice (some ⟨b2,0,none⟩) 5 5],by go_simp,(concatBig b2 5 5 _ _ _ (imgRows (imgOf n i rs X Y k) n i r (X k) (Y k)) w' (cells_lt d9h) (by decide) (fun q hq=>⟨(hcc q hq).1,(hcc q hq).2.1,(hcc q hq).2.2.1,(hcc q hq).2.2.2.1,(hcc q hq).2.2.2.2⟩)).mono ?_⟩
     rintro e w'' ⟨v,rfl,hown,hb3⟩
     rw [imgRows_flat,←HZ.out] at hown
     exact ⟨_,rfl,Spared.ofBelow hb3 (Nat.le_refl _),World.ownsRow.mono hown (by have:=hbb.size;have:=hbw2.size;omega)⟩
    ·intro ac w' hsz hs hf hd2 hu
     have hd:=fun e he hb=>(hd2 e he hb).1
     refine MK 11 ac w' _ hsz (by decide) ?_
     clear hsz
     simp [imV,imS,Region.binds] at hd
     obtain ⟨d10,_⟩:=hd
     exact .inl ⟨ac.tmps[33]?.getD undef,w',by go_simp,Spared.refl _ _,d10⟩
   ·intro ac w' hdf hsz hsp hfx hr
    have r11:=hr 11 (by decide)
    have hF:∀x∈[(0,.slice (some ⟨b,o,none⟩) m c),(1,.int .i64 n),(2,.int .i64 i),(3,undef),(4,undef),(5,undef),(6,.slice none 0 0),(7,.slice a0 n0 c0),(8,undef),(9,.pointer (some ⟨T,0,none⟩)),(10,.slice ah nh ch),(11,.slice (some ⟨b,o,none⟩) m c),(12,.int .i64 m),(13,.int .i64 k),(35,undef)],x.1≠7→ac.tmps.getD x.1 undef=x.2:=fun x hx h7=>hfx x hx (fun q hq e=>by
     unfold imS at e
     simp only [List.mem_cons,List.not_mem_nil,or_false] at hx
     split at e
     ·exact h7 e.symm
     ·rcases hx with rfl | rfl | rfl | rfl | rfl | rfl | rfl | rfl | rfl | rfl | rfl | rfl | rfl | rfl | rfl<;>simp at e<;>(have:q<12:=hq)<;>omega)
    obtain ⟨tm,df⟩:=ac
    simp only at hdf hsz r11 hF
    subst hdf
    obtain ⟨y0,y1,y2,y3,y4,y5,y6,y7,y8,y9,y10,y11,y12,y13,y14,y15,y16,y17,y18,y19,y20,y21,y22,y23,y24,y25,y26,y27,y28,y29,y30,y31,y32,y33,y34,y35,rfl⟩:=arr36 tm hsz
    simp [imV,imS] at r11
    simp at hF
    obtain ⟨rfl,rfl,rfl,rfl,rfl,rfl,rfl,rfl,rfl,rfl,rfl,rfl,rfl,rfl⟩:=hF
    have hbF:Below w.heap.size w w':=hbw2.drew.trans ((hsp.below w2.heap.size (Nat.le_refl _) (by rintro k ⟨_,h⟩;exact h.elim)).mono hbw2.size)
    have HF:=hid (show w'.ownsRow w.heap.size 5 1 y7 (imgOf n i rs X Y (k+1)).length (bs (imgOf n i rs X Y (k+1))) from by
     have e:imgOf n i rs X Y (k+1)=Z:=by rw [HZ.out,HRR.out];rfl
     rw [e]
     exact r11)
    clear hr hfx hsz r11
    go_wp2_with fail
    go_roundw
    case rel=>exact ⟨k+1,by go_num,by omega,HF.out,hbF⟩
    case measure=>simp [intOf];omega
  ·have hkm':¬(k:Int)<(m:Int):=by omega
   have HKM:=hid (show k=m by omega)
   have HO:=hid hown
   clear hown
   go_wp2_with fail
   go_ret
   refine ⟨_,rfl,?_,hbel⟩
   rw [←HKM.out]
   exact HO.out
end Go.Proofs.YtcegdgmbponapabGreatDoor