/-
  append: where the row lies behind it.
  slices.Insert of one record: at the end, in the middle with room, in the middle without.
  Lists of objects: '==', slices.Equal, Clone, Compact; are they all the same?
  Are the objects of a list all the same?
-/
import Derived.Test.YtcegdgmbponapabGreatDoorPart13
import Derived.Lib.Overlaps
import Derived.Lib.AppendZerosOnto
namespace Go.Proofs.YtcegdgmbponapabGreatDoor
open Go.RowKit
theorem run_append_at {P:Program} (w:World) (base:Nat) (t ty e:TypeId) (i:TypeInfo) (z:Value) (size bytes:Nat) (ht:P.underlying t=some (.slice e)) (hi:P.info? e=some i) (hz:i.zero=some z)
  (hsize:i.size=size) (hby:i.bytes=bytes) (hzs:z.cells.size=size) (hsz:0<size)
  (v:Value) (n:Nat) (xs:List Value) (hown:w.ownsRow base e size v n xs)
  (a:Addr) (m c:Nat) (news:List Value) (hl:news.length=m*size) (hnews:∀j u,news[j]?=some u→w.cell? (a.add j)=some u) (h1:∀u∈news,u.oneCell'=true)
  (h63:n+m≤maxLen) (hbytes:(n+m)*bytes≤140737488355328) (hbase:base≤w.heap.size) (hm:0<m) :
  ∃v' w',(Builtin.append_ #[t,t] ty #[v,.slice (some a) m c]).run P w=.ok v' w'∧w'.ownsRow base e size v' (n+m) (xs++news)∧w.grownBy w' v.ownBlock ∧
   (v'.ownBlock=v.ownBlock∨v'.ownBlock=some w.heap.size):=by
 obtain ⟨v',w',hr0,h2,h3,_⟩:=run_append_own (P:=P) w base t ty e i z size bytes ht hi hz hsize hby hzs hsz v n xs hown a m c news hl hnews h1 h63 hbytes hbase
 refine ⟨v',w',hr0,h2,h3,?_⟩
 subst hsize
 subst hby
 have hsmall:n+m≤9223372036854775807:=by simp only [maxLen] at h63;omega
 rcases hown.2 with ⟨rfl,rfl⟩|⟨g,cap,cur,rfl,hbg,hg,hnc,hcm,hcs,htake⟩
 ·have hr:=run_append_nil (P:=P) w t ty e i z ht hi hz a m c news hl hnews (by omega) (by omega) (by have hb:=hbytes;simp only [Nat.zero_add] at hb;omega)
  rw [hr0] at hr
  cases hr
  exact .inr rfl
 ·by_cases hroom:n+m≤cap
  ·have hfit:n*i.size+news.length≤cur.size:=by rw [hl,hcs,←Nat.add_mul];exact Nat.mul_le_mul_right _ hroom
   have hr:=run_append_room (P:=P) w t ty e i ht hi g n cap cur hg a m c news hl hnews h1 hroom hfit
   rw [hr0] at hr
   cases hr
   exact .inl rfl
  ·have holds:∀j u,xs[j]?=some u→w.cell? ((⟨g,0,none⟩:Addr).add j)=some u:=hown.cells (g:=g) rfl
   have hr:=run_append_grow (P:=P) w t ty e i z ht hi hz ⟨g,0,none⟩ n cap xs hown.1 holds a m c news hl hnews (by omega) (by omega) (growslice_fits (by omega) hbytes)
   rw [hr0] at hr
   cases hr
   exact .inr rfl
theorem append_step {P:Program} {o:Oper} {ac:Act} {w:World} {post:Value→World→Prop} (s x:Operand) (t:TypeId) (ho:o.op=.call { callee:=.builtin .append,args:=#[s,x],argTypes:=#[t,t] })
  (base:Nat) (e:TypeId) (i:TypeInfo) (z:Value) (size bytes:Nat) (ht:P.underlying t=some (.slice e)) (hi:P.info? e=some i) (hz:i.zero=some z)
  (hsize:i.size=size) (hby:i.bytes=bytes) (hzs:z.cells.size=size) (hsz:0<size)
  (v:Value) (n:Nat) (xs:List Value) (hs:ac.eval s=v) (hown:w.ownsRow base e size v n xs)
  (a:Addr) (m c:Nat) (news:List Value) (hx:ac.eval x=.slice (some a) m c) (hl:news.length=m*size) (hnews:∀j u,news[j]?=some u→w.cell? (a.add j)=some u) (h1:∀u∈news,u.oneCell'=true)
  (h63:n+m≤maxLen) (hbytes:(n+m)*bytes≤140737488355328) (hbase:base≤w.heap.size) (hm:0<m)
  (h:∀v' w',w'.ownsRow base e size v' (n+m) (xs++news)→w.grownBy w' v.ownBlock→(v'.ownBlock=v.ownBlock∨v'.ownBlock=some w.heap.size)→post v' w'):StepOk P o ac w post:=by
 obtain ⟨v',w',hr,h2,h3,h4⟩:=run_append_at (P:=P) w base t o.type e i z size bytes ht hi hz hsize hby hzs hsz v n xs hown a m c news hl hnews h1 h63 hbytes hbase hm
 refine .inl ⟨v',w',?_,h v' w' h2 h3 h4⟩
 unfold execOp
 simp only [ho,resolve,invoke,builtin,Sem.run_bind,Sem.run_pure,Result.andThen_ok,List.map_toArray,List.map_cons,List.map_nil,hs,hx,hr]
theorem grown_spared {w w':World} {v:Value} (h:w.grownBy w' v.ownBlock):Spared (fun b=>v.ownBlock=some b) w w' :=
 ⟨h.os,h.tape,h.output,h.size,fun k hk ho=>h.block k hk fun e=>ho e.symm⟩
theorem arr56 (t:Array Value) (h:t.size=56):∃u0 u1 u2 u3 u4 u5 u6 u7 u8 u9 u10 u11 u12 u13 u14 u15 u16 u17 u18 u19 u20 u21 u22 u23 u24 u25 u26 u27 u28 u29 u30 u31 u32 u33 u34 u35 u36 u37 u38 u39 u40 u41 u42 u43 u44 u45 u46 u47 u48 u49 u50 u51 u52 u53 u54 u55:Value,t=#[u0,u1,u2,u3,u4,u5,u6,u7,u8,u9,u10,u11,u12,u13,u14,u15,u16,u17,u18,u19,u20,u21,u22,u23,u24,u25,u26,u27,u28,u29,u30,u31,u32,u33,u34,u35,u36,u37,u38,u39,u40,u41,u42,u43,u44,u45,u46,u47,u48,u49,u50,u51,u52,u53,u54,u55]:=⟨_,_,_,_,_,_,_,_,_,_,_,_,_,_,_,_,_,_,_,_,_,_,_,_,_,_,_,_,_,_,_,_,_,_,_,_,_,_,_,_,_,_,_,_,_,_,_,_,_,_,_,_,_,_,_,_,arr_of t 56 h⟩
end Go.Proofs.YtcegdgmbponapabGreatDoor
namespace Go.Proofs.YtcegdgmbponapabGreatDoor
open Go.RowKit
attribute [local go_sem ↓] Go.wp_at_zero Go.wp_at_succ
theorem over_head (A M R X:List Value) (hM:M.take A.length=A) (hl:M.length=A.length+X.length):over (M++R) A.length X=A++X++R:=by
 unfold over
 rw [List.take_append_of_le_length (by omega),hM,←hl,List.drop_left]
theorem over_insert (A D T X:List Value) (hx:X.length≤T.length):over (over (A++D++T) (A.length+X.length) D) A.length X=A++X++(D++T.drop X.length):=by
 have h1:over (A++D++T) (A.length+X.length) D=(A++D++T).take (A.length+X.length)++(D++T.drop X.length):=by
  unfold over
  rw [List.append_assoc]
  congr 2
  rw [show A.length+X.length+D.length=(A++D).length+X.length by simp;omega,←List.drop_drop,List.drop_left]
 rw [h1]
 refine over_head A _ _ X ?_ ?_
 ·rw [List.take_take,Nat.min_eq_left (by omega),List.append_assoc,List.take_left]
 ·rw [List.length_take,List.length_append,List.length_append,Nat.min_eq_left (by omega)]
theorem over_fill (A X D Z T:List Value) (hz:Z.length=X.length+D.length):over (over (A++Z++T) A.length X) (A.length+X.length) D=A++X++D++T:=by
 have h1:over (A++Z++T) A.length X=(A++X)++Z.drop X.length++T:=by
  unfold over
  rw [List.append_assoc A Z T,List.take_left,←List.drop_drop,List.drop_left,List.drop_append_of_le_length (by omega)]
  simp
 rw [h1]
 unfold over
 rw [←List.length_append,List.append_assoc (A++X),List.take_left,←List.drop_drop,List.drop_left,show D.length=(Z.drop X.length).length by simp;omega,List.drop_left]
theorem RecV.cells_len (r:RecV):r.cells.length=8:=rfl
theorem recs_cons (r:RecV) (rs:List RecV):recs (r :: rs)=r.cells++recs rs:=by simp [recs]
theorem RecV.one_cell (r:RecV) (v:Value) (hv:v∈r.cells):v.oneCell'=true:=by
 simp [RecV.cells] at hv;rcases hv with rfl | rfl | rfl | rfl | rfl | rfl | rfl | rfl<;>rfl
theorem Tryz.sizeR (w:World):(Go.sizeOf 127).run Tryz.prog w=.ok 8 w:=by
 obtain ⟨i0,hi,_,hz1,_⟩:=info_parts Tryz.infoR
 simp [sizeOf,typeInfo,hi,hz1]
theorem insert_apart (w:World) (g b off lb cb:Nat) (r:RecV) (L:List Value) (hg:w.heap[g]?=some (.cells L.toArray 127)) (hL:L.length≠0) (hb:w.heap[b]?=some (.cells r.cells.toArray 127)) (hbg:b≠g) :
  (callFunc 148 #[.slice (some ⟨b,0,none⟩) 1 1,.slice (some ⟨g,off,none⟩) lb cb]).run Tryz.prog w=.ok (.value (.bool false)) w:=by
 have h1:=@run_callFunc_extern Tryz.prog 148 _ (Extern.SlicesOverlaps.overlaps #[98,98] #[4]) Tryz.func148 (by kernel_rfl) (by kernel_rfl) (by kernel_rfl) (by kernel_rfl)
 rw [h1,Lib.run_overlaps_apart w 98 4 127 Tryz.underlying98 8 Tryz.sizeR ⟨b,0,none⟩ ⟨g,off,none⟩ 1 1 lb cb hbg 127 127 8 L.length (by simp [World.shape?,hb,RecV.cells]) (by simp [World.shape?,hg]) hL (by simp [World.frozen?,hb]) (by simp [World.frozen?,hb])]
 rfl
set_option maxRecDepth 100000 in
set_option maxHeartbeats 2000000 in
theorem insert_shift (base g n c i b:Nat) (rs:List RecV) (r:RecV) (w:World) (hn:rs.length=n) (hn9:n≤100) (hi:i<n) (hroom:n+1≤c) (hown:w.ownsRow base 127 8 (.slice (some ⟨g,0,none⟩) n c) n (recs rs)) (hb:w.heap[b]?=some (.cells r.cells.toArray 127)) (hbg:b≠g) :
  Calls Tryz.prog 108 #[.slice (some ⟨g,0,none⟩) n c,.int .i64 i,.slice (some ⟨b,0,none⟩) 1 1] w fun e w' =>
   e=.returned (.slice (some ⟨g,0,none⟩) (n+1:Nat) c)∧w'.ownsRow base 127 8 (.slice (some ⟨g,0,none⟩) (n+1) c) (n+1) (recs (rs.take i++r :: rs.drop i))∧Spared (fun x=>x=g) w w':=by
 obtain ⟨tl,h1,h2,h3,h4,h5,h6⟩:=owns_split hown
 obtain ⟨i0,hi0,hz0,hz1,hz2⟩:=info_parts Tryz.infoR
 have hdl:(recs (rs.drop i)).length=(n-i)*8:=by rw [recs_length,List.length_drop,hn]
 have htl:(recs (rs.take i)).length=i*8:=by rw [recs_length,List.length_take,hn,Nat.min_eq_left (by omega)]
 have hL:recs rs++tl=recs (rs.take i)++recs (rs.drop i)++tl:=by rw [←recs_append,List.take_append_drop]
 rw [hL] at h1 h3
 have hLl:(recs (rs.take i)++recs (rs.drop i)++tl).length=c*8:=h3
 have htl8:8≤tl.length:=by rw [List.length_append,List.length_append,htl,hdl] at hLl;omega
 have hov:∀off lb cb,(callFunc 148 #[.slice (some ⟨b,0,none⟩) 1 1,.slice (some ⟨g,off,none⟩) lb cb]).run Tryz.prog w=.ok (.value (.bool false)) w:=fun off lb cb=>insert_apart w g b off lb cb r _ h1 (by rw [hLl];omega) hb hbg
 obtain ⟨W1,hW1⟩:∃W1,W1=w.drew.setCells g ((i+1)*8) (recs (rs.drop i)):=⟨_,rfl⟩
 have hcp1:∀ty dc sc,(Builtin.copy_ #[98,98] ty #[.slice (some ⟨g,(i+1)*8,none⟩) (n-i) dc,.slice (some ⟨g,i*8,none⟩) (n+1-i) sc]).run Tryz.prog w.drew=.ok (.int .i64 ((n-i:Nat):Int)) W1:=fun ty dc sc=>by
  have hmin:Nat.min (n+1-i) (n-i)=n-i:=Nat.min_eq_right (by omega)
  have h7:=run_copy_any (P:=Tryz.prog) w.drew 98 98 ty 127 i0 g ((i+1)*8) (n-i) dc (some ⟨g,i*8,none⟩) (n+1-i) sc (recs (rs.drop i)) Tryz.underlying98 hi0 (by rw [hmin,hz1,hdl]) (fun h=>by cases h) (fun a ha k v hk=>by
   cases ha
   have hkl:k<(recs (rs.drop i)).length:=by
    rcases Nat.lt_or_ge k (recs (rs.drop i)).length with h | h
    ·exact h
    ·rw [List.getElem?_eq_none h] at hk;cases hk
   rw [add_at]
   show w.cell? _=_
   rw [block_cell h1,List.append_assoc,List.getElem?_append_right (by omega),htl,Nat.add_sub_cancel_left,List.getElem?_append_left hkl,hk]) (fun k hk=>block_some (w:=w) h1 (by rw [hLl];rw [hdl] at hk;omega)) (fun k _=>cells_fz (w:=w) h1) (fun v hv=>recs_one_cell _ v hv)
  rw [hmin,←hW1] at h7
  exact h7
 have hh1:W1.heap[g]?=some (.cells (over (recs (rs.take i)++recs (rs.drop i)++tl) ((i+1)*8) (recs (rs.drop i))).toArray 127):=by
  rw [hW1]
  exact setCells_heap g _ _ _ _ w.drew h1 (by rw [hLl,hdl];omega)
 have hW1l:(over (recs (rs.take i)++recs (rs.drop i)++tl) ((i+1)*8) (recs (rs.drop i))).length=c*8:=by rw [over_length _ _ _ (by rw [hLl,hdl];omega),hLl]
 have hs1:Spared (fun x=>x=g) w W1:=by
  rw [hW1]
  exact (Spared.refl (fun x=>x=g) w).drew.trans (setCells_spared (fun x=>x=g) g rfl _ _ w.drew)
 have hb1:W1.heap[b]?=some (.cells r.cells.toArray 127):=hs1.heap hb hbg
 obtain ⟨W2,hW2⟩:∃W2,W2=W1.setCells g (i*8) r.cells:=⟨_,rfl⟩
 have hcp2:∀ty dc,(Builtin.copy_ #[98,98] ty #[.slice (some ⟨g,i*8,none⟩) (n+1-i) dc,.slice (some ⟨b,0,none⟩) 1 1]).run Tryz.prog W1=.ok (.int .i64 1) W2:=fun ty dc=>by
  have hmin:Nat.min 1 (n+1-i)=1:=Nat.min_eq_left (by omega)
  have h7:=run_copy_any (P:=Tryz.prog) W1 98 98 ty 127 i0 g (i*8) (n+1-i) dc (some ⟨b,0,none⟩) 1 1 r.cells Tryz.underlying98 hi0 (by rw [hmin,hz1];rfl) (fun h=>by cases h) (fun a ha k v hk=>by
   cases ha
   rw [add_at,Nat.zero_add,block_cell hb1,hk]) (fun k hk=>block_some hh1 (by rw [hW1l];rw [RecV.cells_len] at hk;omega)) (fun k _=>cells_fz hh1) (fun v hv=>RecV.one_cell r v hv)
  rw [hmin,←hW2] at h7
  exact h7
 have hs2:Spared (fun x=>x=g) w W2:=by
  rw [hW2]
  exact hs1.trans (setCells_spared (fun x=>x=g) g rfl _ _ W1)
 have HE:=hid (show W2.ownsRow base 127 8 (.slice (some ⟨g,0,none⟩) (n+1) c) (n+1) (recs (rs.take i++r :: rs.drop i)) from by
  have h8:=setCells_heap g 127 r.cells (i*8) _ W1 hh1 (by rw [hW1l,RecV.cells_len];omega)
  rw [←hW2] at h8
  have h9:=over_insert (recs (rs.take i)) (recs (rs.drop i)) tl r.cells (by rw [RecV.cells_len];exact htl8)
  rw [htl,RecV.cells_len,show i*8+8=(i+1)*8 by omega] at h9
  rw [h9] at h8
  have hA:recs (rs.take i++r :: rs.drop i)=recs (rs.take i)++r.cells++recs (rs.drop i):=by rw [recs_append,recs_cons,List.append_assoc]
  rw [←List.append_assoc,←hA] at h8
  refine owns_join h8 ?_ ?_ (by omega) h5 h6
  ·rw [hA,List.length_append,List.length_append,htl,hdl,RecV.cells_len];omega
  ·rw [hA,List.length_append,List.length_append,List.length_append,htl,hdl,RecV.cells_len,List.length_drop]
   rw [List.length_append,List.length_append,htl,hdl] at hLl
   omega)
 have hz3:¬((i:Int)=(n:Int)):=by omega
 have hz4:¬((c:Int)<(n:Int)+1):=by omega
 have hz5:(i:Int)≤(n:Int):=by omega
 have hz6:(n:Int)+1≤(c:Int):=by omega
 have hz8:(i:Int)≤(n:Int)+1:=by omega
 have hz9:¬c=i:=by omega
 have hz10:¬c=i+1:=by omega
 clear h1 h2 h3 hL hLl hh1 hW1l hs1 hb1 hb hown hW1 hW2
 go_enter Tryz.func108,Tryz.ntmps108
 go_wp2_with (first | (simp only [hov])|fail)
 go_region
 go_wp2_with fail
 go_ret
 exact ⟨rfl,HE.out,hs2⟩
set_option maxRecDepth 100000 in
set_option maxHeartbeats 2000000 in
theorem insert_grow (base g n c i b:Nat) (rs:List RecV) (r:RecV) (w:World) (hn:rs.length=n) (hn9:n≤100) (hi:i<n) (hroom:c<n+1) (hown:w.ownsRow base 127 8 (.slice (some ⟨g,0,none⟩) n c) n (recs rs)) (hb:w.heap[b]?=some (.cells r.cells.toArray 127)) (hbase:base≤w.heap.size) :
  Calls Tryz.prog 108 #[.slice (some ⟨g,0,none⟩) n c,.int .i64 i,.slice (some ⟨b,0,none⟩) 1 1] w fun e w' =>
   ∃G,e=.returned (.slice (some ⟨w.heap.size,0,none⟩) (n+1:Nat) G)∧w'.ownsRow base 127 8 (.slice (some ⟨w.heap.size,0,none⟩) (n+1) G) (n+1) (recs (rs.take i++r :: rs.drop i))∧Below w.heap.size w w':=by
 obtain ⟨tl,h1,h2,h3,h4,h5,h6⟩:=owns_split hown
 obtain ⟨i0,hi0,hz0,hz1,hz2⟩:=info_parts Tryz.infoR
 have hdl:(recs (rs.drop i)).length=(n-i)*8:=by rw [recs_length,List.length_drop,hn]
 have htl:(recs (rs.take i)).length=i*8:=by rw [recs_length,List.length_take,hn,Nat.min_eq_left (by omega)]
 have hL:recs rs++tl=recs (rs.take i)++recs (rs.drop i)++tl:=by rw [←recs_append,List.take_append_drop]
 rw [hL] at h1 h3
 have hgw:=cells_lt h1
 have hbw:=cells_lt hb
 have hold:(Builtin.firstCells i0.size i (.slice (some ⟨g,0,none⟩) i c)).run Tryz.prog w.drew=.ok (recs (rs.take i)).toArray w.drew:=by
  rw [hz1]
  exact run_firstCells_some w.drew 8 i ⟨g,0,none⟩ i c (recs (rs.take i)) htl (fun k v hk=>by
   have hkl:k<(recs (rs.take i)).length:=by
    rcases Nat.lt_or_ge k (recs (rs.take i)).length with h | h
    ·exact h
    ·rw [List.getElem?_eq_none h] at hk;cases hk
   rw [add_at,Nat.zero_add]
   show w.cell? _=_
   rw [block_cell h1,List.append_assoc,List.getElem?_append_left hkl,hk])
 have hkk:(n:Int)+1-(i:Int)=((n+1-i:Nat):Int):=by omega
 have hik:i+(n+1-i)=n+1:=by omega
 obtain ⟨G,hG⟩:∃G,G=grownCap w (n+1) c 127:=⟨_,rfl⟩
 obtain ⟨Z1,hZ1⟩:∃Z1:List Value,Z1=(Builtin.zeroCells (Value.agg #[.string ByteArray.empty,.int .i64 0,.int .i64 0,.int .i64 0,.int .i64 0,.int .i64 0,.slice none 0 0,.slice none 0 0]).cells (n+1-i)).toList:=⟨_,rfl⟩
 obtain ⟨Z2,hZ2⟩:∃Z2:List Value,Z2=(Builtin.zeroCells (Value.agg #[.string ByteArray.empty,.int .i64 0,.int .i64 0,.int .i64 0,.int .i64 0,.int .i64 0,.slice none 0 0,.slice none 0 0]).cells (G-(n+1))).toList:=⟨_,rfl⟩
 have hZ1l:Z1.length=(n+1-i)*8:=by rw [hZ1];simp [Builtin.zeroCells,Value.cells]
 have hZ2l:Z2.length=(G-(n+1))*8:=by rw [hZ2];simp [Builtin.zeroCells,Value.cells]
 obtain ⟨W0,hW0⟩:∃W0,W0=w.drew.alloc (.cells (recs (rs.take i)++Z1++Z2).toArray 127):=⟨_,rfl⟩
 have hrz:∀ty,(Builtin.append_ #[98,3] ty #[.slice (some ⟨g,0,none⟩) i c,.int .i64 ((n:Int)+1-(i:Int))]).run Tryz.prog w=.ok (.slice (some ⟨w.heap.size,0,none⟩) (n+1) G) W0:=fun ty=>by
  have h:=Lib.run_append_grow_zeros w 98 3 ty 127 i0 _ .i64 .i64 Tryz.underlying98 Tryz.underlying3 hi0 hz0 (some ⟨g,0,none⟩) i c (recs (rs.take i)) hold (n+1-i) (by omega) (by omega) (by omega) (by omega) (by rw [hz2];omega) (by rw [hz2,hik];exact growslice_fits hroom (by omega))
  rw [hik,←hG] at h
  rw [hkk,h,hW0,hZ1,hZ2]
  congr 3
  rw [←List.append_toArray,←List.append_toArray]
 have hGn:n+1≤G:=by rw [hG];exact grownCap_ge w _ _ _
 have hGm:G≤maxLen:=by rw [hG];exact grownCap_le_maxLen w (n+1) c 127 (by unfold maxLen;omega)
 have hb0:Below w.heap.size w W0:=by rw [hW0];exact (Below.refl w.heap.size w).drew.alloc (Nat.le_refl _) _
 have hh0:W0.heap[w.heap.size]?=some (.cells (recs (rs.take i)++Z1++Z2).toArray 127):=by rw [hW0];show (w.heap.push _)[w.heap.size]?=_;simp
 have hl0:(recs (rs.take i)++Z1++Z2).length=G*8:=by rw [List.length_append,List.length_append,htl,hZ1l,hZ2l];omega
 obtain ⟨W1,hW1⟩:∃W1,W1=W0.setCells w.heap.size (i*8) r.cells:=⟨_,rfl⟩
 have hcp1:∀ty dc,(Builtin.copy_ #[98,98] ty #[.slice (some ⟨w.heap.size,i*8,none⟩) (n+1-i) dc,.slice (some ⟨b,0,none⟩) 1 1]).run Tryz.prog W0=.ok (.int .i64 1) W1:=fun ty dc=>by
  have hmin:Nat.min 1 (n+1-i)=1:=Nat.min_eq_left (by omega)
  have h7:=run_copy_any (P:=Tryz.prog) W0 98 98 ty 127 i0 w.heap.size (i*8) (n+1-i) dc (some ⟨b,0,none⟩) 1 1 r.cells Tryz.underlying98 hi0 (by rw [hmin,hz1];rfl) (fun h=>by cases h) (fun a ha k v hk=>by
   cases ha
   rw [add_at,Nat.zero_add,hb0.cell (p:=⟨b,k,none⟩) hbw,block_cell hb,hk]) (fun k hk=>block_some hh0 (by rw [hl0];rw [RecV.cells_len] at hk;omega)) (fun k _=>cells_fz hh0) (fun v hv=>RecV.one_cell r v hv)
  rw [hmin,←hW1] at h7
  exact h7
 have hb1:Below w.heap.size w W1:=by rw [hW1];exact hb0.trans ((setCells_spared (fun x=>x=w.heap.size) w.heap.size rfl _ _ W0).below _ hb0.size (fun k hk=>by omega))
 have hh1:=setCells_heap w.heap.size 127 r.cells (i*8) _ W0 hh0 (by rw [hl0,RecV.cells_len];omega)
 rw [←hW1] at hh1
 have hl1:=over_length (recs (rs.take i)++Z1++Z2) (i*8) r.cells (by rw [hl0,RecV.cells_len];omega)
 rw [hl0] at hl1
 obtain ⟨W2,hW2⟩:∃W2,W2=W1.drew.setCells w.heap.size ((i+1)*8) (recs (rs.drop i)):=⟨_,rfl⟩
 have hcp2:∀ty dc sc,(Builtin.copy_ #[98,98] ty #[.slice (some ⟨w.heap.size,(i+1)*8,none⟩) (n-i) dc,.slice (some ⟨g,i*8,none⟩) (n-i) sc]).run Tryz.prog W1.drew=.ok (.int .i64 ((n-i:Nat):Int)) W2:=fun ty dc sc=>by
  have hmin:Nat.min (n-i) (n-i)=n-i:=Nat.min_self _
  have h7:=run_copy_any (P:=Tryz.prog) W1.drew 98 98 ty 127 i0 w.heap.size ((i+1)*8) (n-i) dc (some ⟨g,i*8,none⟩) (n-i) sc (recs (rs.drop i)) Tryz.underlying98 hi0 (by rw [hmin,hz1,hdl]) (fun h=>by cases h) (fun a ha k v hk=>by
   cases ha
   have hkl:k<(recs (rs.drop i)).length:=by
    rcases Nat.lt_or_ge k (recs (rs.drop i)).length with h | h
    ·exact h
    ·rw [List.getElem?_eq_none h] at hk;cases hk
   rw [add_at]
   show W1.cell? _=_
   rw [hb1.cell (p:=⟨g,i*8+k,none⟩) hgw,block_cell h1,List.append_assoc,List.getElem?_append_right (by omega),htl,Nat.add_sub_cancel_left,List.getElem?_append_left hkl,hk]) (fun k hk=>block_some (w:=W1) hh1 (by rw [hl1];rw [hdl] at hk;omega)) (fun k _=>cells_fz (w:=W1) hh1) (fun v hv=>recs_one_cell _ v hv)
  rw [hmin,←hW2] at h7
  exact h7
 have hb2:Below w.heap.size w W2:=by rw [hW2];exact hb1.drew.trans ((setCells_spared (fun x=>x=w.heap.size) w.heap.size rfl _ _ W1.drew).below _ hb1.size (fun k hk=>by omega))
 have HE:=hid (show W2.ownsRow base 127 8 (.slice (some ⟨w.heap.size,0,none⟩) (n+1) G) (n+1) (recs (rs.take i++r :: rs.drop i)) from by
  have h8:=setCells_heap w.heap.size 127 (recs (rs.drop i)) ((i+1)*8) _ W1.drew hh1 (by rw [hl1,hdl];omega)
  rw [←hW2] at h8
  have h9:=over_fill (recs (rs.take i)) r.cells (recs (rs.drop i)) Z1 Z2 (by rw [hZ1l,RecV.cells_len,hdl];omega)
  rw [htl,RecV.cells_len,show i*8+8=(i+1)*8 by omega] at h9
  rw [h9] at h8
  have hA:recs (rs.take i++r :: rs.drop i)=recs (rs.take i)++r.cells++recs (rs.drop i):=by rw [recs_append,recs_cons,List.append_assoc]
  rw [←hA] at h8
  refine owns_join h8 ?_ ?_ hGn hGm hbase
  ·rw [hA,List.length_append,List.length_append,htl,hdl,RecV.cells_len];omega
  ·rw [hA,List.length_append,List.length_append,List.length_append,htl,hdl,RecV.cells_len,hZ2l];omega)
 have hz3:¬((i:Int)=(n:Int)):=by omega
 have hz4:(c:Int)<(n:Int)+1:=by omega
 have hz5:(i:Int)≤(n:Int):=by omega
 have hz6:(n:Int)≤(c:Int):=by omega
 have hz8:(i:Int)≤(n:Int)+1:=by omega
 have hz9:¬c=i:=by omega
 have hz10:¬G=i:=by omega
 have hz11:¬G=i+1:=by omega
 clear h1 h2 h3 hL hh1 hl1 hb1 hb hown hW1 hW2 hW0 hh0 hl0 hb0 hZ1 hZ2 hZ1l hZ2l hold hik hkk hG
 go_enter Tryz.func108,Tryz.ntmps108
 go_wp2_with (first | (at_builtin;refine Lib.wpList_append_run _ rfl _ _ _ _ rfl _ _ rfl rfl _ _ (hrz _) ?_)|fail)
 go_region
 go_wp2_with fail
 go_ret
 exact ⟨G,rfl,HE.out,hb2⟩
set_option maxRecDepth 100000 in
set_option maxHeartbeats 2000000 in
theorem insert_end (base n b:Nat) (v:Value) (rs:List RecV) (r:RecV) (w:World) (hn:rs.length=n) (hn9:n≤100) (hown:w.ownsRow base 127 8 v n (recs rs)) (hb:w.heap[b]?=some (.cells r.cells.toArray 127)) (hbase:base≤w.heap.size) :
  Calls Tryz.prog 108 #[v,.int .i64 n,.slice (some ⟨b,0,none⟩) 1 1] w fun e w' =>
   ∃v',e=.returned v'∧w'.ownsRow base 127 8 v' (n+1) (recs (rs++[r]))∧Spared (fun x=>v.ownBlock=some x) w w'∧(v'.ownBlock=v.ownBlock∨v'.ownBlock=some w.heap.size):=by
 obtain ⟨i0,hi0,hz0,hz1,hz2⟩:=info_parts Tryz.infoR
 obtain ⟨v',w',hr,h1,h2,h3⟩:=run_append_at (P:=Tryz.prog) w base 98 98 127 i0 _ 8 104 Tryz.underlying98 hi0 hz0 hz1 hz2 rfl (by decide) v n (recs rs) hown ⟨b,0,none⟩ 1 1 r.cells rfl (fun j u hj=>by rw [add_at,Nat.zero_add,block_cell hb,hj]) (fun u hu=>RecV.one_cell r u hu) (by unfold maxLen;omega) (by omega) hbase (by decide)
 have HE:=hid (show w'.ownsRow base 127 8 v' (n+1) (recs (rs++[r]))∧Spared (fun x=>v.ownBlock=some x) w w'∧(v'.ownBlock=v.ownBlock∨v'.ownBlock=some w.heap.size) from ⟨by rw [recs_append,recs_one];exact h1,grown_spared h2,h3⟩)
 obtain ⟨a,c,rfl,hrd⟩:=owns_rd_size hown
 have hnc:n≤c∧(a=none→n=0∧c=0):=by
  rcases hown.2 with ⟨h8,h9⟩|⟨g',cap,cur,h8,_,_,h9,_⟩
  ·cases h8;exact ⟨by omega,fun _=>⟨rfl,rfl⟩⟩
  ·cases h8;exact ⟨h9,nofun⟩
 have hz3:(n:Int)≤(c:Int):=by omega
 clear h1 h2 h3 hb hown hrd
 by_cases hcn:c=n
 ·subst hcn
  go_enter Tryz.func108,Tryz.ntmps108
  go_wp2_with (first | (at_builtin;refine Lib.wpList_append_run _ rfl _ _ _ _ rfl _ _ rfl rfl _ _ hr ?_)|fail)
  go_ret
  exact ⟨v',rfl,HE.out⟩
 ·go_enter Tryz.func108,Tryz.ntmps108
  go_wp2_with (first | (at_builtin;refine Lib.wpList_append_run _ rfl _ _ _ _ rfl _ _ rfl rfl _ _ hr ?_)|fail)
  go_ret
  exact ⟨v',rfl,HE.out⟩
theorem insert_any (base n i b:Nat) (v:Value) (rs:List RecV) (r:RecV) (w:World) (hn:rs.length=n) (hn9:n≤100) (hi:i≤n) (hown:w.ownsRow base 127 8 v n (recs rs)) (hb:w.heap[b]?=some (.cells r.cells.toArray 127)) (hbv:v.ownBlock≠some b) (hbase:base≤w.heap.size) :
  Calls Tryz.prog 108 #[v,.int .i64 i,.slice (some ⟨b,0,none⟩) 1 1] w fun e w' =>
   ∃v',e=.returned v'∧w'.ownsRow base 127 8 v' (n+1) (recs (rs.take i++r :: rs.drop i))∧Spared (fun x=>v.ownBlock=some x) w w'∧(v'.ownBlock=v.ownBlock∨v'.ownBlock=some w.heap.size):=by
 rcases Nat.lt_or_eq_of_le hi with hlt | rfl
 ·rcases hown.2 with ⟨_,h0⟩|⟨g,c,cur,rfl,_⟩
  ·omega
  ·by_cases hroom:n+1≤c
   ·refine (insert_shift base g n c i b rs r w hn hn9 hlt hroom hown hb (fun e=>hbv (by rw [e];rfl))).mono ?_
    rintro e w' ⟨rfl,h1,h2⟩
    exact ⟨_,rfl,h1,h2.mono fun k hk=>by rw [hk];rfl,.inl rfl⟩
   ·refine (insert_grow base g n c i b rs r w hn hn9 hlt (by omega) hown hb hbase).mono ?_
    rintro e w' ⟨G,rfl,h1,h2⟩
    exact ⟨_,rfl,h1,Spared.ofBelow h2 (Nat.le_refl _),.inr rfl⟩
 ·have hA:rs.take i++r :: rs.drop i=rs++[r]:=by rw [←hn,List.take_length,List.drop_length]
  rw [hA]
  exact insert_end base i b v rs r w hn hn9 hown hb hbase
structure Ob where
 name:ByteArray
 mode:Nat
 t:Nat
 l:Nat
 size:Nat
 epoch:Nat
  deriving DecidableEq
instance : Inhabited Ob:=⟨⟨ByteArray.empty,0,0,0,0,0⟩⟩
def Ob.cells (r:Ob):List Value:=[.string r.name,.int .i64 r.mode,.int .i64 r.t,.int .i64 r.l,.int .i64 r.size,.int .i64 r.epoch]
def obs (l:List Ob):List Value:=l.flatMap Ob.cells
def RecV.ob (r:RecV):Ob:=⟨r.name,r.mode,r.t,r.l,r.size,r.epoch⟩
theorem objs_obs (rs:List RecV):objs rs=obs (rs.map RecV.ob):=by
 unfold objs obs
 rw [List.flatMap_map]
 rfl
theorem obs_length (rs:List Ob):(obs rs).length=rs.length*6:=by
 induction rs with
 | nil=>rfl
 | cons r rs ih=>simp only [obs,List.flatMap_cons,List.length_append] at ih ⊢;rw [ih];simp [Ob.cells];omega
theorem obs_cell (rs:List Ob) (k j:Nat) (hk:k<rs.length) (hj:j<6):(obs rs)[k*6+j]?=(rs[k]).cells[j]?:=by
 induction rs generalizing k with
 | nil=>simp at hk
 | cons r rs ih =>
  cases k with
  | zero =>
   simp only [obs,List.flatMap_cons,List.getElem_cons_zero,Nat.zero_mul,Nat.zero_add]
   rw [List.getElem?_append_left (by simp [Ob.cells];exact hj)]
  | succ k =>
   have:=ih k (by simpa using hk)
   simp only [obs,List.flatMap_cons,List.getElem_cons_succ] at this ⊢
   rw [←this,List.getElem?_append_right (by simp [Ob.cells];omega),show (k+1)*6+j-r.cells.length=k*6+j by simp [Ob.cells];omega]
theorem obs_one_cell (rs:List Ob) (u:Value) (h:u∈obs rs):u.oneCell'=true:=by
 simp only [obs,List.mem_flatMap] at h
 obtain ⟨r,_,hr⟩:=h
 simp [Ob.cells] at hr
 rcases hr with rfl | rfl | rfl | rfl | rfl | rfl<;>rfl
theorem obs_append (a b:List Ob):obs (a++b)=obs a++obs b:=by simp [obs]
theorem ob_at {w:World} {b o:Nat} {rs:List Ob} (h:Rd w (some ⟨b,o,none⟩) (obs rs)) (k:Nat) (hk:k<rs.length):b<w.heap.size ∧
  w.cell? ⟨b,o+k*6,none⟩=some (.string (rs[k]!).name)∧w.cell? ⟨b,o+k*6+1,none⟩=some (.int .i64 (rs[k]!).mode)∧w.cell? ⟨b,o+k*6+2,none⟩=some (.int .i64 (rs[k]!).t)∧w.cell? ⟨b,o+k*6+3,none⟩=some (.int .i64 (rs[k]!).l) ∧
  w.cell? ⟨b,o+k*6+4,none⟩=some (.int .i64 (rs[k]!).size)∧w.cell? ⟨b,o+k*6+5,none⟩=some (.int .i64 (rs[k]!).epoch):=by
 rw [getElem!_pos rs k hk]
 have key:∀j v,j<6→(rs[k]).cells[j]?=some v→b<w.heap.size∧w.cell? ⟨b,o+(k*6+j),none⟩=some v:=by
  intro j v hj hv
  obtain ⟨b',o',h1,h2,h3⟩:=h (k*6+j) v (by rw [obs_cell rs k j hk hj];exact hv)
  simp at h1
  obtain ⟨rfl,rfl⟩:=h1
  exact ⟨h2,h3⟩
 refine ⟨(key 0 _ (by decide) rfl).1,?_,?_,?_,?_,?_,?_⟩
 ·exact (key 0 _ (by decide) rfl).2
 ·exact (key 1 _ (by decide) rfl).2
 ·exact (key 2 _ (by decide) rfl).2
 ·exact (key 3 _ (by decide) rfl).2
 ·exact (key 4 _ (by decide) rfl).2
 ·exact (key 5 _ (by decide) rfl).2
theorem ob_eq_iff (x y:Ob):(x=y)↔x.name=y.name∧x.mode=y.mode∧x.t=y.t∧x.l=y.l∧x.size=y.size∧x.epoch=y.epoch:=by
 constructor
 ·rintro rfl;exact ⟨rfl,rfl,rfl,rfl,rfl,rfl⟩
 ·rintro ⟨h1,h2,h3,h4,h5,h6⟩
  obtain ⟨a1,a2,a3,a4,a5,a6⟩:=x
  obtain ⟨b1,b2,b3,b4,b5,b6⟩:=y
  simp only at h1 h2 h3 h4 h5 h6
  rw [h1,h2,h3,h4,h5,h6]
theorem bytes_beq (a b:ByteArray):(a.toList == b.toList)=decide (a=b):=by
 rw [ByteArray.toList_eq,ByteArray.toList_eq]
 by_cases h:a=b
 ·subst h;simp
 ·have:¬a.data.toList=b.data.toList:=fun e=>h (ba_ext e)
  rw [decide_eq_false h,beq_eq_false_iff_ne]
  exact this
set_option maxRecDepth 100000 in
theorem eqlOb (x y:Ob) (w:World):(binOp .eql 65 (.agg #[.string x.name,.int .i64 x.mode,.int .i64 x.t,.int .i64 x.l,.int .i64 x.size,.int .i64 x.epoch]) (.agg #[.string y.name,.int .i64 y.mode,.int .i64 y.t,.int .i64 y.l,.int .i64 y.size,.int .i64 y.epoch])).run Tryz.prog w=.ok (.bool (decide (x=y))) w:=by
 have u3:=Tryz.underlying3
 have u9:=Tryz.underlying9
 have uP:=Tryz.underlying29
 have hS:Tryz.prog.underlying 65=some (.struct (Tryz.prog.fieldsOf 65)):=by kernel_rfl
 have hp:Tryz.prog.stoodInHeld 65=false:=by kernel_rfl
 have hS2:Tryz.prog.underlying 29=some (.struct (Tryz.prog.fieldsOf 29)):=by kernel_rfl
 have hp2:Tryz.prog.stoodInHeld 29=false:=by kernel_rfl
 rw [run_eql_struct,show (10000:Nat)=9999+1 from rfl,run_equalIn_agg w 9999 65 _ _ hS hp]
 simp only [Program.fieldsOf,Tryz.underlying65]
 go_simp
 have hn:(x.name.toList=y.name.toList)↔(x.name=y.name):=by rw [ByteArray.toList_eq,ByteArray.toList_eq];exact ⟨ba_ext,fun h=>by rw [h]⟩
 simp only [hn,Int.natCast_inj]
 by_cases h1:x.name=y.name<;>by_cases h2:x.mode=y.mode<;>by_cases h3:x.t=y.t<;>by_cases h4:x.l=y.l<;>by_cases h5:x.size=y.size<;>by_cases h6:x.epoch=y.epoch<;>simp [ob_eq_iff,h1,h2,h3,h4,h5,h6]
set_option maxRecDepth 100000 in
theorem neqOb (x y:Ob) (w:World):(binOp .neq 65 (.agg #[.string x.name,.int .i64 x.mode,.int .i64 x.t,.int .i64 x.l,.int .i64 x.size,.int .i64 x.epoch]) (.agg #[.string y.name,.int .i64 y.mode,.int .i64 y.t,.int .i64 y.l,.int .i64 y.size,.int .i64 y.epoch])).run Tryz.prog w=.ok (.bool (!decide (x=y))) w:=by
 have h:=eqlOb x y w
 have e:∀a b,(binOp .neq 65 (.agg a) (.agg b)).run Tryz.prog w=((binOp .eql 65 (.agg a) (.agg b)).run Tryz.prog w).andThen fun v w'=>match v with | .bool t=>.ok (.bool (!t)) w' | v=>.ok v w':=by
  intro a b
  simp only [binOp,Sem.run_bind]
  generalize (Op.equal 65 (.agg a) (.agg b)).run Tryz.prog w=r
  cases r<;>rfl
 rw [e,h]
 rfl
attribute [local go_sem ↓] eqlOb neqOb
set_option maxRecDepth 100000 in
theorem cloneO (b:Addr) (n c:Nat) (rs:List Ob) (w:World) (hsp:b.spot=none) (en:n=rs.length) (hr:Rd w (some b) (obs rs)) (hn:n≤10) :
  Calls Tryz.prog 179 #[.slice (some b) n c] w fun e w'=>∃v,e=.returned v∧w'.ownsRow w.heap.size 65 6 v n (obs rs)∧Below w.heap.size w w':=by
 obtain ⟨i0,hi,hz0,hz1,hz2⟩:=info_parts Tryz.infoO
 have HL:=hid (show (obs rs).length=n*6 by rw [obs_length,en])
 have hba:=(Below.refl w.heap.size w).alloc (Nat.le_refl _) (.cells #[] 65)
 have HR:=hid (hr.below hba (Nat.le_refl _))
 have hq:=Lib.run_eql_slice_nil (P:=Tryz.prog) w 80 65 (some b) n c 0 0 Tryz.underlying80
 have HE:=hid (show (w.alloc (.cells #[] 65)).ownsRow w.heap.size 65 6 (.slice (some ⟨w.heap.size,0,none⟩) 0 0) 0 [] from ⟨rfl,.inr ⟨w.heap.size,0,#[],rfl,Nat.le_refl _,alloc_at _ _,Nat.le_refl _,by unfold maxLen;omega,rfl,rfl⟩⟩)
 obtain ⟨bb,bo,_⟩:=b
 cases hsp
 clear en hr
 go_enter Tryz.func179,Tryz.ntmps179
 go_wp2_with (first | (at_builtin;refine wpList_append_own _ rfl (.tmp 5) (.tmp 6) 80 rfl w.heap.size 65 i0 _ 6 56 Tryz.underlying80 hi hz0 hz1 hz2 rfl (by decide) _ 0 [] rfl HE.out ⟨bb,bo,none⟩ n c (obs rs) rfl HL.out (fun j u hj=>by obtain ⟨b',o',e1,_,e3⟩:=HR.out j u hj;cases e1;rw [add_at];exact e3) (fun u hu=>obs_one_cell rs u hu) (by unfold maxLen;omega) (by omega) (by simp) ?_;intro v2 w2 hown2 hgrow2 _;rw [Nat.zero_add,List.nil_append] at hown2;have hb2:Below w.heap.size w w2:=hba.grown hgrow2 (by simp) (fun k hk=>(HE.out.lt k hk).1);have HO2:=hid hown2;clear hown2 hgrow2)|fail)
 go_ret
 exact ⟨_,rfl,HO2.out,hb2⟩
def sameUpTo (A B:List Ob) (k:Nat):Prop:=∀j,j<k→A[j]! = B[j]!
set_option maxRecDepth 100000 in
set_option maxHeartbeats 1000000 in
theorem equalO (a b:Option Addr) (n c c':Nat) (A B:List Ob) (w:World) (ha:A.length=n) (hb:B.length=n) (hn:n≤10) (hA:Rd w a (obs A)) (hB:Rd w b (obs B)) :
  Calls Tryz.prog 154 #[.slice a n c,.slice b n c'] w fun e w'=>e=.returned (.bool (decide (A=B)))∧Below w.heap.size w w':=by
 have HA:=hid hA
 have HB:=hid hB
 have HL:=hid (And.intro ha hb)
 clear hA hB ha hb
 go_enter Tryz.func154,Tryz.ntmps154
 go_wp2_with fail
 go_loopw [13] (fun u wr=>∃(k:Nat),k≤n∧u=.int .i64 k∧sameUpTo A B k∧Below w.heap.size w wr) (fun u _=>n-(intOf u).toNat)
 case atStart=>exact ⟨0,Nat.zero_le _,rfl,fun j hj=>by omega,Below.refl _ _⟩
 case round =>
  obtain ⟨k,hk,rfl,hsame,hbr⟩:=hrel
  have HSM:=hid hsame
  clear hsame
  by_cases hlt:k<n
  ·obtain ⟨b1,o1,rfl,_,_⟩:=HA.out.pos (by rw [obs_length,HL.out.1];omega)
   obtain ⟨b2,o2,rfl,_,_⟩:=HB.out.pos (by rw [obs_length,HL.out.2];omega)
   obtain ⟨_,x0,x1,x2,x3,x4,x5⟩:=ob_at (HA.out.below hbr (Nat.le_refl _)) k (by rw [HL.out.1];exact hlt)
   obtain ⟨_,y0,y1,y2,y3,y4,y5⟩:=ob_at (HB.out.below hbr (Nat.le_refl _)) k (by rw [HL.out.2];exact hlt)
   have HXY:=hid (show A[k]! = B[k]! → sameUpTo A B (k+1) from fun h j hj=>by
    rcases Nat.lt_or_ge j k with h' | h'
    ·exact HSM.out j h'
    ·rw [show j=k by omega];exact h)
   have HNE:=hid (show A[k]! ≠ B[k]! → A≠B from fun h e=>h (by rw [e]))
   have hlt':(k:Int)<(n:Int):=by omega
   generalize A[k]! = x at *
   generalize B[k]! = y at *
   by_cases hxy:x=y
   ·have hd:decide (x=y)=true:=decide_eq_true hxy
    have HX:=hid hxy
    clear hxy
    go_wp2_with fail
    go_region
    go_wp2_with fail
    go_roundw
    case rel=>exact ⟨k+1,by omega,by go_num,HXY.out HX.out,hbr.drew⟩
    case measure=>simp [intOf];omega
   ·have hd:decide (x=y)=false:=decide_eq_false hxy
    have HX:=hid hxy
    clear hxy
    go_wp2_with fail
    go_region
    go_wp2_with fail
    go_ret
    rw [decide_eq_false (HNE.out HX.out)]
    exact ⟨rfl,hbr.drew⟩
  ·have hkn:k=n:=by omega
   subst hkn
   go_wp2
   go_ret
   rw [decide_eq_true (show A=B from List.ext_getElem (by rw [HL.out.1,HL.out.2]) (fun j h1 h2=>by
    have:=HSM.out j (by rw [←HL.out.1];exact h1)
    rwa [getElem!_pos A j h1,getElem!_pos B j h2] at this))]
   exact ⟨rfl,hbr⟩
def allSame (L:List Ob):Bool:=decide (L≠[]∧∀j,j<L.length→L[j]! = L[0]!)
theorem obs_set6 (rs:List Ob) (p:Nat) (r:Ob) (hp:p<rs.length):((((((obs rs).set (p*6) (.string r.name)).set (p*6+1) (.int .i64 r.mode)).set (p*6+2) (.int .i64 r.t)).set (p*6+3) (.int .i64 r.l)).set (p*6+4) (.int .i64 r.size)).set (p*6+5) (.int .i64 r.epoch)=obs (rs.set p r):=by
 induction rs generalizing p with
 | nil=>simp at hp
 | cons x rs ih =>
  cases p with
  | zero=>simp [obs,Ob.cells]
  | succ p =>
   have:=ih p (by simpa using hp)
   have hl:x.cells.length=6:=rfl
   simp only [obs,List.flatMap_cons,List.set_cons_succ] at this ⊢
   rw [List.set_append_right _ _ (by rw [hl];omega),List.set_append_right _ _ (by rw [hl];omega),List.set_append_right _ _ (by rw [hl];omega),List.set_append_right _ _ (by rw [hl];omega),List.set_append_right _ _ (by rw [hl];omega),List.set_append_right _ _ (by rw [hl];omega),hl]
   rw [show (p+1)*6-6=p*6 by omega,show (p+1)*6+1-6=p*6+1 by omega,show (p+1)*6+2-6=p*6+2 by omega,show (p+1)*6+3-6=p*6+3 by omega,show (p+1)*6+4-6=p*6+4 by omega,show (p+1)*6+5-6=p*6+5 by omega,this]
theorem run_clear_any {P:Program} (w:World) (t e ty:TypeId) (z:Value) (ht:P.underlying t=some (.slice e)) (hv:∀w,(zeroValue e).run P w=.ok z w) (h1:∀v∈z.cells,v.oneCell'=true) (b o n c:Nat) (hn:0<n)
  (hc:∀j,j<n*z.cells.size→(w.cell? ⟨b,o+j,none⟩).isSome=true) (hf:∀j,j<n*z.cells.size→w.frozen? ⟨b,o+j,none⟩=false) :
  (Builtin.clear_ #[t] ty #[.slice (some ⟨b,o,none⟩) n c]).run P w=.ok (.tuple #[]) (w.setCells b o (Builtin.zeroCells z.cells n).toList):=by
 have hlen:(Builtin.zeroCells z.cells n).toList.length=n*z.cells.size:=by simp [Builtin.zeroCells]
 have hst:=run_storeCells_cells (P:=P) b o (Builtin.zeroCells z.cells n).toList 0 w (by rw [hlen];simpa using hc) (by rw [hlen];simpa using hf) (by
  intro v hv'
  simp only [Builtin.zeroCells,Array.toList_map,List.mem_map,Array.toList_range,List.mem_range] at hv'
  obtain ⟨i,hi,rfl⟩:=hv'
  have h0:0<z.cells.size:=by
   rcases Nat.eq_zero_or_pos z.cells.size with h | h
   ·rw [h] at hi;omega
   ·exact h
  rw [getElem!_pos z.cells _ (Nat.mod_lt _ h0)]
  exact h1 _ (Array.getElem_mem _))
 simp only [Nat.add_zero] at hst
 obtain ⟨m,rfl⟩:∃m,n=m+1:=⟨n-1,by omega⟩
 simp [Builtin.clear_,run_underlying ht,hv,hst]
end Go.Proofs.YtcegdgmbponapabGreatDoor
namespace Go.Proofs.YtcegdgmbponapabGreatDoor
open Go.RowKit
attribute [local go_sem ↓] Go.wp_at_zero Go.wp_at_succ
attribute [local go_sem ↓] eqlOb neqOb
theorem Tryz.zeroO:∀w,(zeroValue 65).run Tryz.prog w=.ok (.agg #[.string ByteArray.empty,.int .i64 0,.int .i64 0,.int .i64 0,.int .i64 0,.int .i64 0]) w:=by
 intro w;kernel_rfl
theorem allSame_not {L:List Ob} (j:Nat) (hj:j<L.length) (h:L[j]! ≠ L[0]!):allSame L=false:=by
 unfold allSame
 exact decide_eq_false fun h'=>h (h'.2 j hj)
theorem allSame_not2 {L:List Ob} (j:Nat) (hj:j+1<L.length) (h:L[j+1]! ≠ L[j]!):allSame L=false:=by
 unfold allSame
 exact decide_eq_false fun h'=>h ((h'.2 (j+1) hj).trans (h'.2 j (by omega)).symm)
def setOb (w:World) (g o:Nat) (a:Ob):World:=(((((w.setCell ⟨g,o,none⟩ (.string a.name)).setCell ⟨g,o+1,none⟩ (.int .i64 a.mode)).setCell ⟨g,o+2,none⟩ (.int .i64 a.t)).setCell ⟨g,o+3,none⟩ (.int .i64 a.l)).setCell ⟨g,o+4,none⟩ (.int .i64 a.size)).setCell ⟨g,o+5,none⟩ (.int .i64 a.epoch)
theorem setOb_owns {w:World} {base g n c k:Nat} {L:List Ob} (a:Ob) (h:w.ownsRow base 65 6 (.slice (some ⟨g,0,none⟩) n c) n (obs L)) (hk:k<L.length):(setOb w g (k*6) a).ownsRow base 65 6 (.slice (some ⟨g,0,none⟩) n c) n (obs (L.set k a)):=by
 rw [←obs_set6 L k a hk]
 unfold setOb
 have h1:=(h.stored (k*6) (.string a.name)).1
 have h2:=(h1.stored (k*6+1) (.int .i64 a.mode)).1
 have h3:=(h2.stored (k*6+2) (.int .i64 a.t)).1
 have h4:=(h3.stored (k*6+3) (.int .i64 a.l)).1
 have h5:=(h4.stored (k*6+4) (.int .i64 a.size)).1
 exact (h5.stored (k*6+5) (.int .i64 a.epoch)).1
theorem setOb_spared (w:World) (g o:Nat) (a:Ob):Spared (fun b=>b=g) w (setOb w g o a):=by
 unfold setOb
 have h1:=(Spared.refl (fun b=>b=g) w).setCell (p:=⟨g,o,none⟩) rfl (.string a.name)
 have h2:=h1.setCell (p:=⟨g,o+1,none⟩) rfl (.int .i64 a.mode)
 have h3:=h2.setCell (p:=⟨g,o+2,none⟩) rfl (.int .i64 a.t)
 have h4:=h3.setCell (p:=⟨g,o+3,none⟩) rfl (.int .i64 a.l)
 have h5:=h4.setCell (p:=⟨g,o+4,none⟩) rfl (.int .i64 a.size)
 exact h5.setCell (p:=⟨g,o+5,none⟩) rfl (.int .i64 a.epoch)
structure CompJ (w:World) (base g n c k0:Nat) (L:List Ob) (k k2:Nat) (wr:World):Prop where
 h1:1≤k2
 h2:k0+k2≤n
 h3:k0≤k
 h4:k<k0+k2
 row:∃L':List Ob,L'.length=n∧wr.ownsRow base 65 6 (.slice (some ⟨g,0,none⟩) n c) n (obs L')∧(k=1→L'=L∧∀j,j<k0+k2→L[j]! = L[0]!)
 no:1<k→allSame L=false
 bl:Spared (fun b=>b=g) w wr
set_option maxRecDepth 100000 in
set_option maxHeartbeats 2000000 in
theorem compactO (base g n c:Nat) (L:List Ob) (w:World) (hL:L.length=n) (hn:n≤10) (h:w.ownsRow base 65 6 (.slice (some ⟨g,0,none⟩) n c) n (obs L)) :
  Calls Tryz.prog 178 #[.slice (some ⟨g,0,none⟩) n c] w fun e w'=>∃m,e=.returned (.slice (some ⟨g,0,none⟩) m c)∧decide (m=1)=allSame L∧Spared (fun b=>b=g) w w':=by
 have HL:=hid hL
 have HO:=hid h
 have hcap:n≤c:=by obtain ⟨_,_,_,_,h5,_⟩:=owns_split h;exact h5
 have hcm:c≤maxLen:=by obtain ⟨_,_,_,_,_,h5,_⟩:=owns_split h;exact h5
 unfold maxLen at hcm
 clear h hL
 by_cases hn2:n<2
 ·have hn2':(n:Int)<2:=by omega
  go_enter Tryz.func178,Tryz.ntmps178
  go_wp2_with fail
  go_ret
  refine ⟨n,rfl,?_,Spared.refl _ _⟩
  unfold allSame
  rcases Nat.lt_or_ge n 1 with h | h
  ·have:L=[]:=List.length_eq_zero_iff.1 (by rw [HL.out];omega)
   subst this
   rw [decide_eq_false (by omega),decide_eq_false (by simp)]
  ·have h1:n=1:=by omega
   rw [decide_eq_true h1,decide_eq_true]
   refine ⟨fun e=>by rw [e] at HL;have:=HL.out;simp at this;omega,fun j hj=>?_⟩
   rw [HL.out] at hj
   rw [show j=0 by omega]
 ·have hn2':¬(n:Int)<2:=by omega
  go_enter Tryz.func178,Tryz.ntmps178
  go_wp2_with fail
  go_loopw [3] (fun u wr=>∃(k:Nat),1≤k∧k≤n∧u=.int .i64 k∧(1<k→allSame L=false)∧Below w.heap.size w wr) (fun u _=>n-(intOf u).toNat)
  case atStart=>exact ⟨1,Nat.le_refl _,by omega,rfl,fun h=>by omega,Below.refl _ _⟩
  case round =>
   obtain ⟨k,hk1,hkn,rfl,hno,hbr⟩:=hrel
   have HNO:=hid hno
   clear hno
   by_cases hlt:k<n
   ·have hor:=owns_below_size HO.out hbr (Nat.le_refl _)
    obtain ⟨_,_,hv,hrd⟩:=owns_rd_size hor
    cases hv
    obtain ⟨_,x0,x1,x2,x3,x4,x5⟩:=ob_at hrd k (by rw [HL.out];exact hlt)
    obtain ⟨_,y0,y1,y2,y3,y4,y5⟩:=ob_at hrd (k-1) (by rw [HL.out];omega)
    rw [Nat.zero_add] at x0 x1 x2 x3 x4 x5 y0 y1 y2 y3 y4 y5
    have hlt':(k:Int)<(n:Int):=by omega
    obtain ⟨k1,hk1e⟩:∃k1,k1=k-1:=⟨_,rfl⟩
    rw [←hk1e] at y0 y1 y2 y3 y4 y5
    have hki:(k:Int)-1=(k1:Int):=by omega
    have HK1:=hid hk1e
    have HOR:=hid hor
    obtain ⟨x,hx⟩:∃x,x=L[k]! := ⟨_,rfl⟩
    obtain ⟨y,hy⟩:∃y,y=L[k1]! := ⟨_,rfl⟩
    rw [←hx] at x0 x1 x2 x3 x4 x5
    rw [←hy] at y0 y1 y2 y3 y4 y5
    have HX:=hid hx
    have HY:=hid hy
    have hk1n:(k1:Int)<(n:Int):=by omega
    clear hk1e hx hy hor hrd
    by_cases hxy:x=y
    ·have hd:decide (x=y)=true:=decide_eq_true hxy
     have HXY:=hid hxy
     clear hxy
     go_wp2_with fail
     go_region
     go_wp2_with fail
     have HB0:=hid hbr
     have HJ0:=hid (show CompJ w base g n c k L k 1 wr.drew from ⟨Nat.le_refl _,by omega,Nat.le_refl _,by omega,⟨L,HL.out,HOR.out.drew,fun h=>⟨rfl,fun j hj=>by
      have e1:=HK1.out
      rcases Nat.lt_or_ge j 1 with h' | h'
      ·rw [show j=0 by omega]
      ·rw [show j=k by omega,←HX.out,HXY.out,HY.out,show k1=0 by omega]⟩⟩,HNO.out,(Spared.ofBelow hbr (Nat.le_refl _)).drew⟩)
     have hsl:¬c=k:=by omega
     go_loopw [3,5] (fun u v wr=>∃(k' k2:Nat),u=.int .i64 k'∧v=.int .i64 k2∧CompJ w base g n c k L k' k2 wr) (fun _ v _=>n-(intOf v).toNat)
     case atStart=>exact ⟨k,1,rfl,rfl,HJ0.out⟩
     case round =>
      obtain ⟨k',k2,rfl,rfl,hJ⟩:=hrel
      obtain ⟨h1,h2,h3,h4,⟨L',hL',hrow,hone⟩,hno,hsp⟩:=hJ
      have HJ:=hid (And.intro hone (And.intro hno hsp))
      clear hone hno hsp
      by_cases hlt2:k+k2<n
      ·obtain ⟨_,_,hv,hrd⟩:=owns_rd_size hrow
       cases hv
       obtain ⟨_,a0,a1,a2,a3,a4,a5⟩:=ob_at hrd (k+k2) (by rw [hL'];exact hlt2)
       obtain ⟨k3,hk3⟩:∃k3,k3=k2-1:=⟨_,rfl⟩
       obtain ⟨_,b0,b1,b2,b3,b4,b5⟩:=ob_at hrd (k+k3) (by rw [hL'];omega)
       obtain ⟨_,c0,c1,c2,c3,c4,c5⟩:=ob_at hrd k' (by rw [hL'];omega)
       rw [Nat.zero_add] at a0 a1 a2 a3 a4 a5 b0 b1 b2 b3 b4 b5 c0 c1 c2 c3 c4 c5
       rw [Nat.add_mul] at a0 a1 a2 a3 a4 a5 b0 b1 b2 b3 b4 b5
       obtain ⟨a,ha⟩:∃a,a=L'[k+k2]! := ⟨_,rfl⟩
       obtain ⟨b,hb⟩:∃b,b=L'[k+k3]! := ⟨_,rfl⟩
       rw [←ha] at a0 a1 a2 a3 a4 a5
       rw [←hb] at b0 b1 b2 b3 b4 b5
       obtain ⟨cc,hcc⟩:∃cc,cc=L'[k']! := ⟨_,rfl⟩
       rw [←hcc] at c0 c1 c2 c3 c4 c5
       clear hcc
       have hki3:(k2:Int)-1=(k3:Int):=by omega
       have hlt2':(k2:Int)<(n:Int)-(k:Int):=by omega
       have hlt2n:k2<n-k:=by omega
       have hk3n:k3<n-k:=by omega
       have hcast:((n-k:Nat):Int)=(n:Int)-(k:Int):=by omega
       have HA:=hid ha
       have HB:=hid hb
       have HK3:=hid hk3
       have HROW:=hid hrow
       have hfz:∀o,wr.frozen? ⟨g,o,none⟩=false:=fun o=>hrow.frozenAt o
       have hk'n:(k':Int)<(n:Int):=by omega
       clear ha hb hk3 hrow hrd
       by_cases hab:a=b
       ·have hd2:decide (a=b)=true:=decide_eq_true hab
        have HAB:=hid hab
        clear hab
        go_wp2_with fail
        go_region
        go_wp2_with fail
        go_roundw
        case rel =>
         refine ⟨k',k2+1,rfl,by go_num,⟨by omega,by omega,h3,by omega,⟨L',hL',HROW.out.drew,fun h=>?_⟩,HJ.out.2.1,HJ.out.2.2.drew⟩⟩
         obtain ⟨hLL,hall⟩:=HJ.out.1 h
         refine ⟨hLL,fun j hj=>?_⟩
         rcases Nat.lt_or_ge j (k+k2) with h' | h'
         ·exact hall j h'
         ·have e3:=HK3.out
          rw [show j=k+k2 by omega,←hLL,←HA.out,HAB.out,HB.out,hLL]
          exact hall (k+k3) (by omega)
        case measure=>simp [intOf];omega
       ·have hd2:decide (a=b)=false:=decide_eq_false hab
        have HAB:=hid hab
        clear hab
        go_wp2_with fail
        go_region
        go_wp2_with fail
        have HSO:=hid (setOb_owns a HROW.out (k:=k') (by rw [hL'];omega)).drew
        have HSS:=hid (HJ.out.2.2.trans (setOb_spared wr g (k'*6) a)).drew
        unfold setOb at HSO HSS
        go_roundw
        case rel =>
         refine ⟨k'+1,k2+1,by go_num,by go_num,⟨by omega,by omega,by omega,by omega,⟨L'.set k' a,by rw [List.length_set];exact hL',?_,fun h=>by omega⟩,fun _=>?_,?_⟩⟩
         ·exact HSO.out
         ·rcases Nat.lt_or_ge 1 k' with h | h
          ·exact HJ.out.2.1 h
          ·have hk1':k'=1:=by omega
           obtain ⟨hLL,hall⟩:=HJ.out.1 hk1'
           have e3:=HK3.out
           refine allSame_not (k+k2) (by rw [HL.out];exact hlt2) fun e=>HAB.out ?_
           rw [HA.out,HB.out,hLL,e,hall (k+k3) (by omega)]
         ·exact HSS.out
        case measure=>simp [intOf];omega
      ·have hcast:((n-k:Nat):Int)=(n:Int)-(k:Int):=by omega
       have hk2e:(k2:Int)=(n:Int)-(k:Int):=by omega
       have hk2n:k2=n-k:=by omega
       have hk'c:¬c=k':=by omega
       have hk'n:k'≤n:=by omega
       have hnk:((n-k':Nat):Int)=(n:Int)-(k':Int):=by omega
       obtain ⟨tl,hh,hl1,hl2,hl3,_,_⟩:=owns_split hrow
       have hlen:(obs L'++tl).length=c*6:=hl2
       have hclr:∀ty,(Builtin.clear_ #[80] ty #[.slice (some ⟨g,k'*6,none⟩) (n-k') (c-k')]).run Tryz.prog wr=.ok (.tuple #[]) (wr.setCells g (k'*6) (Builtin.zeroCells (Value.agg #[.string ByteArray.empty,.int .i64 0,.int .i64 0,.int .i64 0,.int .i64 0,.int .i64 0]).cells (n-k')).toList):=fun ty =>
        run_clear_any wr _ 65 ty _ Tryz.underlying80 Tryz.zeroO (by intro v hv;simp [Value.cells] at hv;rcases hv with rfl | rfl | rfl | rfl | rfl | rfl<;>rfl) g (k'*6) (n-k') (c-k') (by omega) (fun j hj=>block_some hh (by rw [hlen];simp [Value.cells] at hj;omega)) (fun j _=>cells_fz hh)
       have HSP:=hid (HJ.out.2.2.trans (setCells_spared (fun b=>b=g) g rfl (Builtin.zeroCells (Value.agg #[.string ByteArray.empty,.int .i64 0,.int .i64 0,.int .i64 0,.int .i64 0,.int .i64 0]).cells (n-k')).toList (k'*6) wr))
       have HRES:=hid (show decide (k'=1)=allSame L from by
        rcases Nat.lt_or_ge 1 k' with h | h
        ·rw [HJ.out.2.1 h,decide_eq_false (by omega)]
        ·have hk1':k'=1:=by omega
         obtain ⟨_,hall⟩:=HJ.out.1 hk1'
         rw [decide_eq_true hk1']
         symm
         unfold allSame
         refine decide_eq_true ⟨fun e=>?_,fun j hj=>hall j (by rw [HL.out] at hj;omega)⟩
         have:=HL.out
         rw [e] at this
         simp at this
         omega)
       generalize (Builtin.zeroCells (Value.agg #[.string ByteArray.empty,.int .i64 0,.int .i64 0,.int .i64 0,.int .i64 0,.int .i64 0]).cells (n-k')).toList=zc at *
       clear hrow hh hl1 hl2 hlen
       go_wp2_with fail
       go_ret
       exact ⟨k',rfl,HRES.out,HSP.out⟩
    ·have hd:decide (x=y)=false:=decide_eq_false hxy
     have HXY:=hid hxy
     clear hxy
     go_wp2_with fail
     go_region
     go_wp2_with fail
     go_roundw
     case rel=>exact ⟨k+1,by omega,by omega,by go_num,fun _=>allSame_not2 k1 (by have:=HK1.out;rw [HL.out];omega) (by have:=HK1.out;rw [show k1+1=k by omega,←HX.out,←HY.out];exact HXY.out),hbr.drew⟩
     case measure=>simp [intOf];omega
   ·have hkk:k=n:=by omega
    subst hkk
    go_wp2
    go_ret
    exact ⟨k,rfl,by rw [HNO.out (by omega),decide_eq_false (by omega)],Spared.ofBelow hbr (Nat.le_refl _)⟩
set_option maxRecDepth 100000 in
theorem same_any (a:Option Addr) (n c:Nat) (L:List Ob) (w:World) (hL:L.length=n) (hn0:0<n) (hn:n≤10) (hr:Rd w a (obs L)) :
  Calls Tryz.prog 153 #[.slice a n c] w fun e w'=>e=.returned (.bool (allSame L))∧Below w.heap.size w w':=by
 obtain ⟨b,o,rfl,_,_⟩:=hr.pos (by rw [obs_length,hL];omega)
 have HC:=hid (cloneO ⟨b,o,none⟩ n c L w rfl hL.symm hr hn)
 have HL:=hid hL
 clear hr hL
 go_enter Tryz.func153,Tryz.ntmps153
 go_wp2_with fail
 refine HC.out.mono ?_
 rintro e w1 ⟨v,rfl,hown,hb1⟩
 obtain ⟨g,cap,rfl,hg1,hg2⟩:=row_some hown hn0
 have HCO:=hid (compactO w.heap.size g n cap L w1 HL.out hn hown)
 clear hown
 go_wp2_with fail
 refine HCO.out.mono ?_
 rintro e w2 ⟨m,rfl,hm,hs2⟩
 have HB:=hid (show Below w.heap.size w w2 from hb1.trans (hs2.below w.heap.size hb1.size (fun k hk=>by omega)))
 have hmi:((m:Int) == 1)=decide (m=1):=by
  by_cases h:m=1
  ·simp [h]
  ·have:¬(m:Int)=1:=by omega
   simp [h,this]
 obtain ⟨q,hq⟩:∃q,q=allSame L:=⟨_,rfl⟩
 rw [hm,←hq] at hmi
 have HQ:=hid hq
 clear hm hq
 go_wp2_with fail
 go_ret
 rw [←HQ.out]
 exact ⟨rfl,HB.out⟩
end Go.Proofs.YtcegdgmbponapabGreatDoor