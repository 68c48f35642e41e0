/-
  A shard is made.
  bytes.Equal, bytes.HasPrefix, slices.Clone of bytes.
  shard.Label.Length: where the object can be kept, and where not.
  The piece of a shard.
-/
import Derived.Test.YtcegdgmbponapabGreatDoorPart10
namespace Go.Proofs.YtcegdgmbponapabGreatDoor
open Go.RowKit
attribute [local go_sem ↓] Go.wp_at_zero Go.wp_at_succ
def Cof.sealed (key:Nat) (xs:List UInt8):List UInt8:=xs++Cof.high (Cof.tag key xs) 8
theorem bs_append (xs ys:List UInt8):bs (xs++ys)=bs xs++bs ys:=by simp [bs]
theorem append_src2 {P:Program} (w:World) {ops:Array Oper} {rest:List Oper} {o:Oper} {a:Act} {Q:Exit→Act→World→Prop} (hgd:o.guard=none) (s x:Operand) (t:TypeId)
  (ho:o.op=.call { callee:=.builtin .append,args:=#[s,x],argTypes:=#[t,t] })
  (base:Nat) (e:TypeId) (i:TypeInfo) (z:Value) (bytes:Nat) (ht:P.underlying t=some (.slice e)) (hi:P.info? e=some i) (hz:i.zero=some z) (hsize:i.size=1) (hby:i.bytes=bytes) (hzs:z.cells.size=1)
  (v:Value) (n:Nat) (xs:List Value) (hs:a.eval s=v) (hown:w.ownsRow base e 1 v n xs) (ao:Option Addr) (m c:Nat) (news:List Value) (hx:a.eval x=.slice ao m c) (hl:news.length=m) (hr:Rd w ao news)
  (h1:∀u∈news,u.oneCell'=true) (hm:n+m≤1000000) (hb:bytes≤1000) (hbase:base≤w.heap.size)
  (h:∀v' w',w'.ownsRow base e 1 v' (n+m) (xs++news)→w.grownBy w' v.ownBlock→wpList P ops Q rest (a.put o.dst v') w'):wpList P ops Q (o :: rest) a w:=by
 have hbb:(n+m)*bytes≤140737488355328:=by
  have:=Nat.mul_le_mul hm hb
  omega
 cases ao with
 | none =>
  have hm0:news=[]:=by
   cases news with
   | nil=>rfl
   | cons v0 r=>obtain ⟨b,o',h1,_⟩:=hr 0 v0 rfl;cases h1
  subst hm0
  simp at hl;subst hl
  refine wpList_plain hgd fun K hK=>?_
  have hrun:(Builtin.append_ #[t,t] o.type #[v,.slice none 0 c]).run P w=.ok v w:=by
   rcases hown.2 with ⟨rfl,rfl⟩|⟨g,cap,cur,rfl,_,_,hnc,_⟩
   ·simp [Builtin.append_,run_underlying ht,sizeOf,typeInfo,hi,Builtin.lenOf,Builtin.firstCells]
   ·simp [Builtin.append_,run_underlying ht,sizeOf,typeInfo,hi,Builtin.lenOf,Builtin.firstCells,hnc,storeCells]
  unfold Oper.wp
  simp [execOp,ho,resolve,invoke,builtin,hs,hx,hrun,Result.andThen]
  exact hK _ _ (h v w (by simpa using hown) (World.grownBy.refl _ _))
 | some ad =>
  refine wpList_append_own w hgd s x t ho base e i z 1 bytes ht hi hz hsize hby hzs (by decide) v n xs hs hown ad m c news hx (by omega) ?_ h1 (by unfold maxLen;omega) hbb hbase ?_
  ·intro j u hj
   obtain ⟨b,o',e1,e2,e3⟩:=hr j u hj
   cases e1
   rw [add_at];exact e3
  ·intro v' w' h1 h2 _
   exact h v' w' h1 h2
set_option maxRecDepth 100000 in
set_option maxHeartbeats 1000000 in
theorem made_any (mode t l n s epoch size key:Nat) (name:ByteArray) (aP:Option Addr) (m c:Nat) (P:List UInt8) (w:World) (hp:IsPlan mode t l n) (hs:s<n) (he:epoch≤100) (hz:size≤60) (hnm:name.size≤12)
  (hk:key<18446744073709551616) (em:m=P.length) (hr:Rd w aP (bs P)) (hm:m≤60) :
  Calls Tryz.prog 92 #[.agg #[.string name,.int .i64 mode,.int .i64 t,.int .i64 l,.int .i64 size,.int .i64 epoch,.int .i64 n,.int .i64 s],.slice aP m c,.int .u64 key] w fun e w' =>
   ∃v,e=.returned v∧w'.ownsRow w.heap.size 5 1 v (10+name.size+m+8) (bs (Cof.sealed key (Cof.head mode t l n s epoch size name.data.toList++P)))∧Below w.heap.size w w':=by
 obtain ⟨i0,hi,hz0,hz1,hz2⟩:=info_parts Tryz.info5
 have hba:=(Below.refl w.heap.size w).alloc (Nat.le_refl _) (.cells #[.string name,.int .i64 mode,.int .i64 t,.int .i64 l,.int .i64 size,.int .i64 epoch,.int .i64 n,.int .i64 s] 134)
 have HH:=hid (head_any mode t l n s epoch size name (w.alloc (.cells #[.string name,.int .i64 mode,.int .i64 t,.int .i64 l,.int .i64 size,.int .i64 epoch,.int .i64 n,.int .i64 s] 134)) hp hs he hz hnm)
 have hHL:(Cof.head mode t l n s epoch size name.data.toList).length=10+name.size:=by rw [Cof.length_head];simp
 have HR:=hid hr
 have EM:=hid (show (bs P).length=m by rw [bs_length,em])
 have EA:=hid (show 10+name.size+m=(Cof.head mode t l n s epoch size name.data.toList++P).length by rw [List.length_append,hHL,em])
 have HK:=hid hk
 have HO1:=hid (fun u hu=>bs_one P u hu)
 clear hr em hp hs he hz hk hHL
 generalize Cof.head mode t l n s epoch size name.data.toList=hd at *
 go_enter Tryz.func92,Tryz.ntmps92
 go_wp2_with fail
 refine HH.out.mono ?_
 rintro e w1 ⟨v1,rfl,hown1,hb1⟩
 have hb01:Below w.heap.size w w1:=hba.trans (hb1.mono (by simp))
 have hz01:=hb01.size
 have HV1:=hid (hown1.mono (show w.heap.size≤_ by simp))
 clear hown1
 go_wp2_with (first | (at_builtin;refine append_src2 _ rfl (.tmp 9) (.tmp 10) 44 rfl w.heap.size 5 i0 (Value.int .u8 0) 1 Tryz.underlying44 hi hz0 hz1 hz2 rfl _ (10+name.size) (bs hd) rfl HV1.out aP m c (bs P) rfl EM.out (HR.out.below hb01 (Nat.le_refl _)) HO1.out (by omega) (by omega) hz01 ?_;intro v2 w2 hown2 hgrow2;have hb02:Below w.heap.size w w2:=hb01.grown hgrow2 hz01 (fun k hk=>(HV1.out.lt k hk).1);obtain ⟨a2,c2,rfl,hrd2⟩:=owns_any_rd hown2;have HV2:=hid hown2;have HR2:=hid hrd2;clear hown2 hgrow2 hrd2)|fail)
 have HR3:=hid (show Rd w2 a2 (bs (hd++P)) by rw [bs_append];exact HR2.out)
 refine (tagOf_any a2 (10+name.size+m) c2 (hd++P) key _ EA.out HR3.out (by omega) HK.out).mono ?_
 rintro e w3 ⟨g3,rfl,hown3,hb3⟩
 have hb03:Below w.heap.size w w3:=hb02.trans (hb3.mono hb02.size)
 have hz03:=hb03.size
 have HV3:=hid (owns_below HV2.out hb3 (Nat.le_refl _))
 have HT:=hid (owns_rd hown3)
 clear hown3
 go_wp2_with (first | (at_builtin;refine append_src _ rfl (.tmp 12) (.tmp 15) 44 rfl w.heap.size 5 i0 (Value.int .u8 0) 1 Tryz.underlying44 hi hz0 hz1 hz2 rfl _ (10+name.size+m) (bs hd++bs P) rfl HV3.out (some ⟨g3,0,none⟩) 8 8 (bs (Cof.high (Cof.tag key (hd++P)) 8)) rfl (by rw [bs_length,Cof.length_high]) HT.out nofun (fun u hu=>bs_one _ u hu) (by omega) (by omega) hz03 ?_;intro v4 w4 hown4 hgrow4;have hb04:Below w.heap.size w w4:=hb03.grown hgrow4 hz03 (fun k hk=>(HV3.out.lt k hk).1);have HV4:=hid hown4;clear hown4 hgrow4)|fail)
 go_ret
 refine ⟨_,rfl,?_,hb04⟩
 unfold Cof.sealed
 rw [bs_append,bs_append]
 exact HV4.out
end Go.Proofs.YtcegdgmbponapabGreatDoor
namespace Go.Proofs.YtcegdgmbponapabGreatDoor
open Go.RowKit
set_option maxRecDepth 100000 in
theorem equal_any (a1 a2:Option Addr) (n1 c1 n2 c2:Nat) (xs ys:List UInt8) (w:World) (e1:n1=xs.length) (e2:n2=ys.length) (r1:Rd w a1 (bs xs)) (r2:Rd w a2 (bs ys)) :
  Calls Tryz.prog 167 #[.slice a1 n1 c1,.slice a2 n2 c2] w fun e w'=>e=.returned (.bool (decide (xs=ys)))∧w'=w:=by
 have h1:=conv_string w a1 c1 n1 xs e1 r1
 have h2:=conv_string w a2 c2 n2 ys e2 r2
 clear e1 e2 r1 r2
 go_enter Tryz.func167,Tryz.ntmps167
 go_wp2
 go_ret
 refine ⟨congrArg (fun b=>Ending.returned (.bool b)) ?_,rfl⟩
 rw [Bool.eq_iff_iff]
 simp
set_option maxRecDepth 100000 in
theorem prefix_any (a1 a2:Option Addr) (n1 c1 n2 c2:Nat) (xs ys:List UInt8) (w:World) (e1:n1=xs.length) (e2:n2=ys.length) (hc:n1≤c1) (r1:Rd w a1 (bs xs)) (r2:Rd w a2 (bs ys)) :
  Calls Tryz.prog 166 #[.slice a1 n1 c1,.slice a2 n2 c2] w fun e w'=>e=.returned (.bool (decide (xs.take n2=ys)))∧w'=w:=by
 by_cases h:n2≤n1
 ·have h':(n2:Int)≤(n1:Int):=by omega
  have h2:(n2:Int)≤(c1:Int):=by omega
  have HE:=hid (fun c=>equal_any a1 a2 n2 c n2 c2 (xs.take n2) ys w (by rw [List.length_take];omega) e2 (by intro k v hk;exact r1 k v (by simp only [bs,List.map_take] at hk ⊢;rw [List.getElem?_take] at hk;split at hk;exact hk;cases hk)) r2)
  clear e1 e2 r1 r2
  go_enter Tryz.func166,Tryz.ntmps166
  go_wp2_with (go_at_call 167;refine (HE.out _).mono ?_;rintro e w1 ⟨rfl,rfl⟩)
  go_ret
  exact ⟨rfl,rfl⟩
 ·have h':¬(n2:Int)≤(n1:Int):=by omega
  have HD:=hid (show decide (xs.take n2=ys)=false by
   apply decide_eq_false
   intro e
   have:=congrArg List.length e
   rw [List.length_take] at this
   omega)
  clear e1 e2 r1 r2
  go_enter Tryz.func166,Tryz.ntmps166
  go_wp2
  go_ret
  rw [HD.out]
  exact ⟨rfl,rfl⟩
set_option maxRecDepth 100000 in
theorem cloneB (a:Option Addr) (n c:Nat) (xs:List UInt8) (w:World) (en:n=xs.length) (hr:Rd w a (bs xs)) (hn:n≤1000) (hsome:a≠none) :
  Calls Tryz.prog 168 #[.slice a n c] w fun e w'=>∃v,e=.returned v∧w'.ownsRow w.heap.size 5 1 v n (bs xs)∧Below w.heap.size w w':=by
 obtain ⟨i0,hi,hz0,hz1,hz2⟩:=info_parts Tryz.info5
 obtain ⟨b,rfl⟩:∃b,a=some b:=by cases a with | none=>exact absurd rfl hsome | some b=>exact ⟨b,rfl⟩
 have HL:=hid (show (bs xs).length=n by rw [bs_length,en])
 have HR:=hid hr
 have hba:=(Below.refl w.heap.size w).alloc (Nat.le_refl _) (.cells #[] 5)
 have hq:=Lib.run_eql_slice_nil (P:=Tryz.prog) w 44 5 (some b) n c 0 0 Tryz.underlying44
 have HE:=hid (show (w.alloc (.cells #[] 5)).ownsRow w.heap.size 5 1 (.slice (some ⟨w.heap.size,0,none⟩) 0 0) 0 [] from owns_of_block (L:=[]) (by show (w.heap.push _)[w.heap.size]?=_;simp) (Nat.le_refl _) rfl (by unfold maxLen;omega))
 clear en hr hsome
 go_enter Tryz.func168,Tryz.ntmps168
 go_wp2_with (first | (at_builtin;refine append_src _ rfl (.tmp 5) (.tmp 6) 44 rfl w.heap.size 5 i0 (Value.int .u8 0) 1 Tryz.underlying44 hi hz0 hz1 hz2 rfl _ 0 [] rfl HE.out (some b) n c (bs xs) rfl HL.out (HR.out.below hba (Nat.le_refl _)) nofun (fun u hu=>bs_one _ u hu) (by omega) (by omega) (by simp) ?_;intro v2 w2 hown2 hgrow2;rw [Nat.zero_add,List.nil_append] at hown2;have hb2:Below w.heap.size w w2:=hba.grown hgrow2 (by simp) (fun k hk=>(HE.out.lt k hk).1);have HO2:=hid hown2;clear hown2 hgrow2)|fail)
 go_ret
 exact ⟨_,rfl,HO2.out,hb2⟩
end Go.Proofs.YtcegdgmbponapabGreatDoor
namespace Go.Proofs.YtcegdgmbponapabGreatDoor
open Go.RowKit
attribute [local go_sem ↓] Go.wp_at_zero Go.wp_at_succ
set_option maxRecDepth 100000 in
set_option maxHeartbeats 1000000 in
theorem llen_ok (mode t l n s epoch size:Nat) (name:ByteArray) (w:World) (h:IsPlan mode t l n) (hs:size≤60) (h1:1≤name.size) (h2:name.size≤12) (hng:Cof.ngroups mode t l size≤60) :
  Calls Tryz.prog 114 #[.agg #[.string name,.int .i64 mode,.int .i64 t,.int .i64 l,.int .i64 size,.int .i64 epoch,.int .i64 n,.int .i64 s]] w fun e w' =>
   e=.returned (.tuple #[.int .i64 (10+(name.size:Int)+((Cof.ngroups mode t l size:Nat):Int)+8),.nilIface])∧Below w.heap.size w w':=by
 have hba:=(Below.refl w.heap.size w).alloc (Nat.le_refl _) (.cells #[.string name,.int .i64 mode,.int .i64 t,.int .i64 l,.int .i64 size,.int .i64 epoch,.int .i64 n,.int .i64 s] 134)
 have HL:=hid (length_ok mode t l n size (w.alloc (.cells #[.string name,.int .i64 mode,.int .i64 t,.int .i64 l,.int .i64 size,.int .i64 epoch,.int .i64 n,.int .i64 s] 134)) h hs)
 generalize Cof.ngroups mode t l size=ng at *
 clear h hs
 have q1:¬(name.size:Int)<1:=by omega
 have q2:¬(12:Int)<(name.size:Int):=by omega
 go_enter Tryz.func114,Tryz.ntmps114
 go_wp2_with (go_at_call 155;refine HL.out.mono ?_;rintro e w1 ⟨rfl,hb1⟩)
 go_ret2
 exact ⟨rfl,hba.trans (hb1.mono (by simp))⟩
set_option maxRecDepth 100000 in
set_option maxHeartbeats 1000000 in
theorem llen_name (m t l n s epoch size:Int) (name:ByteArray) (w:World) (hno:name.size<1∨12<name.size) (hsz:name.size≤maxLen) (hT:Tab w) :
  Calls Tryz.prog 114 #[.agg #[.string name,.int .i64 m,.int .i64 t,.int .i64 l,.int .i64 size,.int .i64 epoch,.int .i64 n,.int .i64 s]] w fun e w' =>
   ∃ev,e=.returned (.tuple #[.int .i64 0,ev])∧Chain w' 2 1 ev∧Below w.heap.size w w':=by
 have hba:=(Below.refl w.heap.size w).alloc (Nat.le_refl _) (.cells #[.string name,.int .i64 m,.int .i64 t,.int .i64 l,.int .i64 size,.int .i64 epoch,.int .i64 n,.int .i64 s] 134)
 have HT:=hid (hT.keeps hba (Nat.le_refl _))
 have HI:=hid (show I64 (name.size:Int) by unfold I64;unfold maxLen at hsz;omega)
 clear hT
 rcases hno with hno | hno
 ·have q1:(name.size:Int)<1:=by omega
  go_enter Tryz.func114,Tryz.ntmps114
  go_wp2_with (go_at_call 77;refine (atCount_any (name.size:Int) _ _ 2 0 _ HI.out (by decide) HT.out .hit).mono ?_;rintro e w2 ⟨e2,rfl,hch,hb2⟩)
  go_ret2
  exact ⟨_,rfl,hch,hba.trans (hb2.mono (by simp))⟩
 ·have q1:¬(name.size:Int)<1:=by omega
  have q2:(12:Int)<(name.size:Int):=by omega
  go_enter Tryz.func114,Tryz.ntmps114
  go_wp2_with (go_at_call 77;refine (atCount_any (name.size:Int) _ _ 2 0 _ HI.out (by decide) HT.out .hit).mono ?_;rintro e w2 ⟨e2,rfl,hch,hb2⟩)
  go_ret2
  exact ⟨_,rfl,hch,hba.trans (hb2.mono (by simp))⟩
set_option maxRecDepth 100000 in
set_option maxHeartbeats 1000000 in
theorem llen_no (m t l n s epoch size k:Int) (name:ByteArray) (w:World) (h1:1≤name.size) (h2:name.size≤12) (hT:Tab w)
  (h:∀w,Tab w→Calls Tryz.prog 99 #[.agg #[.int .i64 m,.int .i64 t,.int .i64 l],.int .i64 n,.int .i64 size] w fun e w'=>∃ev,e=.returned (.tuple #[noLay,ev])∧Chain w' k 1 ev∧Below w.heap.size w w') :
  Calls Tryz.prog 114 #[.agg #[.string name,.int .i64 m,.int .i64 t,.int .i64 l,.int .i64 size,.int .i64 epoch,.int .i64 n,.int .i64 s]] w fun e w' =>
   ∃x ev,e=.returned (.tuple #[.int .i64 x,ev])∧Chain w' k 2 ev∧Below w.heap.size w w':=by
 have hba:=(Below.refl w.heap.size w).alloc (Nat.le_refl _) (.cells #[.string name,.int .i64 m,.int .i64 t,.int .i64 l,.int .i64 size,.int .i64 epoch,.int .i64 n,.int .i64 s] 134)
 have HL:=hid (length_no m t l n size k _ (hT.keeps hba (Nat.le_refl _)) h)
 clear h hT
 have q1:¬(name.size:Int)<1:=by omega
 have q2:¬(12:Int)<(name.size:Int):=by omega
 go_enter Tryz.func114,Tryz.ntmps114
 go_wp2_with (go_at_call 155;refine HL.out.mono ?_;rintro e w1 ⟨ev,rfl,hch,hb1⟩;obtain ⟨te,ve,rfl⟩:=hch.shape)
 go_ret2
 exact ⟨_,_,rfl,hch,hba.trans (hb1.mono (by simp))⟩
def Cof.Good (key:Nat) (hd:List UInt8) (len:Nat) (X P:List UInt8):Prop:=P.length=len∧X=Cof.sealed key (hd++P)
theorem Rd.part {w:World} {b o:Nat} {xs:List UInt8} (h:Rd w (some ⟨b,o,none⟩) (bs xs)) (i n:Nat):Rd w (some ⟨b,o+i,none⟩) (bs ((xs.drop i).take n)):=by
 intro k v hk
 have hk':(bs xs)[i+k]?=some v:=by
  simp only [bs,List.map_take,List.map_drop] at hk ⊢
  rw [List.getElem?_take] at hk
  split at hk
  ·rw [List.getElem?_drop] at hk;exact hk
  ·cases hk
 obtain ⟨b',o',h1,h2,h3⟩:=h (i+k) v hk'
 simp at h1
 obtain ⟨rfl,rfl⟩:=h1
 exact ⟨b,o+i,rfl,h2,by rw [Nat.add_assoc];exact h3⟩
theorem good_take {key len H:Nat} {hd X P:List UInt8} (hH:hd.length=H) (h:Cof.Good key hd len X P):X.take H=hd∧X.drop (H+len)=Cof.high (Cof.tag key (X.take (H+len))) 8∧P=(X.drop H).take len:=by
 obtain ⟨h1,rfl⟩:=h
 have e1:(Cof.sealed key (hd++P)).take (H+len)=hd++P:=by
  unfold Cof.sealed
  rw [List.take_append_of_le_length (by simp;omega),List.take_of_length_le (by simp;omega)]
 refine ⟨?_,?_,?_⟩
 ·unfold Cof.sealed
  rw [List.append_assoc,←hH,List.take_left]
 ·rw [e1]
  unfold Cof.sealed
  rw [List.drop_append_of_le_length (by simp;omega),List.drop_of_length_le (by simp;omega),List.nil_append]
 ·unfold Cof.sealed
  rw [List.append_assoc,←hH,List.drop_left,←h1,List.take_left]
theorem good_of {key len H m:Nat} {hd X:List UInt8} (hm:m=X.length) (hme:m=H+len+8) (h1:X.take H=hd) (h2:X.drop (H+len)=Cof.high (Cof.tag key (X.take (H+len))) 8):Cof.Good key hd len X ((X.drop H).take len):=by
 refine ⟨by rw [List.length_take,List.length_drop];omega,?_⟩
 have e:hd++(X.drop H).take len=X.take (H+len):=by rw [←h1,List.take_add]
 unfold Cof.sealed
 rw [e,←h2,List.take_append_drop]
set_option maxRecDepth 100000 in
set_option maxHeartbeats 1000000 in
theorem piece_same (mode t l n s epoch size key len:Nat) (hlen:len=Cof.ngroups mode t l size) (name:ByteArray) (b o m c:Nat) (X:List UInt8) (w:World) (hp:IsPlan mode t l n) (hs:s<n) (he:epoch≤100) (hz:size≤60) (hn1:1≤name.size) (hnm:name.size≤12)
  (hk:key<18446744073709551616) (hl:len≤60) (em:m=X.length) (hmc:m≤c) (hme:m=10+name.size+len+8) (hr:Rd w (some ⟨b,o,none⟩) (bs X)) :
  Calls Tryz.prog 133 #[.agg #[.string name,.int .i64 mode,.int .i64 t,.int .i64 l,.int .i64 size,.int .i64 epoch,.int .i64 n,.int .i64 s],.slice (some ⟨b,o,none⟩) m c,.int .u64 key] w fun e w' =>
   (∀P,Cof.Good key (Cof.head mode t l n s epoch size name.data.toList) len X P→∃v,e=.returned (.tuple #[v,.nilIface])∧w'.ownsRow w.heap.size 5 1 v len (bs P)) ∧
   ((¬∃P,Cof.Good key (Cof.head mode t l n s epoch size name.data.toList) len X P)→∃ev,e=.returned (.tuple #[.slice none 0 0,ev])∧Chain w' 12 1 ev)∧Below w.heap.size w w':=by
 have hba:=(Below.refl w.heap.size w).alloc (Nat.le_refl _) (.cells #[.string name,.int .i64 mode,.int .i64 t,.int .i64 l,.int .i64 size,.int .i64 epoch,.int .i64 n,.int .i64 s] 134)
 have HH:=hid (fun w'=>head_any mode t l n s epoch size name w' hp hs he hz hnm)
 have HLL:=hid (llen_ok mode t l n s epoch size name (w.alloc (.cells #[.string name,.int .i64 mode,.int .i64 t,.int .i64 l,.int .i64 size,.int .i64 epoch,.int .i64 n,.int .i64 s] 134)) hp hz hn1 hnm (by omega))
 rw [←hlen] at HLL
 have hHL:(Cof.head mode t l n s epoch size name.data.toList).length=10+name.size:=by rw [Cof.length_head];simp
 obtain ⟨H,hH⟩:∃H,H=10+name.size:=⟨_,rfl⟩
 rw [←hH] at HH hHL hme
 obtain ⟨M,hM⟩:∃M,M=H+len:=⟨_,rfl⟩
 rw [show (10:Int)+(name.size:Int)+(len:Int)=(M:Int) by omega] at HLL
 rw [←hM] at hme
 have hH22:H≤22:=by omega
 generalize Cof.head mode t l n s epoch size name.data.toList=hd at *
 have HHL:=hid hHL
 have EM:=hid em
 have HK:=hid hk
 have HR:=hid hr
 have HME:=hid hme
 have hq:((m:Int) != (M:Int)+8)=false:=by rw [hme];simp
 have hq0:(0:Int)≤(M:Int):=by omega
 have hq1:(M:Int)≤(m:Int):=by omega
 have hq2:(M:Int)≤(c:Int):=by omega
 have hmi:(m:Int)≤(c:Int):=by omega
 have hc0:¬c=0:=by omega
 have hcn:¬c=M:=by omega
 have hcn2:¬c=H:=by omega
 have hHi:(H:Int)≤(M:Int):=by omega
 have hHl:H≤M:=by omega
 have hM82:M≤82:=by omega
 have hw1:IntKind.i64.wrap (M:Int)=(M:Int):=by rw [IntKind.wrap_i64];omega
 have hw2:IntKind.i64.wrap ((M:Int)+8-8)=(M:Int):=by rw [IntKind.wrap_i64];omega
 have HMM:=hid hM
 clear hp hs he hz hk em hr hme hH hHL hlen hM
 go_enter Tryz.func133,Tryz.ntmps133
 go_wp2_with fail
 refine HLL.out.mono ?_
 rintro e w1 ⟨rfl,hb1⟩
 have hb01:Below w.heap.size w w1:=hba.trans (hb1.mono (by simp))
 have hc1:∀o,w1.cell? ⟨w.heap.size,o,none⟩=_:=fun o=>(bcell hb1).1 w.heap.size o (by simp)
 have hz1:w.heap.size<w1.heap.size:=by have:=hb1.size;simp at this;omega
 go_wp2_with fail
 go_region_held3 (fun w'=>∀o,w'.cell? ⟨w.heap.size,o,none⟩=w1.cell? ⟨w.heap.size,o,none⟩) (first | exact fun _=>rfl | exact d3 | go_keep)
  (first | (go_at_call 73;refine (HH.out _).mono ?_;rintro e w2 ⟨v1,rfl,hown1,hb2⟩;obtain ⟨a1,c1,rfl,hrd1⟩:=owns_any_rd hown1;have d3:∀o,w2.cell? ⟨w.heap.size,o,none⟩=w1.cell? ⟨w.heap.size,o,none⟩:=fun o=>((Below.refl w1.heap.size w1).drew.trans hb2).cell (by exact hz1)))
 obtain ⟨W1,rfl⟩:∃W1,W1=w2:=⟨_,rfl⟩
 have hbW:Below w.heap.size w W1:=hb01.trans (((Below.refl w1.heap.size w1).drew.trans hb2).mono hb01.size)
 have HR2:=hid hrd1
 have HX:=hid (HR.out.below hbW (Nat.le_refl _))
 have hzW:=hbW.size
 clear hown1 hrd1 hb1 hb2 d3
 have HPX:=hid (prefix_any (some ⟨b,o,none⟩) a1 M c H c1 (X.take M) hd W1 (by have:=EM.out;have:=HME.out;rw [List.length_take];omega) HHL.out.symm (by omega) (by have:=HX.out.part 0 M;simpa using this) HR2.out)
 have HTT:=hid (show (X.take M).take H=X.take H by rw [List.take_take,Nat.min_eq_left (by omega)])
 by_cases hpre:X.take H=hd
 ·have HPRE:=hid (show decide ((X.take M).take H=hd)=true by rw [HTT.out];exact decide_eq_true hpre)
  rw [HPRE.out] at HPX
  have HPR:=hid hpre
  clear hpre
  go_wp2_with fail
  refine HPX.out.mono ?_
  rintro e w2 ⟨rfl,rfl⟩
  go_wp2_with fail
  refine (tagOf_any (some ⟨b,o,none⟩) M c (X.take M) key _ (by have:=EM.out;have:=HME.out;rw [List.length_take];omega) (by have:=HX.out.part 0 M;simpa using this) (by omega) HK.out).mono ?_
  rintro e w3 ⟨g3,rfl,hown3,hb3⟩
  have HX3:=hid (HX.out.below hb3 (Nat.le_refl _))
  have HEQ:=hid (equal_any (some ⟨b,o+M,none⟩) (some ⟨g3,0,none⟩) (m-M) (c-M) 8 8 (X.drop M) (Cof.high (Cof.tag key (X.take M)) 8) w3 (by have:=EM.out;rw [List.length_drop];omega) (by rw [Cof.length_high]) (by have:=HX3.out.part M (X.length);rw [List.take_of_length_le (by rw [List.length_drop];omega)] at this;exact this) (owns_rd hown3))
  have hb03:Below w.heap.size w w3:=hbW.trans (hb3.mono hzW)
  clear hown3
  by_cases htag:X.drop M=Cof.high (Cof.tag key (X.take M)) 8
  ·rw [decide_eq_true htag] at HEQ
   have HTG:=hid htag
   clear htag
   go_wp2_with fail
   refine HEQ.out.mono ?_
   rintro e w4 ⟨rfl,rfl⟩
   go_wp2_with fail
   refine (cloneB (some ⟨b,o+H,none⟩) _ _ ((X.drop H).take len) _ (by have:=EM.out;have:=HME.out;have:=HMM.out;rw [List.length_take,List.length_drop];omega) (HX3.out.part H len) (by omega) nofun).mono ?_
   rintro e w5 ⟨v5,rfl,hown5,hb5⟩
   have HV5:=hid (show _ from (show M-H=len by have:=HMM.out;omega) ▸ hown5.mono hb03.size)
   clear hown5
   go_wp2_with fail
   go_ret2
   refine ⟨fun P hP=>⟨_,rfl,?_⟩,fun hno=>absurd ⟨_,good_of EM.out (HMM.out ▸ HME.out) HPR.out (HMM.out ▸ HTG.out)⟩ hno,hb03.trans (hb5.mono hb03.size)⟩
   rw [(good_take HHL.out hP).2.2]
   exact HV5.out
  ·rw [decide_eq_false htag] at HEQ
   have HTG:=hid htag
   clear htag
   go_wp2_with fail
   refine HEQ.out.mono ?_
   rintro e w4 ⟨rfl,rfl⟩
   go_wp2_with fail
   refine (at_chain _ _ 12 0 _ .hit).mono ?_
   rintro e w5 ⟨e5,rfl,hch,hb5⟩
   go_wp2_with fail
   go_ret2
   exact ⟨fun P hP=>absurd (good_take HHL.out hP).2.1 (HMM.out ▸ HTG.out),fun _=>⟨_,rfl,hch⟩,hb03.trans (hb5.mono hb03.size)⟩
 ·have HPRE:=hid (show decide ((X.take M).take H=hd)=false by rw [HTT.out];exact decide_eq_false hpre)
  rw [HPRE.out] at HPX
  have HPR:=hid hpre
  clear hpre
  go_wp2_with fail
  refine HPX.out.mono ?_
  rintro e w2 ⟨rfl,rfl⟩
  go_wp2_with fail
  refine (at_chain _ _ 12 0 _ .hit).mono ?_
  rintro e w5 ⟨e5,rfl,hch,hb5⟩
  go_wp2_with fail
  go_ret2
  exact ⟨fun P hP=>absurd (good_take HHL.out hP).1 HPR.out,fun _=>⟨_,rfl,hch⟩,hbW.trans (hb5.mono hzW)⟩
end Go.Proofs.YtcegdgmbponapabGreatDoor