import Derived.Test.YtcegdgmbponapaaGreatDoorPart08
set_option maxRecDepth 100000
set_option maxHeartbeats 4000000
namespace Go.Proofs.YtcegdgmbponapaaGreatDoor
open Go.RowKit
attribute [local go_sem ↓] Go.wp_at_zero Go.wp_at_succ
def Cof.sealed (key:Nat) (xs:List UInt8):List UInt8:=xs++Cof.high (Cof.tag key xs) 8
theorem qdR (xs ys:List UInt8):bs (xs++ys)=bs xs++bs ys:=by simp [bs]
theorem qgF {P:Program} (w:World) {ops:Array Oper} {rest:List Oper} {o:Oper} {a:Act} {Q:Exit→Act→World→Prop} (hgd:o.guard=none) (s x:Operand) (t:TypeId)
  (ho:o.op=.call { callee:=.builtin .append,args:=#[s,x],argTypes:=#[t,t] })
  (base:Nat) (e:TypeId) (i:TypeInfo) (z:Value) (bytes:Nat) (ht:P.underlying t=some (.slice e)) (hi:P.info? e=some i) (hz:i.zero=some z) (hsize:i.size=1) (hby:i.bytes=bytes) (hzs:z.cells.size=1)
  (v:Value) (n:Nat) (xs:List Value) (hs:a.eval s=v) (hown:w.ownsRow base e 1 v n xs) (ao:Option Addr) (m c:Nat) (news:List Value) (hx:a.eval x=.slice ao m c) (hl:news.length=m) (hr:Rd w ao news)
  (h1:∀u∈news,u.oneCell'=true) (hm:n+m≤1000000) (hb:bytes≤1000) (hbase:base≤w.heap.size)
  (h:∀v' w',w'.ownsRow base e 1 v' (n+m) (xs++news)→w.grownBy w' v.ownBlock→wpList P ops Q rest (a.put o.dst v') w'):wpList P ops Q (o :: rest) a w:=by
 have hbb:(n+m)*bytes≤140737488355328:=by
  have:=Nat.mul_le_mul hm hb
  omega
 cases ao with
 | none =>
  have hm0:news=[]:=by
   cases news with
   | nil=>rfl
   | cons v0 r=>obtain ⟨b,o',h1,_⟩:=hr 0 v0 rfl;cases h1
  subst hm0
  simp at hl;subst hl
  refine wpList_plain hgd fun K hK=>?_
  have hrun:(Builtin.append_ #[t,t] o.type #[v,.slice none 0 c]).run P w=.ok v w:=by
   rcases hown.2 with ⟨rfl,rfl⟩|⟨g,cap,cur,rfl,_,_,hnc,_⟩
   ·simp [Builtin.append_,run_underlying ht,sizeOf,typeInfo,hi,Builtin.lenOf,Builtin.firstCells]
   ·simp [Builtin.append_,run_underlying ht,sizeOf,typeInfo,hi,Builtin.lenOf,Builtin.firstCells,hnc,storeCells]
  unfold Oper.wp
  simp [execOp,ho,resolve,invoke,builtin,hs,hx,hrun,Result.andThen]
  exact hK _ _ (h v w (by simpa using hown) (World.grownBy.refl _ _))
 | some ad =>
  refine wpList_append_own w hgd s x t ho base e i z 1 bytes ht hi hz hsize hby hzs (by decide) v n xs hs hown ad m c news hx (by omega) ?_ h1 (by unfold maxLen;omega) hbb hbase ?_
  ·intro j u hj
   obtain ⟨b,o',e1,e2,e3⟩:=hr j u hj
   cases e1
   rw [qaW];exact e3
  ·intro v' w' h1 h2 _
   exact h v' w' h1 h2
theorem qlg (mode t l n s epoch size key:Nat) (name:ByteArray) (aP:Option Addr) (m c:Nat) (P:List UInt8) (w:World) (hp:qaj mode t l n) (hs:s<n) (he:epoch≤100) (hz:size≤60) (hnm:name.size≤12)
  (hk:key<18446744073709551616) (em:m=P.length) (hr:Rd w aP (bs P)) (hm:m≤60) :
  Calls Tryz.prog 138 #[.agg #[.string name,.int .i64 mode,.int .i64 t,.int .i64 l,.int .i64 size,.int .i64 epoch,.int .i64 n,.int .i64 s],.slice aP m c,.int .u64 key] w fun e w' =>
   ∃v,e=.returned v∧w'.ownsRow w.heap.size 5 1 v (10+name.size+m+8) (bs (Cof.sealed key (Cof.head mode t l n s epoch size name.data.toList++P)))∧Below w.heap.size w w':=by
 obtain ⟨i0,hi,hz0,hz1,hz2⟩:=info_parts Tryz.info5
 have hba:=(Below.refl w.heap.size w).alloc nl (.cells #[.string name,.int .i64 mode,.int .i64 t,.int .i64 l,.int .i64 size,.int .i64 epoch,.int .i64 n,.int .i64 s] 224)
 have HH:=hid (qfm mode t l n s epoch size name (w.alloc (.cells #[.string name,.int .i64 mode,.int .i64 t,.int .i64 l,.int .i64 size,.int .i64 epoch,.int .i64 n,.int .i64 s] 224)) hp hs he hz hnm)
 have hHL:(Cof.head mode t l n s epoch size name.data.toList).length=10+name.size:=by rw [Cof.length_head];simp
 have HR:=hid hr
 have EM:=hid (show (bs P).length=m by rw [qag,em])
 have EA:=hid (show 10+name.size+m=(Cof.head mode t l n s epoch size name.data.toList++P).length by rw [List.length_append,hHL,em])
 have HK:=hid hk
 have HO1:=hid (fun u hu=>qcJ P u hu)
 clear hr em hp hs he hz hk hHL
 generalize Cof.head mode t l n s epoch size name.data.toList=hd at *
 go_enter Tryz.func138,Tryz.ntmps138
 go_wp2_with fail
 refine HH.out.mono ?_
 rintro e w1 ⟨v1,rfl,hown1,hb1⟩
 have hb01:Below w.heap.size w w1:=hba.trans (hb1.mono (by simp))
 have hz01:=hb01.size
 have HV1:=hid (hown1.mono (show w.heap.size≤_ by simp))
 clear hown1
 go_wp2_with (first | (at_builtin;refine qgF _ rfl (.tmp 9) (.tmp 10) 50 rfl w.heap.size 5 i0 (Value.int .u8 0) 1 Tryz.underlying50 hi hz0 hz1 hz2 rfl _ (10+name.size) (bs hd) rfl HV1.out aP m c (bs P) rfl EM.out (HR.out.below hb01 nl) HO1.out (by omega) (by omega) hz01 ?_;intro v2 w2 hown2 hgrow2;have hb02:Below w.heap.size w w2:=hb01.grown hgrow2 hz01 (fun k hk=>(HV1.out.lt k hk).1);obtain ⟨a2,c2,rfl,hrd2⟩:=qaw hown2;have HV2:=hid hown2;have HR2:=hid hrd2;clear hown2 hgrow2 hrd2)|fail)
 have HR3:=hid (show Rd w2 a2 (bs (hd++P)) by rw [qdR];exact HR2.out)
 refine (qg8 a2 (10+name.size+m) c2 (hd++P) key _ EA.out HR3.out (by omega) HK.out).mono ?_
 rintro e w3 ⟨g3,rfl,hown3,hb3⟩
 have hb03:Below w.heap.size w w3:=hb02.trans (hb3.mono hb02.size)
 have hz03:=hb03.size
 have HV3:=hid (qae HV2.out hb3 nl)
 have HT:=hid (qaC hown3)
 clear hown3
 go_wp2_with (first | (at_builtin;refine qbk _ rfl (.tmp 12) (.tmp 15) 50 rfl w.heap.size 5 i0 (Value.int .u8 0) 1 Tryz.underlying50 hi hz0 hz1 hz2 rfl _ (10+name.size+m) (bs hd++bs P) rfl HV3.out (some ⟨g3,0,none⟩) 8 8 (bs (Cof.high (Cof.tag key (hd++P)) 8)) rfl (by rw [qag,Cof.length_high]) HT.out nofun (fun u hu=>qcJ _ u hu) (by omega) (by omega) hz03 ?_;intro v4 w4 hown4 hgrow4;have hb04:Below w.heap.size w w4:=hb03.grown hgrow4 hz03 (fun k hk=>(HV3.out.lt k hk).1);have HV4:=hid hown4;clear hown4 hgrow4)|fail)
 go_ret
 refine ⟨_,rfl,?_,hb04⟩
 unfold Cof.sealed
 rw [qdR,qdR]
 exact HV4.out
theorem qgo (a1 a2:Option Addr) (n1 c1 n2 c2:Nat) (xs ys:List UInt8) (w:World) (e1:n1=xs.length) (e2:n2=ys.length) (r1:Rd w a1 (bs xs)) (r2:Rd w a2 (bs ys)) :
  Calls Tryz.prog 219 #[.slice a1 n1 c1,.slice a2 n2 c2] w fun e w'=>e=.returned (.bool (decide (xs=ys)))∧w'=w:=by
 have h1:=qa6 w a1 c1 n1 xs e1 r1
 have h2:=qa6 w a2 c2 n2 ys e2 r2
 clear e1 e2 r1 r2
 go_enter Tryz.func219,Tryz.ntmps219
 go_wp2
 go_ret
 refine ⟨congrArg (fun b=>Ending.returned (.bool b)) ?_,rfl⟩
 rw [Bool.eq_iff_iff]
 simp
theorem qib (a1 a2:Option Addr) (n1 c1 n2 c2:Nat) (xs ys:List UInt8) (w:World) (e1:n1=xs.length) (e2:n2=ys.length) (hc:n1≤c1) (r1:Rd w a1 (bs xs)) (r2:Rd w a2 (bs ys)) :
  Calls Tryz.prog 218 #[.slice a1 n1 c1,.slice a2 n2 c2] w fun e w'=>e=.returned (.bool (decide (xs.take n2=ys)))∧w'=w:=by
 by_cases h:n2≤n1
 ·have h':(n2:Int)≤(n1:Int):=by omega
  have h2:(n2:Int)≤(c1:Int):=by omega
  have HE:=hid (fun c=>qgo a1 a2 n2 c n2 c2 (xs.take n2) ys w (by rw [List.length_take];omega) e2 (by intro k v hk;exact r1 k v (by simp only [bs,List.map_take] at hk ⊢;rw [List.getElem?_take] at hk;split at hk;exact hk;cases hk)) r2)
  clear e1 e2 r1 r2
  go_enter Tryz.func218,Tryz.ntmps218
  go_wp2_with (go_at_call 219;refine (HE.out _).mono ?_;rintro e w1 ⟨rfl,rfl⟩)
  go_ret
  exact ⟨rfl,rfl⟩
 ·have h':¬(n2:Int)≤(n1:Int):=by omega
  have HD:=hid (show decide (xs.take n2=ys)=false by
   apply decide_eq_false
   intro e
   have:=congrArg List.length e
   rw [List.length_take] at this
   omega)
  clear e1 e2 r1 r2
  go_enter Tryz.func218,Tryz.ntmps218
  go_wp2
  go_ret
  rw [HD.out]
  exact ⟨rfl,rfl⟩
theorem cloneB (a:Option Addr) (n c:Nat) (xs:List UInt8) (w:World) (en:n=xs.length) (hr:Rd w a (bs xs)) (hn:n≤1000) (hsome:a≠none) :
  Calls Tryz.prog 220 #[.slice a n c] w fun e w'=>∃v,e=.returned v∧w'.ownsRow w.heap.size 5 1 v n (bs xs)∧Below w.heap.size w w':=by
 obtain ⟨i0,hi,hz0,hz1,hz2⟩:=info_parts Tryz.info5
 obtain ⟨b,rfl⟩:∃b,a=some b:=by cases a with | none=>exact absurd rfl hsome | some b=>exact ⟨b,rfl⟩
 have HL:=hid (show (bs xs).length=n by rw [qag,en])
 have HR:=hid hr
 have hba:=(Below.refl w.heap.size w).alloc nl (.cells #[] 5)
 have hq:=Lib.run_eql_slice_nil (P:=Tryz.prog) w 50 5 (some b) n c 0 0 Tryz.underlying50
 have HE:=hid (show (w.alloc (.cells #[] 5)).ownsRow w.heap.size 5 1 (.slice (some ⟨w.heap.size,0,none⟩) 0 0) 0 [] from qbn (L:=[]) (by show (w.heap.push _)[w.heap.size]?=_;simp) nl rfl (by unfold maxLen;omega))
 clear en hr hsome
 go_enter Tryz.func220,Tryz.ntmps220
 go_wp2_with (first | (at_builtin;refine qbk _ rfl (.tmp 5) (.tmp 6) 50 rfl w.heap.size 5 i0 (Value.int .u8 0) 1 Tryz.underlying50 hi hz0 hz1 hz2 rfl _ 0 [] rfl HE.out (some b) n c (bs xs) rfl HL.out (HR.out.below hba nl) nofun (fun u hu=>qcJ _ u hu) (by omega) (by omega) (by simp) ?_;intro v2 w2 hown2 hgrow2;rw [Nat.zero_add,List.nil_append] at hown2;have hb2:Below w.heap.size w w2:=hba.grown hgrow2 (by simp) (fun k hk=>(HE.out.lt k hk).1);have HO2:=hid hown2;clear hown2 hgrow2)|fail)
 go_ret
 exact ⟨_,rfl,HO2.out,hb2⟩
theorem qf3 (mode t l n s epoch size:Nat) (name:ByteArray) (w:World) (h:qaj mode t l n) (hs:size≤60) (h1:1≤name.size) (h2:name.size≤12) (hng:Cof.ngroups mode t l size≤60) :
  Calls Tryz.prog 210 #[.agg #[.string name,.int .i64 mode,.int .i64 t,.int .i64 l,.int .i64 size,.int .i64 epoch,.int .i64 n,.int .i64 s]] w fun e w' =>
   e=.returned (.tuple #[.int .i64 (10+(name.size:Int)+((Cof.ngroups mode t l size:Nat):Int)+8),.nilIface])∧Below w.heap.size w w':=by
 have hba:=(Below.refl w.heap.size w).alloc nl (.cells #[.string name,.int .i64 mode,.int .i64 t,.int .i64 l,.int .i64 size,.int .i64 epoch,.int .i64 n,.int .i64 s] 224)
 have HL:=hid (qkt mode t l n size (w.alloc (.cells #[.string name,.int .i64 mode,.int .i64 t,.int .i64 l,.int .i64 size,.int .i64 epoch,.int .i64 n,.int .i64 s] 224)) h hs)
 generalize Cof.ngroups mode t l size=ng at *
 clear h hs
 have q1:¬(name.size:Int)<1:=by omega
 have q2:¬(12:Int)<(name.size:Int):=by omega
 go_enter Tryz.func210,Tryz.ntmps210
 go_wp2_with (go_at_call 240;refine HL.out.mono ?_;rintro e w1 ⟨rfl,hb1⟩)
 go_ret2
 exact ⟨rfl,hba.trans (hb1.mono (by simp))⟩
theorem qjW (m t l n s epoch size:Int) (name:ByteArray) (w:World) (hno:name.size<1∨12<name.size) (hsz:name.size≤maxLen) (hT:Tab w) :
  Calls Tryz.prog 210 #[.agg #[.string name,.int .i64 m,.int .i64 t,.int .i64 l,.int .i64 size,.int .i64 epoch,.int .i64 n,.int .i64 s]] w fun e w' =>
   ∃ev,e=.returned (.tuple #[.int .i64 0,ev])∧Chain w' 2 1 ev∧Below w.heap.size w w':=by
 have hba:=(Below.refl w.heap.size w).alloc nl (.cells #[.string name,.int .i64 m,.int .i64 t,.int .i64 l,.int .i64 size,.int .i64 epoch,.int .i64 n,.int .i64 s] 224)
 have HT:=hid (hT.keeps hba nl)
 have HI:=hid (show I64 (name.size:Int) by unfold I64;unfold maxLen at hsz;omega)
 clear hT
 rcases hno with hno | hno
 ·have q1:(name.size:Int)<1:=by omega
  go_enter Tryz.func210,Tryz.ntmps210
  go_wp2_with (go_at_call 130;refine (qa9 (name.size:Int) _ _ 2 0 _ HI.out (by decide) HT.out .hit).mono ?_;rintro e w2 ⟨e2,rfl,hch,hb2⟩)
  go_ret2
  exact ⟨_,rfl,hch,hba.trans (hb2.mono (by simp))⟩
 ·have q1:¬(name.size:Int)<1:=by omega
  have q2:(12:Int)<(name.size:Int):=by omega
  go_enter Tryz.func210,Tryz.ntmps210
  go_wp2_with (go_at_call 130;refine (qa9 (name.size:Int) _ _ 2 0 _ HI.out (by decide) HT.out .hit).mono ?_;rintro e w2 ⟨e2,rfl,hch,hb2⟩)
  go_ret2
  exact ⟨_,rfl,hch,hba.trans (hb2.mono (by simp))⟩
theorem qjU (m t l n s epoch size k:Int) (name:ByteArray) (w:World) (h1:1≤name.size) (h2:name.size≤12) (hT:Tab w)
  (h:∀w,Tab w→Calls Tryz.prog 91 #[.agg #[.int .i64 m,.int .i64 t,.int .i64 l],.int .i64 n,.int .i64 size] w fun e w'=>∃ev,e=.returned (.tuple #[qeo,ev])∧Chain w' k 1 ev∧Below w.heap.size w w') :
  Calls Tryz.prog 210 #[.agg #[.string name,.int .i64 m,.int .i64 t,.int .i64 l,.int .i64 size,.int .i64 epoch,.int .i64 n,.int .i64 s]] w fun e w' =>
   ∃x ev,e=.returned (.tuple #[.int .i64 x,ev])∧Chain w' k 2 ev∧Below w.heap.size w w':=by
 have hba:=(Below.refl w.heap.size w).alloc nl (.cells #[.string name,.int .i64 m,.int .i64 t,.int .i64 l,.int .i64 size,.int .i64 epoch,.int .i64 n,.int .i64 s] 224)
 have HL:=hid (qkz m t l n size k _ (hT.keeps hba nl) h)
 clear h hT
 have q1:¬(name.size:Int)<1:=by omega
 have q2:¬(12:Int)<(name.size:Int):=by omega
 go_enter Tryz.func210,Tryz.ntmps210
 go_wp2_with (go_at_call 240;refine HL.out.mono ?_;rintro e w1 ⟨ev,rfl,hch,hb1⟩;obtain ⟨te,ve,rfl⟩:=hch.shape)
 go_ret2
 exact ⟨_,_,rfl,hch,hba.trans (hb1.mono (by simp))⟩
def Cof.Good (key:Nat) (hd:List UInt8) (len:Nat) (X P:List UInt8):Prop:=P.length=len∧X=Cof.sealed key (hd++P)
theorem Rd.part {w:World} {b o:Nat} {xs:List UInt8} (h:Rd w (some ⟨b,o,none⟩) (bs xs)) (i n:Nat):Rd w (some ⟨b,o+i,none⟩) (bs ((xs.drop i).take n)):=by
 intro k v hk
 have hk':(bs xs)[i+k]?=some v:=by
  simp only [bs,List.map_take,List.map_drop] at hk ⊢
  rw [List.getElem?_take] at hk
  split at hk
  ·rw [List.getElem?_drop] at hk;exact hk
  ·cases hk
 obtain ⟨b',o',h1,h2,h3⟩:=h (i+k) v hk'
 simp at h1
 obtain ⟨rfl,rfl⟩:=h1
 exact ⟨b,o+i,rfl,h2,by rw [Nat.add_assoc];exact h3⟩
theorem qbH {key len H:Nat} {hd X P:List UInt8} (hH:hd.length=H) (h:Cof.Good key hd len X P):X.take H=hd∧X.drop (H+len)=Cof.high (Cof.tag key (X.take (H+len))) 8∧P=(X.drop H).take len:=by
 obtain ⟨h1,rfl⟩:=h
 have e1:(Cof.sealed key (hd++P)).take (H+len)=hd++P:=by
  unfold Cof.sealed
  rw [List.take_append_of_le_length (by simp;omega),List.take_of_length_le (by simp;omega)]
 refine ⟨?_,?_,?_⟩
 ·unfold Cof.sealed
  rw [List.append_assoc,←hH,List.take_left]
 ·rw [e1]
  unfold Cof.sealed
  rw [List.drop_append_of_le_length (by simp;omega),List.drop_of_length_le (by simp;omega),List.nil_append]
 ·unfold Cof.sealed
  rw [List.append_assoc,←hH,List.drop_left,←h1,List.take_left]
theorem qjo {key len H m:Nat} {hd X:List UInt8} (hm:m=X.length) (hme:m=H+len+8) (h1:X.take H=hd) (h2:X.drop (H+len)=Cof.high (Cof.tag key (X.take (H+len))) 8):Cof.Good key hd len X ((X.drop H).take len):=by
 refine ⟨by rw [List.length_take,List.length_drop];omega,?_⟩
 have e:hd++(X.drop H).take len=X.take (H+len):=by rw [←h1,List.take_add]
 unfold Cof.sealed
 rw [e,←h2,List.take_append_drop]
theorem qfc (mode t l n s epoch size key len:Nat) (hlen:len=Cof.ngroups mode t l size) (name:ByteArray) (b o m c:Nat) (X:List UInt8) (w:World) (hp:qaj mode t l n) (hs:s<n) (he:epoch≤100) (hz:size≤60) (hn1:1≤name.size) (hnm:name.size≤12)
  (hk:key<18446744073709551616) (hl:len≤60) (em:m=X.length) (hmc:m≤c) (hme:m=10+name.size+len+8) (hr:Rd w (some ⟨b,o,none⟩) (bs X)) :
  Calls Tryz.prog 181 #[.agg #[.string name,.int .i64 mode,.int .i64 t,.int .i64 l,.int .i64 size,.int .i64 epoch,.int .i64 n,.int .i64 s],.slice (some ⟨b,o,none⟩) m c,.int .u64 key] w fun e w' =>
   (∀P,Cof.Good key (Cof.head mode t l n s epoch size name.data.toList) len X P→∃v,e=.returned (.tuple #[v,.nilIface])∧w'.ownsRow w.heap.size 5 1 v len (bs P)) ∧
   ((¬∃P,Cof.Good key (Cof.head mode t l n s epoch size name.data.toList) len X P)→∃ev,e=.returned (.tuple #[.slice none 0 0,ev])∧Chain w' 12 1 ev)∧Below w.heap.size w w':=by
 have hba:=(Below.refl w.heap.size w).alloc nl (.cells #[.string name,.int .i64 mode,.int .i64 t,.int .i64 l,.int .i64 size,.int .i64 epoch,.int .i64 n,.int .i64 s] 224)
 have HH:=hid (fun w'=>qfm mode t l n s epoch size name w' hp hs he hz hnm)
 have HLL:=hid (qf3 mode t l n s epoch size name (w.alloc (.cells #[.string name,.int .i64 mode,.int .i64 t,.int .i64 l,.int .i64 size,.int .i64 epoch,.int .i64 n,.int .i64 s] 224)) hp hz hn1 hnm (by omega))
 rw [←hlen] at HLL
 have hHL:(Cof.head mode t l n s epoch size name.data.toList).length=10+name.size:=by rw [Cof.length_head];simp
 obtain ⟨H,hH⟩:∃H,H=10+name.size:=⟨_,rfl⟩
 rw [←hH] at HH hHL hme
 obtain ⟨M,hM⟩:∃M,M=H+len:=⟨_,rfl⟩
 rw [show (10:Int)+(name.size:Int)+(len:Int)=(M:Int) by omega] at HLL
 rw [←hM] at hme
 have hH22:H≤22:=by omega
 generalize Cof.head mode t l n s epoch size name.data.toList=hd at *
 have HHL:=hid hHL
 have EM:=hid em
 have HK:=hid hk
 have HR:=hid hr
 have HME:=hid hme
 have hq:((m:Int) != (M:Int)+8)=false:=by rw [hme];simp
 have hq0:(0:Int)≤(M:Int):=by omega
 have hq1:(M:Int)≤(m:Int):=by omega
 have hq2:(M:Int)≤(c:Int):=by omega
 have hmi:(m:Int)≤(c:Int):=by omega
 have hc0:¬c=0:=by omega
 have hcn:¬c=M:=by omega
 have hcn2:¬c=H:=by omega
 have hHi:(H:Int)≤(M:Int):=by omega
 have hHl:H≤M:=by omega
 have hM82:M≤82:=by omega
 have hw1:IntKind.i64.wrap (M:Int)=(M:Int):=by rw [IntKind.wrap_i64];omega
 have hw2:IntKind.i64.wrap ((M:Int)+8-8)=(M:Int):=by rw [IntKind.wrap_i64];omega
 have HMM:=hid hM
 clear hp hs he hz hk em hr hme hH hHL hlen hM
 go_enter Tryz.func181,Tryz.ntmps181
 go_wp2_with fail
 refine HLL.out.mono ?_
 rintro e w1 ⟨rfl,hb1⟩
 have hb01:Below w.heap.size w w1:=hba.trans (hb1.mono (by simp))
 have hc1:∀o,w1.cell? ⟨w.heap.size,o,none⟩=_:=fun o=>(qbM hb1).1 w.heap.size o (by simp)
 have hz1:w.heap.size<w1.heap.size:=by have:=hb1.size;simp at this;omega
 go_wp2_with fail
 go_region_held3 (fun w'=>∀o,w'.cell? ⟨w.heap.size,o,none⟩=w1.cell? ⟨w.heap.size,o,none⟩) (first | exact fun _=>rfl | exact d3 | go_keep)
  (first | (go_at_call 156;refine (HH.out _).mono ?_;rintro e w2 ⟨v1,rfl,hown1,hb2⟩;obtain ⟨a1,c1,rfl,hrd1⟩:=qaw hown1;have d3:∀o,w2.cell? ⟨w.heap.size,o,none⟩=w1.cell? ⟨w.heap.size,o,none⟩:=fun o=>((Below.refl w1.heap.size w1).drew.trans hb2).cell (by exact hz1)))
 obtain ⟨W1,rfl⟩:∃W1,W1=w2:=⟨_,rfl⟩
 have hbW:Below w.heap.size w W1:=hb01.trans (((Below.refl w1.heap.size w1).drew.trans hb2).mono hb01.size)
 have HR2:=hid hrd1
 have HX:=hid (HR.out.below hbW nl)
 have hzW:=hbW.size
 clear hown1 hrd1 hb1 hb2 d3
 have HPX:=hid (qib (some ⟨b,o,none⟩) a1 M c H c1 (X.take M) hd W1 (by have:=EM.out;have:=HME.out;rw [List.length_take];omega) HHL.out.symm (by omega) (by have:=HX.out.part 0 M;simpa using this) HR2.out)
 have HTT:=hid (show (X.take M).take H=X.take H by rw [List.take_take,Nat.min_eq_left (by omega)])
 by_cases hpre:X.take H=hd
 ·have HPRE:=hid (show decide ((X.take M).take H=hd)=true by rw [HTT.out];exact decide_eq_true hpre)
  rw [HPRE.out] at HPX
  have HPR:=hid hpre
  clear hpre
  go_wp2_with fail
  refine HPX.out.mono ?_
  rintro e w2 ⟨rfl,rfl⟩
  go_wp2_with fail
  refine (qg8 (some ⟨b,o,none⟩) M c (X.take M) key _ (by have:=EM.out;have:=HME.out;rw [List.length_take];omega) (by have:=HX.out.part 0 M;simpa using this) (by omega) HK.out).mono ?_
  rintro e w3 ⟨g3,rfl,hown3,hb3⟩
  have HX3:=hid (HX.out.below hb3 nl)
  have HEQ:=hid (qgo (some ⟨b,o+M,none⟩) (some ⟨g3,0,none⟩) (m-M) (c-M) 8 8 (X.drop M) (Cof.high (Cof.tag key (X.take M)) 8) w3 (by have:=EM.out;rw [List.length_drop];omega) (by rw [Cof.length_high]) (by have:=HX3.out.part M (X.length);rw [List.take_of_length_le (by rw [List.length_drop];omega)] at this;exact this) (qaC hown3))
  have hb03:Below w.heap.size w w3:=hbW.trans (hb3.mono hzW)
  clear hown3
  by_cases htag:X.drop M=Cof.high (Cof.tag key (X.take M)) 8
  ·rw [decide_eq_true htag] at HEQ
   have HTG:=hid htag
   clear htag
   go_wp2_with fail
   refine HEQ.out.mono ?_
   rintro e w4 ⟨rfl,rfl⟩
   go_wp2_with fail
   refine (cloneB (some ⟨b,o+H,none⟩) _ _ ((X.drop H).take len) _ (by have:=EM.out;have:=HME.out;have:=HMM.out;rw [List.length_take,List.length_drop];omega) (HX3.out.part H len) (by omega) nofun).mono ?_
   rintro e w5 ⟨v5,rfl,hown5,hb5⟩
   have HV5:=hid (show _ from (show M-H=len by have:=HMM.out;omega) ▸ hown5.mono hb03.size)
   clear hown5
   go_wp2_with fail
   go_ret2
   refine ⟨fun P hP=>⟨_,rfl,?_⟩,fun hno=>absurd ⟨_,qjo EM.out (HMM.out ▸ HME.out) HPR.out (HMM.out ▸ HTG.out)⟩ hno,hb03.trans (hb5.mono hb03.size)⟩
   rw [(qbH HHL.out hP).2.2]
   exact HV5.out
  ·rw [decide_eq_false htag] at HEQ
   have HTG:=hid htag
   clear htag
   go_wp2_with fail
   refine HEQ.out.mono ?_
   rintro e w4 ⟨rfl,rfl⟩
   go_wp2_with fail
   refine (qav _ _ 12 0 _ .hit).mono ?_
   rintro e w5 ⟨e5,rfl,hch,hb5⟩
   go_wp2_with fail
   go_ret2
   exact ⟨fun P hP=>absurd (qbH HHL.out hP).2.1 (HMM.out ▸ HTG.out),fun _=>⟨_,rfl,hch⟩,hb03.trans (hb5.mono hb03.size)⟩
 ·have HPRE:=hid (show decide ((X.take M).take H=hd)=false by rw [HTT.out];exact decide_eq_false hpre)
  rw [HPRE.out] at HPX
  have HPR:=hid hpre
  clear hpre
  go_wp2_with fail
  refine HPX.out.mono ?_
  rintro e w2 ⟨rfl,rfl⟩
  go_wp2_with fail
  refine (qav _ _ 12 0 _ .hit).mono ?_
  rintro e w5 ⟨e5,rfl,hch,hb5⟩
  go_wp2_with fail
  go_ret2
  exact ⟨fun P hP=>absurd (qbH HHL.out hP).1 HPR.out,fun _=>⟨_,rfl,hch⟩,hbW.trans (hb5.mono hzW)⟩
section
variable {P:Program} {ops:Array Oper} {Q:Exit→Act→World→Prop} {md:Region.Mode}
theorem qgK (hacyc:∀(i:Nat) (o:Oper) (e:Edge),ops[i]?=some o→e∈o.after→Region.binds md e=true→e.on<i) {listed:Array Bool} (hs:listed.size=ops.size) (h:Region.ready md ops listed=[]) :
  ∀i,i<ops.size→listed.getD i false=true:=by
 intro i
 induction i using Nat.strongRecOn with
 | ind i ih =>
  intro hi
  cases hb:listed.getD i false with
  | true=>rfl
  | false =>
   have:i∈Region.ready md ops listed:=mem_ready.2 ⟨by rw [qbe (by omega),hb],ops[i],by simp [hi],fun e he hbd=>ih e.on (hacyc i _ e (by simp [hi]) he hbd) (by have:=hacyc i _ e (by simp [hi]) he hbd;omega)⟩
   rw [h] at this
   cases this
theorem qcI (I:Array Bool→Act→World→Prop) (hacyc:∀(i:Nat) (o:Oper) (e:Edge),ops[i]?=some o→e∈o.after→Region.binds md e=true→e.on<i)
  (hstep:∀(listed:Array Bool) (a:Act) (w:World) (i:Nat) (o:Oper),I listed a w→listed.size=ops.size→ops[i]?=some o→listed.getD i false=false→(∀e∈o.after,Region.binds md e=true→listed.getD e.on false=true)→wpOp P ops Q i (fun a' w'=>I (listed.setIfInBounds i true) a' w') a w)
  (hend:∀listed a w,I listed a w→(∀i,i<ops.size→listed.getD i false=true)→Q .normal a w) :
  ∀(fuel:Nat) (listed:Array Bool) (a:Act) (w:World),listed.size=ops.size→todo ops listed≤fuel→I listed a w→wpAny P md ops Q fuel listed a w:=by
 intro fuel
 induction fuel with
 | zero =>
  intro listed a w hs hf hI
  have hall:∀i,i<ops.size→listed.getD i false=true:=by
   intro i hi
   have h0:todo ops listed=0:=by omega
   unfold todo at h0
   rw [List.countP_eq_zero] at h0
   have:=h0 i (List.mem_range.2 hi)
   rw [←qbe (by omega)]
   simpa using this
  refine ⟨?_,hend _ _ _ hI hall⟩
  cases hr:Region.ready md ops listed with
  | nil=>rfl
  | cons j r =>
   have hj:j∈Region.ready md ops listed:=by rw [hr];exact List.mem_cons_self ..
   obtain ⟨h0,o,ho,_⟩:=mem_ready.1 hj
   have hjs:j<ops.size:=(Array.getElem?_eq_some_iff.1 ho).1
   rw [qbe (by omega),hall j hjs] at h0
   cases h0
 | succ fuel ih =>
  intro listed a w hs hf hI
  refine ⟨fun hr=>hend _ _ _ hI (qgK hacyc hs hr),fun i hi=>?_⟩
  obtain ⟨h0,o,ho,hall⟩:=mem_ready.1 hi
  have his:i<ops.size:=(Array.getElem?_eq_some_iff.1 ho).1
  refine wpOp_mono (fun a' w' h'=>ih _ a' w' (by simpa using hs) ?_ h') (hstep listed a w i o hI hs ho (by rw [←qbe (by omega)];exact h0) hall)
  have:todo ops (listed.setIfInBounds i true)<todo ops listed:=by
   unfold todo
   refine qcO _ _ _ (fun x _ hx=>?_) i (List.mem_range.2 his) (by rw [h0];rfl) (by simp [show i<listed.size by omega])
   by_cases hxi:i=x
   ·subst hxi;rw [h0];rfl
   ·rw [getD_set_ne true hxi] at hx;exact hx
  omega
def qf1 (P:Program) (slot:Nat→Nat) (R:Nat→Value→World→Prop) (fixed:List (Nat × Value)) (w0:World) (p q:Nat):Nat→List Oper→Prop
 | _,[]=>True
 | i,o :: rest=>(i=p∨i=q∨∀a w,Below w0.heap.size w0 w→(∀x∈fixed,a.tmps.getD x.1 undef=x.2)→(∀e∈o.after,Region.binds .any e=true→e.on≠p→e.on≠q→R e.on (a.tmps.getD (slot e.on) undef) w)→qbc P o a w fun v w'=>Below w.heap.size w w'∧R i v w')∧qf1 P slot R fixed w0 p q (i+1) rest
theorem qf1.at {slot:Nat→Nat} {R:Nat→Value→World→Prop} {fixed:List (Nat × Value)} {w0:World} {p q:Nat}:∀(l:List Oper) (k i:Nat) (o:Oper),qf1 P slot R fixed w0 p q k l→l[i]?=some o→k+i≠p→k+i≠q →
  ∀a w,Below w0.heap.size w0 w→(∀x∈fixed,a.tmps.getD x.1 undef=x.2)→(∀e∈o.after,Region.binds .any e=true→e.on≠p→e.on≠q→R e.on (a.tmps.getD (slot e.on) undef) w)→qbc P o a w fun v w'=>Below w.heap.size w w'∧R (k+i) v w':=by
 intro l
 induction l with
 | nil=>intro k i o _ hi;simp at hi
 | cons x l ih =>
  intro k i o h hi hp hq
  cases i with
  | zero =>
   simp at hi
   subst hi
   rcases h.1 with h1 | h1 | h1
   ·omega
   ·omega
   ·exact h1
  | succ i =>
   have:=ih (k+1) i o h.2 (by simpa using hi) (by omega) (by omega)
   rw [show k+(i+1)=k+1+i by omega]
   exact this
def memOk (ops:Array Oper) (slot:Nat→Nat) (N p q:Nat) (keys:List Nat):Bool :=
 p != q && (List.range ops.size).all fun i=>match ops[i]? with
  | none=>false
  | some o=>o.guard.isNone && o.after.all (fun e=>!Region.binds .any e || decide (e.on<i)) &&
   (i == q && o.dst == none && o.after.any (fun e=>e.on == p && Region.binds .any e) || i != q && o.dst == some (slot i) && decide (slot i<N) && keys.all (fun k=>k != slot i) && (List.range ops.size).all fun j=>j == q || slot i != slot j || i == j)
structure MI (slot:Nat→Nat) (R:Nat→Value→World→Prop) (fixed:List (Nat × Value)) (N:Nat) (p q:Nat) (te:TypeId) (cs:Array Value) (w0:World) (listed:Array Bool) (a:Act) (w:World):Prop where
 df:a.defers=[]
 sz:a.tmps.size=N
 bl:Below w0.heap.size w0 w
 fx:∀x∈fixed,a.tmps.getD x.1 undef=x.2
 rs:∀j,j≠p→j≠q→listed.getD j false=true→R j (a.tmps.getD (slot j) undef) w
 pq:listed.getD q false=true→listed.getD p false=true
 al:listed.getD p false=true→∃b c,a.tmps.getD (slot p) undef=.pointer (some ⟨b,0,none⟩)∧w0.heap.size≤b∧w.heap[b]?=some (.cells c te)∧c.size=cs.size∧(listed.getD q false=true→c=cs)
theorem qde {id:Nat} {a:Act} {w:World} (hm:P.follows .mixedOrders=true) (slot:Nat→Nat) (R:Nat→Value→World→Prop) (fixed:List (Nat × Value)) (N p q:Nat) (keys:List Nat) (te:TypeId) (cs z:Array Value) (x y:Operand)
  (hok:memOk ops slot N p q keys=true) (hk:fixed.map Prod.fst=keys)
  (hp:∃o,ops[p]?=some o∧∀(a:Act) (w:World),(execOp a.eval o).run P w=.ok (.value (.pointer (some ⟨w.heap.size,0,none⟩))) (w.alloc (.cells z te))) (hzs:z.size=cs.size)
  (hq:∃o,ops[q]?=some o∧o.op=.store te x y∧(∀a:Act,a.eval x=a.tmps.getD (slot p) undef)∧∀(a:Act) (w:World),(∀e∈o.after,Region.binds .any e=true→e.on≠p→e.on≠q→R e.on (a.tmps.getD (slot e.on) undef) w)→a.eval y=.agg cs)
  (hi:(P.info? te).map (·.size)=some cs.size) (hcs:cs.all (·.oneCell')=true)
  (ha:a.defers=[]) (hN:a.tmps.size=N) (hfx:∀p∈fixed,a.tmps.getD p.1 undef=p.2)
  (hper:∀j v w w',R j v w→Below { w with drawn:=w.drawn }.heap.size w w'→R j v w')
  (hperS:∀j v w' b c,Below w.heap.size { w with drawn:=w.drawn+1 } w'→R j v w'→w.heap.size≤b→R j v (w'.setRow b c))
  (hstep:qf1 P slot R fixed { w with drawn:=w.drawn+1 } p q 0 ops.toList)
  (hend:∀a w' b,a.defers=[]→a.tmps.size=N→Below w.heap.size { w with drawn:=w.drawn+1 } w'→(∀p∈fixed,a.tmps.getD p.1 undef=p.2)→(∀j,j<ops.size→j≠p→j≠q→R j (a.tmps.getD (slot j) undef) w')→a.tmps.getD (slot p) undef=.pointer (some ⟨b,0,none⟩)→w.heap.size≤b→w'.heap[b]?=some (.cells cs te)→Q .normal a w') :
  (Code.region id ops true).wp P Q a w:=by
 unfold memOk at hok
 rw [Bool.and_eq_true] at hok
 obtain ⟨hpq,hok⟩:=hok
 have hpq:p≠q:=by simpa using hpq
 rw [List.all_eq_true] at hok
 obtain ⟨op,hop,hopr⟩:=hp
 obtain ⟨oq,hoq,hoqs,hoqx,hoqy⟩:=hq
 have hpl:p<ops.size:=(Array.getElem?_eq_some_iff.1 hop).1
 have hql:q<ops.size:=(Array.getElem?_eq_some_iff.1 hoq).1
 have hall:∀(i:Nat) (o:Oper),ops[i]?=some o→o.guard=none∧(∀e∈o.after,Region.binds .any e=true→e.on<i)∧(i=q∧o.dst=none∧(∃e∈o.after,e.on=p∧Region.binds .any e=true)∨i≠q∧o.dst=some (slot i)∧slot i<N∧(∀x∈fixed,x.1≠slot i)∧∀j,j<ops.size→j≠q→slot i=slot j→i=j):=by
  intro i o ho
  have his:i<ops.size:=(Array.getElem?_eq_some_iff.1 ho).1
  have:=hok i (List.mem_range.2 his)
  simp only [ho,Bool.and_eq_true,beq_iff_eq,decide_eq_true_eq,Option.isNone_iff_eq_none,List.all_eq_true,bne_iff_ne,ne_eq,Array.all_eq_true_iff_forall_mem,Bool.or_eq_true,List.mem_range,Array.any_eq_true',Bool.not_eq_true'] at this
  obtain ⟨⟨h1,h2⟩,h3⟩:=this
  refine ⟨h1,fun e he hbd=>(h2 e he).elim (fun h=>by rw [hbd] at h;cases h) (fun h=>h),?_⟩
  rcases h3 with ⟨⟨h3,h4⟩,h5⟩|⟨⟨⟨⟨h3,h4⟩,h5⟩,h6⟩,h8⟩
  ·exact .inl ⟨h3,h4,h5⟩
  ·refine .inr ⟨h3,h4,h5,fun x hx=>h6 x.1 (by rw [←hk];exact List.mem_map_of_mem hx),fun j hj hjq he=>?_⟩
   rcases h8 j hj with (h | h)|h
   ·exact absurd h hjq
   ·exact absurd he h
   ·exact h
 have hslp:slot p<N:=by
  rcases (hall p op hop).2.2 with ⟨h,_⟩|⟨_,_,h,_⟩
  ·exact absurd h hpq
  ·exact h
 refine wp_region_any hm (qcI (MI slot R fixed N p q te cs { w with drawn:=w.drawn+1 }) (fun i o e ho he hbd=>(hall i o ho).2.1 e he hbd) ?_ ?_ ops.size _ _ _ (by simp) (by unfold todo;exact Nat.le_trans (List.countP_le_length ..) (by simp)) ⟨ha,hN,bl,hfx,?_,?_,?_⟩)
 ·intro listed a1 w1 i o hI hs ho hno hdep
  obtain ⟨hg,hed,hcase⟩:=hall i o ho
  have his:i<listed.size:=by rw [hs];exact (Array.getElem?_eq_some_iff.1 ho).1
  unfold wpOp
  simp only [ho,Region.wanted,hg,if_true]
  refine .inl ?_
  rcases hcase with ⟨rfl,hd,e,he,hep,heb⟩|⟨hiq,hd,hsl,hfk,hinj⟩
  ·rw [hoq] at ho;cases ho
   have hlp:listed.getD p false=true:=by rw [←hep];exact hdep e he heb
   obtain ⟨b,c,hb1,hb2,hb3,hb4,_⟩:=hI.al hlp
   have hy:=hoqy a1 w1 (fun e he hbd hne hnq=>hI.rs _ hne hnq (hdep e he hbd))
   refine wp_store_row te x y hoqs b cs (by rw [hoqx];exact hb1) hy te c hb3 hi hb4 hcs ?_
   rw [hd]
   refine ⟨hI.df,hI.sz,hI.bl.trans (below_setRow bl hb2 cs),hI.fx,fun j hjp hjq hj=>?_,fun _=>?_,fun _=>?_⟩
   ·rw [getD_set_ne false (Ne.symm hjq)] at hj
    exact hperS j _ w1 b cs hI.bl (hI.rs j hjp hjq hj) hb2
   ·rw [getD_set_ne false (Ne.symm hpq)];exact hlp
   ·exact ⟨b,cs,hb1,hb2,setRow_heap _ _ _ _ _ _ hb3,rfl,fun _=>rfl⟩
  ·by_cases hip:i=p
   ·subst hip
    rw [hop] at ho;cases ho
    have hqn:listed.getD q false=false:=by
     cases h:listed.getD q false with
     | false=>rfl
     | true=>rw [hI.pq h] at hno;cases hno
    unfold Oper.wp
    rw [hopr]
    show MI slot R fixed N i q te cs _ _ (a1.put op.dst _) _
    rw [hd]
    have hba:=(Below.refl w1.heap.size w1).alloc nl (.cells z te)
    refine ⟨hI.df,by simp [Act.put,hI.sz],hI.bl.alloc hI.bl.size _,fun x hx=>?_,fun j hjp hjq hj=>?_,fun h=>?_,fun _=>?_⟩
    ·have:=hI.fx x hx
     simp only [Act.put]
     rw [←this]
     simp [Array.getElem?_setIfInBounds_ne (Ne.symm (hfk x hx))]
    ·rw [getD_set_ne false (Ne.symm hjp)] at hj
     have hjs:j<ops.size:=by
      rcases Nat.lt_or_ge j listed.size with h | h
      ·omega
      ·simp [Array.getElem?_eq_none h] at hj
     have hne:slot i≠slot j:=fun e=>hjp (hinj j hjs hjq e).symm
     simp only [Act.put]
     have:=hper j _ _ _ (hI.rs j hjp hjq hj) hba
     simpa [Array.getElem?_setIfInBounds_ne hne] using this
    ·rw [getD_set_ne false hpq] at h
     rw [hqn] at h;cases h
    ·refine ⟨w1.heap.size,z,?_,hI.bl.size,?_,hzs,fun h=>?_⟩
     ·simp only [Act.put]
      have hz:slot i<a1.tmps.size:=by rw [hI.sz];exact hsl
      simp [hz]
     ·show (w1.heap.push _)[w1.heap.size]?=_
      simp
     ·rw [getD_set_ne false hpq] at h
      rw [hqn] at h;cases h
   ·have hok:=hstep.at (P:=P) ops.toList 0 i o (by simpa using ho) (by omega) (by omega) a1 w1 hI.bl hI.fx (fun e he hbd hne hnq=>hI.rs _ hne hnq (hdep e he hbd))
    rw [Nat.zero_add] at hok
    refine hok.wp fun v w'' hp=>?_
    rw [hd]
    refine ⟨hI.df,by simp [Act.put,hI.sz],hI.bl.trans (hp.1.mono hI.bl.size),fun x hx=>?_,fun j hjp hjq hj=>?_,fun h=>?_,fun h=>?_⟩
    ·have:=hI.fx x hx
     simp only [Act.put]
     rw [←this]
     simp [Array.getElem?_setIfInBounds_ne (Ne.symm (hfk x hx))]
    ·by_cases hji:i=j
     ·subst hji
      simp only [Act.put]
      have hz:slot i<a1.tmps.size:=by rw [hI.sz];exact hsl
      simpa [hz] using hp.2
     ·rw [getD_set_ne false hji] at hj
      have hjs:j<ops.size:=by
       rcases Nat.lt_or_ge j listed.size with h | h
       ·omega
       ·simp [Array.getElem?_eq_none h] at hj
      have hne:slot i≠slot j:=fun e=>hji (hinj j hjs hjq e)
      simp only [Act.put]
      have:=hper j _ _ _ (hI.rs j hjp hjq hj) hp.1
      simpa [Array.getElem?_setIfInBounds_ne hne] using this
    ·rw [getD_set_ne false hiq] at h
     rw [getD_set_ne false hip];exact hI.pq h
    ·rw [getD_set_ne false hip] at h
     obtain ⟨b,c,hb1,hb2,hb3,hb4,hb5⟩:=hI.al h
     have hne:slot i≠slot p:=fun e=>hip (hinj p hpl hpq e)
     refine ⟨b,c,?_,hb2,?_,hb4,fun h'=>hb5 (by rw [getD_set_ne false hiq] at h';exact h')⟩
     ·simp only [Act.put]
      simpa [Array.getElem?_setIfInBounds_ne hne] using hb1
     ·rw [hp.1.block b ((Array.getElem?_eq_some_iff.1 hb3).1)];exact hb3
 ·intro listed a1 w1 hI hall'
  obtain ⟨b,c,hb1,hb2,hb3,hb4,hb5⟩:=hI.al (hall' p hpl)
  have:=hb5 (hall' q hql)
  subst this
  exact hend a1 w1 b hI.df hI.sz hI.bl hI.fx (fun j hj hjp hjq=>hI.rs j hjp hjq (hall' j hj)) hb1 hb2 hb3
 ·intro j _ _ hj;simp [Array.getElem?_replicate] at hj;split at hj<;>simp at hj
 ·intro hj;simp [Array.getElem?_replicate] at hj;split at hj<;>simp at hj
 ·intro hj;simp [Array.getElem?_replicate] at hj;split at hj<;>simp at hj
end
section
variable {P:Program} {ops:Array Oper} {Q:Exit→Act→World→Prop}
def qdf (P:Program) (slot:Nat→Nat) (R:Nat→Value→World→Prop) (fixed:List (Nat × Value)) (w0:World):Nat→List Oper→Prop
 | _,[]=>True
 | i,o :: rest=>(∀a w,Below w0.heap.size w0 w→(∀x∈fixed,a.tmps.getD x.1 undef=x.2)→(∀e∈o.after,Region.binds .any e=true→R e.on (a.tmps.getD (slot e.on) undef) w)→qbc P o a w fun v w'=>Below w.heap.size w w'∧R i v w')∧qdf P slot R fixed w0 (i+1) rest
theorem qdf.at {slot:Nat→Nat} {R:Nat→Value→World→Prop} {fixed:List (Nat × Value)} {w0:World}:∀(l:List Oper) (k i:Nat) (o:Oper),qdf P slot R fixed w0 k l→l[i]?=some o →
  ∀a w,Below w0.heap.size w0 w→(∀x∈fixed,a.tmps.getD x.1 undef=x.2)→(∀e∈o.after,Region.binds .any e=true→R e.on (a.tmps.getD (slot e.on) undef) w)→qbc P o a w fun v w'=>Below w.heap.size w w'∧R (k+i) v w':=by
 intro l
 induction l with
 | nil=>intro k i o _ hi;simp at hi
 | cons x l ih =>
  intro k i o h hi
  cases i with
  | zero =>
   simp at hi
   subst hi
   exact h.1
  | succ i =>
   have:=ih (k+1) i o h.2 (by simpa using hi)
   rw [show k+(i+1)=k+1+i by omega]
   exact this
def qjX (ops:Array Oper) (slot:Nat→Nat) (N:Nat) (keys:List Nat):Bool :=
 (List.range ops.size).all fun i=>match ops[i]? with
  | none=>true
  | some o=>o.dst == some (slot i) && decide (slot i<N) && o.guard.isNone && keys.all (fun k=>k != slot i) && o.after.all (fun e=>!Region.binds .any e || decide (e.on<i)) && (List.range ops.size).all fun j=>slot i != slot j || i == j
theorem qbq {id:Nat} {a:Act} {w:World} (hm:P.follows .mixedOrders=true) (slot:Nat→Nat) (R:Nat→Value→World→Prop) (fixed:List (Nat × Value)) (N:Nat) (keys:List Nat)
  (hok:qjX ops slot N keys=true) (hk:fixed.map Prod.fst=keys)
  (ha:a.defers=[]) (hN:a.tmps.size=N) (hfx:∀p∈fixed,a.tmps.getD p.1 undef=p.2)
  (hper:∀j v w w',R j v w→Below w.heap.size w w'→R j v w')
  (hstep:qdf P slot R fixed { w with drawn:=w.drawn+1 } 0 ops.toList)
  (hend:∀a w',a.defers=[]→a.tmps.size=N→Below w.heap.size { w with drawn:=w.drawn+1 } w'→(∀p∈fixed,a.tmps.getD p.1 undef=p.2)→(∀j,j<ops.size→R j (a.tmps.getD (slot j) undef) w')→Q .normal a w') :
  (Code.region id ops true).wp P Q a w:=by
 unfold qjX at hok
 rw [List.all_eq_true] at hok
 have hops:∀(i:Nat) (o:Oper),ops[i]?=some o→o.dst=some (slot i)∧slot i<N∧o.guard=none∧(∀x∈fixed,x.1≠slot i)∧(∀e∈o.after,Region.binds .any e=true→e.on<i)∧∀j,j<ops.size→slot i=slot j→i=j:=by
  intro i o ho
  have his:i<ops.size:=(Array.getElem?_eq_some_iff.1 ho).1
  have:=hok i (List.mem_range.2 his)
  simp only [ho,Bool.and_eq_true,beq_iff_eq,decide_eq_true_eq,Option.isNone_iff_eq_none,List.all_eq_true,bne_iff_ne,ne_eq,Array.all_eq_true_iff_forall_mem,Bool.or_eq_true,List.mem_range,Bool.not_eq_true'] at this
  obtain ⟨⟨⟨⟨⟨h1,h2⟩,h3⟩,h4⟩,h5⟩,h6⟩:=this
  refine ⟨h1,h2,h3,fun x hx=>h4 x.1 (by rw [←hk];exact List.mem_map_of_mem hx),fun e he hbd=>(h5 e he).elim (fun h=>by rw [hbd] at h;cases h) (fun h=>h),fun j hj he=>?_⟩
  rcases h6 j hj with h | h
  ·exact absurd he h
  ·exact h
 refine wp_region_any hm (qcI (RI slot R fixed N { w with drawn:=w.drawn+1 }) (fun i o e ho he hbd=>(hops i o ho).2.2.2.2.1 e he hbd) ?_ ?_ ops.size _ _ _ (by simp) (by unfold todo;exact Nat.le_trans (List.countP_le_length ..) (by simp)) ⟨ha,hN,bl,hfx,fun j hj=>by simp [Array.getElem?_replicate] at hj;split at hj<;>simp at hj⟩)
 ·intro listed a w' i o hI hs ho _ hall
  obtain ⟨h1,h2,h3,h4,h5,h6⟩:=hops i o ho
  have his:i<ops.size:=(Array.getElem?_eq_some_iff.1 ho).1
  have hok:=hstep.at (P:=P) ops.toList 0 i o (by simpa using ho) a w' hI.bl hI.fx (fun e he hbd=>hI.rs _ (hall e he hbd))
  rw [Nat.zero_add] at hok
  unfold wpOp
  simp only [ho,Region.wanted,h3,if_true]
  refine .inl (hok.wp fun v w'' hp=>?_)
  rw [h1]
  refine ⟨hI.df,by simp [Act.put,hI.sz],hI.bl.trans (hp.1.mono hI.bl.size),fun p hp'=>?_,fun j hj=>?_⟩
  ·have:=hI.fx p hp'
   simp only [Act.put]
   rw [←this]
   simp [Array.getElem?_setIfInBounds_ne (Ne.symm (h4 p hp'))]
  ·by_cases hji:i=j
   ·subst hji
    simp only [Act.put]
    have hz:slot i<a.tmps.size:=by rw [hI.sz];exact h2
    simpa [hz] using hp.2
   ·rw [getD_set_ne false hji] at hj
    have hjs:j<ops.size:=by
     rcases Nat.lt_or_ge j listed.size with h | h
     ·omega
     ·simp [Array.getElem?_eq_none h] at hj
    have hsl:slot i≠slot j:=fun e=>hji (h6 j hjs e)
    simp only [Act.put]
    have:=hper j _ _ _ (hI.rs j hj) hp.1
    simpa [Array.getElem?_setIfInBounds_ne hsl] using this
 ·intro listed a w' hI hall
  exact hend a w' hI.df hI.sz hI.bl hI.fx (fun j hj=>hI.rs j (hall j hj))
end
theorem qco (t:Array Value) (n:Nat) (h:t.size=n):t=((List.range n).map fun i=>t.getD i undef).toArray:=by
 apply Array.ext
 ·simp [h]
 ·intro i h1 h2
  simp [h1]
theorem qkJ (t:Array Value) (h:t.size=47):∃u0 u1 u2 u3 u4 u5 u6 u7 u8 u9 u10 u11 u12 u13 u14 u15 u16 u17 u18 u19 u20 u21 u22 u23 u24 u25 u26 u27 u28 u29 u30 u31 u32 u33 u34 u35 u36 u37 u38 u39 u40 u41 u42 u43 u44 u45 u46:Value,t=#[u0,u1,u2,u3,u4,u5,u6,u7,u8,u9,u10,u11,u12,u13,u14,u15,u16,u17,u18,u19,u20,u21,u22,u23,u24,u25,u26,u27,u28,u29,u30,u31,u32,u33,u34,u35,u36,u37,u38,u39,u40,u41,u42,u43,u44,u45,u46]:=⟨_,_,_,_,_,_,_,_,_,_,_,_,_,_,_,_,_,_,_,_,_,_,_,_,_,_,_,_,_,_,_,_,_,_,_,_,_,_,_,_,_,_,_,_,_,_,_,(qco t 47 h).trans rfl⟩
end Go.Proofs.YtcegdgmbponapaaGreatDoor