import Derived.Test.YtcegdgmbponapaaGreatDoorPart33
set_option maxRecDepth 100000
set_option maxHeartbeats 4000000
namespace Go.Proofs.YtcegdgmbponapaaGreatDoor
open Go.RowKit
attribute [local go_sem ↓] Go.wp_at_zero Go.wp_at_succ
theorem qec (a b:Option Addr) (c c' q:Nat) (A:List Ob) (w:World) (hq:q=A.length) (hl:q≤10) (hA:Rd w a (obs A)) (hB:Rd w b (obs A)) :
  Calls Tryz.prog 73 #[.slice a q c,.slice b q c'] w fun e w'=>e=.returned (.bool true)∧Below w.heap.size w w':=by
 have HA:=hid hA
 have HB:=hid hB
 have HQ:=hid hq
 clear hA hB hq
 go_enter Tryz.func73,Tryz.ntmps73
 go_wp2_with fail
 go_loopw [5] (fun u wr=>∃k:Nat,k≤q∧u=.int .i64 k∧Below w.heap.size w wr) (fun u _=>q-(intOf u).toNat)
 case atStart=>exact ⟨0,Nat.zero_le _,rfl,bl⟩
 case round =>
  obtain ⟨k,hk,rfl,hbr⟩:=hrel
  by_cases hlt:k<q
  ·have hlt':(k:Int)<(q:Int):=by omega
   have hkA:k<A.length:=by rw [←HQ.out];exact hlt
   have ha:=HA.out.below hbr nl
   have hb:=HB.out.below hbr nl
   obtain ⟨ba,oa,rfl,hla,_⟩:=ha.pos (by rw [qeJ];omega)
   obtain ⟨bb,ob,rfl,hlb,_⟩:=hb.pos (by rw [qeJ];omega)
   obtain ⟨_,a0,a1,a2,a3,a4,a5⟩:=ob_at ha k hkA
   obtain ⟨_,b0,b1,b2,b3,b4,b5⟩:=ob_at hb k hkA
   generalize (A[k]).name=nk at *
   generalize (A[k]).mode=mk at *
   generalize (A[k]).t=tk at *
   generalize (A[k]).l=lk at *
   generalize (A[k]).size=zk at *
   generalize (A[k]).epoch=ek at *
   clear ha hb hkA
   go_wp2_with fail
   go_region
   go_wp2_with fail
   go_roundw
   case rel=>exact ⟨k+1,by omega,by go_num,hbr.drew⟩
   case measure=>simp [intOf];omega
  ·have hkk:k=q:=by omega
   subst hkk
   go_wp2_with fail
   go_ret
   exact ⟨rfl,hbr⟩
theorem qjS (a b:Option Addr) (c c' q:Nat) (A B:List ByteArray) (w:World) (hq:q=A.length) (hqb:q=B.length) (hl:q≤8) (hA:Rd w a (A.map .string)) (hB:Rd w b (B.map .string)) :
  Calls Tryz.prog 110 #[.slice a q c,.slice b q c'] w fun e w'=>∃j:Nat,e=.returned (.int .i64 j)∧j≤q∧(A=B→j=0)∧Below w.heap.size w w':=by
 have HA:=hid hA
 have HB:=hid hB
 have HQ:=hid hq
 have HQB:=hid hqb
 clear hA hB hq hqb
 go_enter Tryz.func110,Tryz.ntmps110
 go_wp2_with fail
 go_loopw [5,6] (fun v u wr=>∃k j:Nat,k≤q∧u=.int .i64 k∧v=.int .i64 j∧j≤k∧(A=B→j=0)∧Below w.heap.size w wr) (fun _ u _=>q-(intOf u).toNat)
 case atStart=>exact ⟨0,0,Nat.zero_le _,rfl,rfl,Nat.le_refl _,fun _=>rfl,bl⟩
 case round =>
  obtain ⟨k,j,hk,rfl,rfl,hjk,hj0,hbr⟩:=hrel
  have HJ0:=hid hj0
  clear hj0
  by_cases hlt:k<q
  ·have hlt':(k:Int)<(q:Int):=by omega
   have ha:=HA.out.below hbr nl
   have hb:=HB.out.below hbr nl
   obtain ⟨ba,oa,rfl,hla,hca⟩:=ha.pos (by rw [List.length_map,←HQ.out];omega)
   obtain ⟨bb,ob,rfl,hlb,hcb⟩:=hb.pos (by rw [List.length_map,←HQB.out];omega)
   have k0:=hca k _ (qaQ A k (by rw [←HQ.out];exact hlt))
   have k1:=hcb k _ (qaQ B k (by rw [←HQB.out];exact hlt))
   have HAB:=hid (show A=B→A[k]! = B[k]! from fun e=>by rw [e])
   generalize A[k]! = S at *
   generalize B[k]! = T at *
   clear ha hb hca hcb
   by_cases hST:S=T
   ·subst hST
    have hne:(S.toList == S.toList)=true:=by simp
    go_wp2_with fail
    go_region
    go_wp2_with fail
    go_roundw
    case rel=>exact ⟨k+1,j,by omega,by go_num,rfl,by omega,HJ0.out,hbr.drew⟩
    case measure=>simp [intOf];omega
   ·have hne:(S.toList == T.toList)=false:=by rw [bytes_beq];simpa using hST
    have HNE:=hid (show A=B→j+1=0 from fun e=>absurd (HAB.out e) hST)
    clear hST
    go_wp2_with fail
    go_region
    go_wp2_with fail
    go_roundw
    case rel=>exact ⟨k+1,j+1,by omega,by go_num,by go_num,by omega,HNE.out,hbr.drew⟩
    case measure=>simp [intOf];omega
  ·have hkk:k=q:=by omega
   subst hkk
   go_wp2_with fail
   go_ret
   exact ⟨j,rfl,hjk,HJ0.out,hbr⟩
theorem qkf (s t:ByteArray) (p:Nat) (w:World) (hs:s.size≤5000) (hp:p+t.size≤s.size) (he:s.extract p (p+t.size)=t) :
  Calls Tryz.prog 163 #[.string s,.string t] w fun e w'=>e=.returned (.bool true)∧w'=w:=by
 have HE:=hid he
 clear he
 go_enter Tryz.func163,Tryz.ntmps163
 go_wp2_with fail
 go_loopw [5] (fun u wr=>∃k:Nat,k≤p∧u=.int .i64 k∧wr=w) (fun u _=>p+1-(intOf u).toNat)
 case atStart=>exact ⟨0,Nat.zero_le _,rfl,rfl⟩
 case round =>
  obtain ⟨k,hk,rfl,hwr⟩:=hrel
  obtain rfl:=hwr.symm
  have h1:(k:Int)+(t.size:Int)≤(s.size:Int):=by omega
  have h2:(k:Int)≤(k:Int)+(t.size:Int):=by omega
  by_cases hx:s.extract k (k+t.size)=t
  ·have hne:((s.extract k (k+t.size)).toList == t.toList)=true:=by rw [bytes_beq];simpa using hx
   clear hx
   go_wp2_with fail
   go_ret
   exact ⟨rfl,rfl⟩
  ·have hkp:k<p:=by
    rcases Nat.lt_or_eq_of_le hk with h | h
    ·exact h
    ·subst h;exact absurd HE.out hx
   have hne:((s.extract k (k+t.size)).toList == t.toList)=false:=by rw [bytes_beq];simpa using hx
   clear hx
   go_wp2_with fail
   go_roundw
   case rel=>exact ⟨k+1,by omega,by go_num,trivial⟩
   case measure=>simp [intOf];omega
def BT (t:TypeId):Prop:=t=100∨t=161∨t=147∨t=178∨t=152∨t=5
def GT (t:TypeId):Prop:=t=130∨t=4∨t=198∨t=9∨t=88∨t=87∨t=55∨t=52
theorem GT.not {t:TypeId} (h:GT t):¬BT t:=by
 unfold GT at h
 unfold BT
 rcases h with rfl | rfl | rfl | rfl | rfl | rfl | rfl | rfl<;>decide
def Ty (T:TypeId→Prop) (w:World) (base b:Nat):Prop:=base≤b∧∃cs t fz,w.heap[b]?=some (.cells cs t fz)∧T t
theorem Ty.not {T U:TypeId→Prop} {w:World} {base b:Nat} (h:Ty T w base b) {cs:Array Value} {t:TypeId} {fz:Nat × Nat} (hb:w.heap[b]?=some (.cells cs t fz)) (hu:U t) (hTU:∀t,T t→¬U t):False:=by
 obtain ⟨_,cs',t',fz',h1,h2⟩:=h
 rw [h1] at hb
 cases hb
 exact hTU _ h2 hu
theorem owns_block {w:World} {base n size:Nat} {e:TypeId} {L:List Value} {v:Value} (h:w.ownsRow base e size v n L) {b:Nat} (hb:v.ownBlock=some b):∃cs fz,w.heap[b]?=some (.cells cs e fz):=by
 rcases h.2 with ⟨h8,_⟩|⟨g,cap,cur,h8,_,h4,_⟩
 ·rw [h8] at hb;cases hb
 ·rw [h8] at hb
  cases hb
  exact ⟨_,_,h4⟩
theorem Bank.mine_ty {w:World} {L:Seat} {s:Sta} (h:Bank w L s) {b:Nat} (hb:Mine L s b):∃cs t fz,w.heap[b]?=some (.cells cs t fz)∧BT t:=by
 unfold BT
 rcases hb with rfl | ⟨i,hi,e | e⟩|⟨i,hi,r,hr,hb⟩
 ·exact ⟨_,_,_,h.vp.hp,.inr (.inl rfl)⟩
 ·rw [e];exact ⟨_,_,_,(h.st i hi).hp,.inr (.inr (.inr (.inl rfl)))⟩
 ·obtain ⟨cs,fz,h1⟩:=owns_block (h.st i hi).row e
  exact ⟨_,_,_,h1,.inr (.inr (.inr (.inr (.inl rfl))))⟩
 ·obtain ⟨_,cs,fz,h1⟩:=(h.ok i hi r hr).at hb
  exact ⟨_,_,_,h1,.inr (.inr (.inr (.inr (.inr rfl))))⟩
theorem Bank.mine_not {w:World} {L:Seat} {s:Sta} (h:Bank w L s) {b:Nat} {cs:Array Value} {t:TypeId} {fz:Nat × Nat} (hb:w.heap[b]?=some (.cells cs t fz)) (ht:GT t):¬Mine L s b:=fun hm=>by
 obtain ⟨cs',t',fz',h1,h2⟩:=h.mine_ty hm
 rw [h1] at hb
 cases hb
 exact ht.not h2
theorem Bank.keeps {own:Nat→Prop} {w w':World} {L:Seat} {s:Sta} (h:Bank w L s) (hs:qaa own w w') (ho:∀b,own b→b<w.heap.size→Ty GT w L.base b):Bank w' L s:=by
 have hs2:qaa (fun b=>own b∧b<w.heap.size) w w':=hs.monoOld fun k hk hk2=>⟨hk2,hk⟩
 have hn:∀{b cs t fz},w.heap[b]?=some (.cells cs t fz)→BT t→¬(own b∧b<w.heap.size):=fun hb ht e=>(ho _ e.1 e.2).not hb ht (fun t h=>h.not)
 obtain ⟨Lb,hL,_⟩:=h.vp.hb
 refine ⟨h.cf.keeps hs2 (hn h.cf (.inl rfl)),h.vp.keeps hs2 (hn h.vp.hp (.inr (.inl rfl))) (hn hL (.inr (.inr (.inl rfl)))),h.n1,h.n8,h.hk,fun i hi=>(h.st i hi).keeps hs2 (hn (h.st i hi).hp (.inr (.inr (.inr (.inl rfl))))) (fun b hb=>?_),h.si,h.vi,h.G.spared hs2 (fun b e=>(ho b e.1 e.2).1),h.bC,h.bV,h.bB,h.bsp,h.bv,fun i hi r hr=>(h.ok i hi r hr).keeps hs2 (fun b hb=>?_) (fun _ _=>rfl),h.ap⟩
 ·obtain ⟨cs,fz,h1⟩:=owns_block (h.st i hi).row hb
  exact hn h1 (.inr (.inr (.inr (.inr (.inl rfl)))))
 ·obtain ⟨_,cs,fz,h1⟩:=(h.ok i hi r hr).at hb
  exact hn h1 (.inr (.inr (.inr (.inr (.inr rfl)))))
theorem Bank.wd_mine {w w':World} {L:Seat} {s:Sta} (h:Bank w L s) {P n key:Nat} {dn:Nat→Bool} {dv:Value} {xs:List RObj} (hw:Wd w P n key dn dv xs) (hs:qaa (Mine L s) w w'):Wd w' P n key dn dv xs :=
 hw.spared hs fun b cs t fz hb ht=>h.mine_not hb (by unfold GT;rcases ht with h | h | h | h<;>simp [h])
def qcv (k:Nat):List Value:=[.string ⟨#[]⟩,.int .i64 0,.int .i64 0,.int .i64 0,.int .i64 (-1-(k:Int)),.int .i64 0]
def qa8 (k n:Nat):List Value:=(List.replicate n (qcv k)).flatten
theorem qb5 (k n:Nat):(qa8 k n).length=n*6:=by
 unfold qa8
 rw [List.length_flatten,List.map_replicate,List.sum_replicate_nat]
 rfl
theorem qbr (k n m:Nat):qa8 k (n+m)=qa8 k n++qa8 k m:=by
 unfold qa8
 rw [←List.replicate_append_replicate,List.flatten_append]
theorem qgp (k n i j:Nat) (hi:i<n) (hj:j<6):(qa8 k n)[i*6+j]?=(qcv k)[j]?:=by
 induction n generalizing i with
 | zero=>omega
 | succ n ih =>
  have e:qa8 k (n+1)=qcv k++qa8 k n:=by unfold qa8;rw [List.replicate_succ,List.flatten_cons]
  rw [e]
  cases i with
  | zero=>rw [Nat.zero_mul,Nat.zero_add,List.getElem?_append_left (by simpa [qcv] using hj)]
  | succ i =>
   rw [List.getElem?_append_right (by simp [qcv];omega)]
   have:(i+1)*6+j-(qcv k).length=i*6+j:=by simp [qcv];omega
   rw [this]
   exact ih i (by omega)
structure KL where
 a:Option Addr
 n:Nat
 c:Nat
def KL.v (l:KL):Value:=.slice l.a l.n l.c
def KL.Ok (w:World) (base k:Nat) (l:KL):Prop:=(∀ad,l.a=some ad→base≤ad.block∧∃cs fz,w.heap[ad.block]?=some (.cells cs 55 fz))∧Rd w l.a (qa8 k l.n)∧l.n≤13
structure Bk (w:World) (base:Nat) (ov:Value) (ls:List KL):Prop where
 row:w.ownsRow base 52 1 ov ls.length (ls.map KL.v)
 ok:∀i,i<ls.length→∃l,ls[i]?=some l∧l.Ok w base (i / 4)
theorem Rd.spared {own:Nat→Prop} {w w':World} {a:Option Addr} {cs:List Value} (h:Rd w a cs) (hs:qaa own w w') (ho:∀ad,a=some ad→¬own ad.block):Rd w' a cs:=fun k v hk=>by
 obtain ⟨b,o,e,hl,hc⟩:=h k v hk
 exact ⟨b,o,e,Nat.lt_of_lt_of_le hl hs.size,(hs.cell (a:=⟨b,o+k,none⟩) hl (ho ⟨b,o,none⟩ e)).trans hc⟩
theorem KL.Ok.spared {own:Nat→Prop} {w w':World} {base k:Nat} {l:KL} (h:l.Ok w base k) (hs:qaa own w w') (ho:∀b cs fz,base≤b→w.heap[b]?=some (.cells cs 55 fz)→l.a.map Addr.block=some b→¬own b):l.Ok w' base k:=by
 refine ⟨fun ad ha=>?_,h.2.1.spared hs fun ad ha=>?_,h.2.2⟩
 ·obtain ⟨h1,cs,fz,h2⟩:=h.1 ad ha
  exact ⟨h1,cs,fz,hs.heap h2 (ho _ _ _ h1 h2 (by rw [ha];rfl))⟩
 ·obtain ⟨h1,cs,fz,h2⟩:=h.1 ad ha
  exact ho _ _ _ h1 h2 (by rw [ha];rfl)
theorem Bk.spared {own:Nat→Prop} {w w':World} {base:Nat} {ov:Value} {ls:List KL} (h:Bk w base ov ls) (hs:qaa own w w') (ho:∀b cs t fz,w.heap[b]?=some (.cells cs t fz)→t=55∨t=52→¬own b):Bk w' base ov ls:=by
 refine ⟨qab h.row hs fun b hb=>?_,fun i hi=>?_⟩
 ·obtain ⟨cs,fz,h1⟩:=owns_block h.row hb
  exact ho _ _ _ _ h1 (.inr rfl)
 ·obtain ⟨l,hl,hk⟩:=h.ok i hi
  exact ⟨l,hl,hk.spared hs fun b cs fz _ hb _=>ho _ _ _ _ hb (.inl rfl)⟩
theorem Bk.below {w w':World} {base:Nat} {ov:Value} {ls:List KL} (h:Bk w base ov ls) (hb:Below w.heap.size w w'):Bk w' base ov ls :=
 h.spared (own:=fun _=>False) (qaa.ofBelow hb nl) fun _ _ _ _ _ _ h=>h
theorem qeg {P:Program} (w:World) (base:Nat) (t ty e:TypeId) (i:TypeInfo) (z:Value) (size bytes:Nat) (ht:P.underlying t=some (.slice e)) (hi:P.info? e=some i) (hz:i.zero=some z)
  (hsize:i.size=size) (hby:i.bytes=bytes) (hzs:z.cells.size=size) (hsz:0<size)
  (v:Value) (n:Nat) (xs:List Value) (hown:w.ownsRow base e size v n xs)
  (a:Addr) (m c:Nat) (news:List Value) (hl:news.length=m*size) (hnews:∀j u,news[j]?=some u→w.cell? (a.add j)=some u) (h1:∀u∈news,u.oneCell'=true)
  (h63:n+m≤maxLen) (hbytes:(n+m)*bytes≤140737488355328) (hbase:base≤w.heap.size) (hm:0<m) :
  ∃v' w',(Builtin.append_ #[t,t] ty #[v,.slice (some a) m c]).run P w=.ok v' w'∧w'.ownsRow base e size v' (n+m) (xs++news)∧w'.ownsRow base e size v n xs∧w.grownBy w' v.ownBlock ∧
   ((∃g cap,v=.slice (some ⟨g,0,none⟩) n cap∧v'=.slice (some ⟨g,0,none⟩) (n+m) cap)∨(v'.ownBlock=some w.heap.size∧Below w.heap.size w w')):=by
 obtain ⟨v',w',hr0,h2,h3,h4⟩:=qce (P:=P) w base t ty e i z size bytes ht hi hz hsize hby hzs hsz v n xs hown a m c news hl hnews h1 h63 hbytes hbase hm
 suffices hs:w'.ownsRow base e size v n xs∧((∃g cap,v=.slice (some ⟨g,0,none⟩) n cap∧v'=.slice (some ⟨g,0,none⟩) (n+m) cap)∨(v'.ownBlock=some w.heap.size∧Below w.heap.size w w')) from ⟨v',w',hr0,h2,hs.1,h3,hs.2⟩
 subst hsize
 subst hby
 have hsmall:n+m≤9223372036854775807:=by simp only [maxLen] at h63;omega
 rcases hown.2 with ⟨rfl,rfl⟩|⟨g,cap,cur,rfl,hbg,hg,hnc,hcm,hcs,htake⟩
 ·have hr:=run_append_nil (P:=P) w t ty e i z ht hi hz a m c news hl hnews (by omega) (by omega) (by have hb:=hbytes;simp only [Nat.zero_add] at hb;omega)
  rw [hr0] at hr
  cases hr
  exact ⟨⟨hown.1,.inl ⟨rfl,rfl⟩⟩,.inr ⟨rfl,((Below.refl w.heap.size w).drew).alloc nl _⟩⟩
 ·by_cases hroom:n+m≤cap
  ·have hfit:n*i.size+news.length≤cur.size:=by rw [hl,hcs,←Nat.add_mul];exact Nat.mul_le_mul_right _ hroom
   have hr:=run_append_room (P:=P) w t ty e i ht hi g n cap cur hg a m c news hl hnews h1 hroom hfit
   rw [hr0] at hr
   cases hr
   rcases h2.2 with ⟨h8,_⟩|⟨g',cap',cur',h8,_,hg',_,_,hcs',htake'⟩
   ·cases h8
   ·cases h8
    refine ⟨⟨hown.1,.inr ⟨g,cap,cur',rfl,hbg,hg',hnc,hcm,hcs',?_⟩⟩,.inl ⟨g,cap,rfl,rfl⟩⟩
    have h5:=congrArg (List.take (n*i.size)) htake'
    rw [List.take_take,List.take_append_of_le_length (by rw [hown.1];exact Nat.le_refl _),List.take_of_length_le (l:=xs) (by rw [hown.1];exact Nat.le_refl _)] at h5
    rw [←h5]
    congr 1
    rw [Nat.add_mul]
    omega
  ·have holds:∀j u,xs[j]?=some u→w.cell? ((⟨g,0,none⟩:Addr).add j)=some u:=hown.cells (g:=g) rfl
   have hr:=run_append_grow (P:=P) w t ty e i z ht hi hz ⟨g,0,none⟩ n cap xs hown.1 holds a m c news hl hnews (by omega) (by omega) (growslice_fits (by omega) hbytes)
   rw [hr0] at hr
   cases hr
   exact ⟨qab (own:=fun _=>False) hown (qaa.ofBelow (((Below.refl w.heap.size w).drew).alloc nl _) nl) (fun _ _ h=>h),.inr ⟨rfl,((Below.refl w.heap.size w).drew).alloc nl _⟩⟩
theorem qaT {P:Program} (w:World) {ops:Array Oper} {rest:List Oper} {o:Oper} {a:Act} {Q:Exit→Act→World→Prop}
  (hg:o.guard=none) (s x:Operand) (t:TypeId) (hop:o.op=Op.call { callee:=Callee.builtin Builtin.append,args:=#[s,x],argTypes:=#[t,t] })
  (base:Nat) (e:TypeId) (i:TypeInfo) (z:Value) (size bytes:Nat) (h1:P.underlying t=some (.slice e)) (h2:P.info? e=some i) (h3:i.zero=some z) (h4:i.size=size) (h5:i.bytes=bytes) (h6:z.cells.size=size) (h7:0<size)
  (v:Value) (n:Nat) (xs:List Value) (hs:a.eval s=v) (hown:w.ownsRow base e size v n xs) (ad:Addr) (m c:Nat) (news:List Value) (hx:a.eval x=.slice (some ad) m c) (hn:news.length=m*size)
  (hc:∀j u,news[j]?=some u→w.cell? (ad.add j)=some u) (h1c:∀u∈news,u.oneCell'=true) (h63:n+m≤maxLen) (hbytes:(n+m)*bytes≤140737488355328) (hbase:base≤w.heap.size) (hm:0<m)
  (hK:∀v' w',w'.ownsRow base e size v' (n+m) (xs++news)→w'.ownsRow base e size v n xs→w.grownBy w' v.ownBlock→((∃g cap,v=.slice (some ⟨g,0,none⟩) n cap∧v'=.slice (some ⟨g,0,none⟩) (n+m) cap)∨(v'.ownBlock=some w.heap.size∧Below w.heap.size w w'))→wpList P ops Q rest (a.put o.dst v') w') :
  wpList P ops Q (o :: rest) a w:=by
 refine wpList_plain hg fun K hK'=>?_
 obtain ⟨v',w',hrun,r1,r2,r3,r4⟩:=qeg (P:=P) w base t o.type e i z size bytes h1 h2 h3 h4 h5 h6 h7 v n xs hown ad m c news hn hc h1c h63 hbytes hbase hm
 unfold Oper.wp
 simp [execOp,hop,resolve,invoke,builtin,hs,hx,hrun,Result.andThen]
 exact hK' _ _ (hK v' w' r1 r2 r3 r4)
theorem qgN {w:World} {base n m size g cap:Nat} {e:TypeId} {xs ys:List Value} (h:w.ownsRow base e size (.slice (some ⟨g,0,none⟩) (n+m) cap) (n+m) (xs++ys)) (hx:xs.length=n*size):w.ownsRow base e size (.slice (some ⟨g,0,none⟩) n cap) n xs:=by
 rcases h.2 with ⟨h8,_⟩|⟨g',cap',cur,h8,hb,hg,hn,hm,hcs,htake⟩
 ·cases h8
 ·cases h8
  refine ⟨hx,.inr ⟨g,cap,cur,rfl,hb,hg,by omega,hm,hcs,?_⟩⟩
  have h5:=congrArg (List.take (n*size)) htake
  rw [List.take_take,List.take_append_of_le_length (by rw [hx];exact Nat.le_refl _),List.take_of_length_le (l:=xs) (by rw [hx];exact Nat.le_refl _)] at h5
  rw [←h5]
  congr 1
  rw [Nat.add_mul]
  omega
theorem qhm {w:World} {base size g n c:Nat} {e:TypeId} {xs:List Value} (h:w.ownsRow base e size (.slice (some ⟨g,0,none⟩) n c) n xs) (p:Nat) (hp:p<n) :
  ∃old,w.heap[g]?=some (.cells old e (0,0))∧p*size+size≤old.size∧∀cells:List Value,cells.length=size→(w.setRow g (old.toList.take (p*size)++cells++old.toList.drop (p*size+size)).toArray).ownsRow base e size (.slice (some ⟨g,0,none⟩) n c) n (xs.take (p*size)++cells++xs.drop (p*size+size)):=by
 obtain ⟨h1,h2 | ⟨g',cap,cur,hv,h3,h4,h5,h6,h7,h8⟩⟩:=h
 ·simp at h2
 ·cases hv
  have hpn:p*size+size≤n*size:=by rw [←Nat.succ_mul];exact Nat.mul_le_mul_right _ hp
  have hnc:n*size≤c*size:=Nat.mul_le_mul_right _ h5
  refine ⟨cur,h4,by omega,fun cells hc=>⟨by simp;omega,.inr ⟨g,c,_,rfl,h3,setRow_heap w g cur _ _ _ h4,h5,h6,?_,?_⟩⟩⟩
  ·simp
   omega
  ·rw [←h8]
   simp only [List.take_append,List.length_append,List.length_take,Array.length_toList]
   have e1:min (p*size) cur.size=p*size:=by omega
   rw [e1,hc,List.take_of_length_le (by simp;omega),List.take_of_length_le (l:=cells) (by omega),List.take_take,Nat.min_eq_left (by omega),List.drop_take]
theorem qio (k i:Nat) (L:List Value):(qa8 k i++L.drop (i*6)).take (i*6)++qcv k++(qa8 k i++L.drop (i*6)).drop (i*6+6)=qa8 k (i+1)++L.drop ((i+1)*6):=by
 rw [List.take_left' (qb5 k i),List.drop_append,qb5,qbr,List.drop_of_length_le (by rw [qb5];omega),List.nil_append,List.drop_drop]
 have e1:qa8 k 1=qcv k:=by unfold qa8;simp
 rw [e1]
 congr 2
 omega
theorem Tryz.infoLO:(Tryz.prog.info? 52).map (fun i=>(i.zero,i.size,i.bytes))=some (some (.slice none 0 0),1,24):=by kernel_rfl
theorem qee (k n:Nat) (u:Value) (h:u∈qa8 k n):u.oneCell'=true:=by
 unfold qa8 at h
 obtain ⟨l,h1,h2⟩:=List.mem_flatten.1 h
 obtain rfl:=(List.mem_replicate.1 h1).2
 unfold qcv at h2
 simp at h2
 rcases h2 with rfl | rfl | rfl | rfl<;>rfl
theorem qcQ {w w':World} {base n size:Nat} {e:TypeId} {L:List Value} {v:Value} (h:w.ownsRow base e size v n L) (hb:Below w.heap.size w w'):w'.ownsRow base e size v n L:=qab (own:=fun _=>False) h (qaa.ofBelow hb nl) (fun _ _ h=>h)
theorem qfG {w w':World} {base k m a b:Nat} {l v v':Value} (hv:w.ownsRow base 55 6 v (m+a) (qa8 k (m+a)))
  (way:(∃g cap,l=.slice (some ⟨g,0,none⟩) m cap∧v=.slice (some ⟨g,0,none⟩) (m+a) cap)∨∀x,v.ownBlock=some x→l.ownBlock≠some x) (hv':w'.ownsRow base 55 6 v' (m+b) (qa8 k m++qa8 k b)) (hgr:w.grownBy w' l.ownBlock)
  (way':(∃g cap,l=.slice (some ⟨g,0,none⟩) m cap∧v'=.slice (some ⟨g,0,none⟩) (m+b) cap)∨(v'.ownBlock=some w.heap.size∧Below w.heap.size w w')) (hab:a≤b):w'.ownsRow base 55 6 v (m+a) (qa8 k (m+a)):=by
 rcases way' with ⟨g,cap,rfl,rfl⟩|⟨_,hb⟩
 ·rcases way with ⟨g',cap',e1,rfl⟩|hap
  ·cases e1
   obtain ⟨d,rfl⟩:∃d,b=a+d:=⟨b-a,by omega⟩
   rw [←qbr,←Nat.add_assoc,qbr] at hv'
   exact qgN hv' (qb5 _ _)
  ·exact qab hv (qa5 hgr) fun x hx e=>hap x hx e
 ·exact qcQ hv hb
theorem qll {w:World} {base m a:Nat} {l v:Value} {L:List Value} (hl:w.ownsRow base 55 6 l m L) {w':World} (h:(∃g cap,l=.slice (some ⟨g,0,none⟩) m cap∧v=.slice (some ⟨g,0,none⟩) (m+a) cap)∨(v.ownBlock=some w.heap.size∧Below w.heap.size w w')) :
  (∃g cap,l=.slice (some ⟨g,0,none⟩) m cap∧v=.slice (some ⟨g,0,none⟩) (m+a) cap)∨∀x,v.ownBlock=some x→l.ownBlock≠some x:=by
 rcases h with h | ⟨h,_⟩
 ·exact .inl h
 ·refine .inr fun x hx e=>?_
  have:=(hl.lt x e).2
  rw [h] at hx
  cases hx
  omega
theorem KL.ok_of {w:World} {base k n c:Nat} {a:Option Addr} (h:w.ownsRow base 55 6 (.slice a n c) n (qa8 k n)) (hn:n≤13):KL.Ok w base k ⟨a,n,c⟩:=by
 refine ⟨fun ad ha=>?_,?_,hn⟩
 ·rcases h.2 with ⟨h1,_⟩|⟨g,cap,cur,h1,h2,h3,_⟩
  ·cases h1;cases ha
  ·cases h1
   cases ha
   exact ⟨h2,_,_,h3⟩
 ·obtain ⟨a',c',e,h3⟩:=qad h
  cases e
  exact h3
def KeepPost (w:World) (G C n key base:Nat) (wv:Value) (wr:Int) (ov lv:Value) (ls:List KL) (e:Ending) (w':World):Prop :=
 e=.returned (.tuple #[])∧∃ov' ls',ls'.length=ls.length+4∧Gm w' G C n key wv wr ov'∧Bk w' base ov' ls'∧qaa (fun b=>b=G∨ov.ownBlock=some b∨lv.ownBlock=some b) w w'
theorem qeh {w:World} {G C n key base m c:Nat} {wv ov:Value} {wr:Int} {ls:List KL} {ao:Option Addr} {L:List Value}
  (hg:Gm w G C n key wv wr ov) (hk:Bk w base ov ls) (hbz:base≤w.heap.size) (ho:w.ownsRow base 55 6 (.slice ao m c) m L) (hm:m≤10) (h4:ls.length % 4=0) (hfit:(ls.length+4)*24≤140737488355328)
  (hap:∀l∈ls,∀ad,l.a=some ad→(Value.slice ao m c).ownBlock≠some ad.block) :
  Calls Tryz.prog 74 #[.pointer (some ⟨G,9,none⟩),.slice ao m c] w fun e w'=>KeepPost w G C n key base wv wr ov (.slice ao m c) ls e w':=by
 obtain ⟨iO,hiO,ho0,ho1,ho2⟩:=info_parts Tryz.infoObj6
 obtain ⟨iT,hiT,ht0,ht1,ht2⟩:=info_parts Tryz.infoLO
 obtain ⟨oa,oc,hov,hord⟩:=qaw hk.row
 have g10:w.cell? ⟨G,10,none⟩=some (.slice oa ls.length oc):=by rw [cells_at hg,←hov];rfl
 obtain ⟨q,hq⟩:∃q,q=ls.length:=⟨_,rfl⟩
 obtain ⟨k4,hk4⟩:∃k4,k4=q / 4:=⟨_,rfl⟩
 have HG:=hid hg
 have HK:=hid hk
 have HO:=hid ho
 have HQ:=hid hq
 have HK4:=hid hk4
 have HAP:=hid hap
 have HOV:=hid hov
 have hqd:Int.tdiv (q:Int) 4=(k4:Int):=by rw [hk4];exact (Int.ofNat_tdiv q 4).symm
 have hkl:k4≤140737488355328:=by omega
 rw [←hq] at g10
 have hfq:(q+4)*24≤140737488355328:=by omega
 clear hg hk ho hq hk4 hap hov hord
 go_enter Tryz.func74,Tryz.ntmps74
 go_wp2_with fail
 obtain ⟨w1,hw1⟩:∃w1,w1=w.alloc (.cells #[.string ⟨#[]⟩,.int .i64 0,.int .i64 0,.int .i64 0,.int .i64 (-1-(k4:Int)),.int .i64 0] 55):=⟨_,rfl⟩
 obtain ⟨Mk,hMk⟩:∃Mk,Mk=w.heap.size:=⟨_,rfl⟩
 have hb01:Below w.heap.size w w1:=by rw [hw1];exact (Below.refl _ _).alloc nl _
 have hM1:w1.heap[Mk]?=some (.cells #[.string ⟨#[]⟩,.int .i64 0,.int .i64 0,.int .i64 0,.int .i64 (-1-(k4:Int)),.int .i64 0] 55):=by rw [hw1,hMk];exact alloc_at _ _
 rw [←hw1,←hMk]
 have HO1:=hid (qcQ HO.out hb01)
 have hMne:(Value.slice ao m c).ownBlock≠some Mk:=fun e=>by have:=(HO.out.lt Mk e).2;omega
 have hGne:(Value.slice ao m c).ownBlock≠some G:=qaz HO.out HG.out (by decide)
 have hGl:G<w.heap.size:=cells_lt HG.out
 have hLl:L.length=m*6:=HO.out.1
 have HMK:=hid hMk
 clear hw1 hMk
 go_loopw [5] (fun u wr=>∃k:Nat,u=.int .i64 k∧k≤m∧wr.ownsRow base 55 6 (.slice ao m c) m (qa8 k4 k++L.drop (k*6))∧qaa (fun b=>(Value.slice ao m c).ownBlock=some b) w1 wr) (fun u _=>m-(intOf u).toNat)
 case atStart=>exact ⟨0,rfl,Nat.zero_le _,HO1.out,sr⟩
 case round =>
  obtain ⟨k,rfl,hk,hown,hsp⟩:=hrel
  have hMr:wr.heap[Mk]?=some (.cells #[.string ⟨#[]⟩,.int .i64 0,.int .i64 0,.int .i64 0,.int .i64 (-1-(k4:Int)),.int .i64 0] 55):=hsp.heap hM1 hMne
  have m0:wr.cell? ⟨Mk,0,none⟩=some (.string ⟨#[]⟩):=cq hMr rfl
  have m1:wr.cell? ⟨Mk,1,none⟩=some (.int .i64 0):=cq hMr rfl
  have m2:wr.cell? ⟨Mk,2,none⟩=some (.int .i64 0):=cq hMr rfl
  have m3:wr.cell? ⟨Mk,3,none⟩=some (.int .i64 0):=cq hMr rfl
  have m4:wr.cell? ⟨Mk,4,none⟩=some (.int .i64 (-1-(k4:Int))):=cq hMr rfl
  have m5:wr.cell? ⟨Mk,5,none⟩=some (.int .i64 0):=cq hMr rfl
  have HMR:=hid hMr
  have HOWN:=hid hown
  have HSP:=hid hsp
  clear hMr hown hsp
  by_cases hlt:k<m
  ·have hk1:(k:Int)<(m:Int):=by omega
   have hk0:(0:Int)≤(k:Int):=by omega
   obtain ⟨g,c',e1,hgb,hgz⟩:=HOWN.out.form (by omega)
   have e2:ao=some ⟨g,0,none⟩:=by injection e1
   subst e2
   obtain ⟨old,hold,hle,hnew⟩:=qhm HOWN.out k hlt
   have hst:=hnew (qcv k4) rfl
   rw [qio] at hst
   have HST:=hid hst
   have HSP2:=hid (HSP.out.trans ((qb8 wr g (old.toList.take (k*6)++qcv k4++old.toList.drop (k*6+6)).toArray).mono (own':=fun b=>(Value.slice (some ⟨g,0,none⟩) m c).ownBlock=some b) fun b hb=>by rw [hb];rfl))
   clear hst hnew e1
   go_wp2_with (first | (refine qcq rfl 55 (.tmp 26) (.tmp 25) rfl g (k*6) #[.string ⟨#[]⟩,.int .i64 0,.int .i64 0,.int .i64 0,.int .i64 (-1-(k4:Int)),.int .i64 0] rfl rfl 55 old hold Tryz.cellsObj hle (by simp [Value.oneCell']) ?_;(change wpList _ _ _ _ _ (wr.setRow g (old.toList.take (k*6)++qcv k4++old.toList.drop (k*6+6)).toArray));generalize wr.setRow g (old.toList.take (k*6)++qcv k4++old.toList.drop (k*6+6)).toArray=wd at *)|fail)
   go_roundw
   case rel=>exact ⟨k+1,by go_num,hlt,HST.out,HSP2.out⟩
   case measure=>simp [intOf];omega
  ·have hk1:¬(k:Int)<(m:Int):=by omega
   have hkm:k=m:=by omega
   have hown:=HOWN.out
   rw [hkm,List.drop_of_length_le (by omega),List.append_nil] at hown
   have HL:=hid hown
   have hbr:=HSP.out.size
   have hb1:=hb01.size
   clear HOWN hown
   go_wp2_with (first
    | (at_builtin;refine qaT _ rfl (.tmp 27) (.tmp 29) 52 rfl base 55 iO (.agg #[.string ⟨#[]⟩,.int .i64 0,.int .i64 0,.int .i64 0,.int .i64 0,.int .i64 0]) 6 56 Tryz.underlying52 hiO ho0 ho1 ho2 rfl (by decide) (.slice ao m c) m (qa8 k4 m) rfl (HL.out.alloc _) ⟨wr.heap.size,0,none⟩ 1 1 (qa8 k4 1) rfl rfl (World.news_of_block (cs:=#[.string ⟨#[]⟩,.int .i64 0,.int .i64 0,.int .i64 0,.int .i64 (-1-(k4:Int)),.int .i64 0]) (t:=55) (fr:=(0,0)) (heap_alloc_new wr _)) (qee k4 1) (by unfold maxLen;omega) (by omega) (by simp;omega) (by decide) ?_;intro v2 w2 own2 l2 gr2 way2;obtain ⟨g2,c2,hv2,_,_⟩:=own2.form (by omega);subst hv2;have OWN2:=hid own2;have L2:=hid l2;have GR2:=hid gr2;have WY2:=hid way2;have SP2:=hid (((qaa.ofBelow (own:=fun b=>(Value.slice ao m c).ownBlock=some b) ((Below.refl _ _).alloc nl (.cells #[.string ⟨#[]⟩,.int .i64 0,.int .i64 0,.int .i64 0,.int .i64 (-1-(k4:Int)),.int .i64 0] 55)) (Nat.le_refl wr.heap.size))).trans (qa5 gr2));have hz2:=SP2.out.size;have hM2:=SP2.out.heap HMR.out hMne;clear own2 l2 gr2 way2;clear m0 m1 m2 m3 m4 m5;have m0:w2.cell? ⟨Mk,0,none⟩=some (.string ⟨#[]⟩):=(cq hM2 rfl);have m1:w2.cell? ⟨Mk,1,none⟩=some (.int .i64 0):=(cq hM2 rfl);have m2:w2.cell? ⟨Mk,2,none⟩=some (.int .i64 0):=(cq hM2 rfl);have m3:w2.cell? ⟨Mk,3,none⟩=some (.int .i64 0):=(cq hM2 rfl);have m4:w2.cell? ⟨Mk,4,none⟩=some (.int .i64 (-1-(k4:Int))):=(cq hM2 rfl);have m5:w2.cell? ⟨Mk,5,none⟩=some (.int .i64 0):=(cq hM2 rfl);have HM2:=hid hM2;clear hM2)
    | (at_builtin;refine qaT _ rfl (.tmp 31) (.tmp 34) 52 rfl base 55 iO (.agg #[.string ⟨#[]⟩,.int .i64 0,.int .i64 0,.int .i64 0,.int .i64 0,.int .i64 0]) 6 56 Tryz.underlying52 hiO ho0 ho1 ho2 rfl (by decide) (.slice ao m c) m (qa8 k4 m) rfl (L2.out.alloc _) ⟨w2.heap.size,0,none⟩ 2 2 (qa8 k4 2) rfl rfl (World.news_of_block (cs:=#[.string ⟨#[]⟩,.int .i64 0,.int .i64 0,.int .i64 0,.int .i64 (-1-(k4:Int)),.int .i64 0,.string ⟨#[]⟩,.int .i64 0,.int .i64 0,.int .i64 0,.int .i64 (-1-(k4:Int)),.int .i64 0]) (t:=55) (fr:=(0,0)) (heap_alloc_new w2 _)) (qee k4 2) (by unfold maxLen;omega) (by omega) (by simp;omega) (by decide) ?_;intro v3 w3 own3 l3 gr3 way3;obtain ⟨g3,c3,hv3,_,_⟩:=own3.form (by omega);subst hv3;have OWN3:=hid own3;have L3:=hid l3;have GR3:=hid gr3;have WY3:=hid way3;have SP3:=hid (((qaa.ofBelow (own:=fun b=>(Value.slice ao m c).ownBlock=some b) ((Below.refl _ _).alloc nl (.cells #[.string ⟨#[]⟩,.int .i64 0,.int .i64 0,.int .i64 0,.int .i64 (-1-(k4:Int)),.int .i64 0,.string ⟨#[]⟩,.int .i64 0,.int .i64 0,.int .i64 0,.int .i64 (-1-(k4:Int)),.int .i64 0] 55)) (Nat.le_refl w2.heap.size))).trans (qa5 gr3));have hz3:=SP3.out.size;have hM3:=SP3.out.heap HM2.out hMne;clear own3 l3 gr3 way3;clear m0 m1 m2 m3 m4 m5;have m0:w3.cell? ⟨Mk,0,none⟩=some (.string ⟨#[]⟩):=(cq hM3 rfl);have m1:w3.cell? ⟨Mk,1,none⟩=some (.int .i64 0):=(cq hM3 rfl);have m2:w3.cell? ⟨Mk,2,none⟩=some (.int .i64 0):=(cq hM3 rfl);have m3:w3.cell? ⟨Mk,3,none⟩=some (.int .i64 0):=(cq hM3 rfl);have m4:w3.cell? ⟨Mk,4,none⟩=some (.int .i64 (-1-(k4:Int))):=(cq hM3 rfl);have m5:w3.cell? ⟨Mk,5,none⟩=some (.int .i64 0):=(cq hM3 rfl);have HM3:=hid hM3;clear hM3)
    | (at_builtin;refine qaT _ rfl (.tmp 36) (.tmp 40) 52 rfl base 55 iO (.agg #[.string ⟨#[]⟩,.int .i64 0,.int .i64 0,.int .i64 0,.int .i64 0,.int .i64 0]) 6 56 Tryz.underlying52 hiO ho0 ho1 ho2 rfl (by decide) (.slice ao m c) m (qa8 k4 m) rfl (L3.out.alloc _) ⟨w3.heap.size,0,none⟩ 3 3 (qa8 k4 3) rfl rfl (World.news_of_block (cs:=#[.string ⟨#[]⟩,.int .i64 0,.int .i64 0,.int .i64 0,.int .i64 (-1-(k4:Int)),.int .i64 0,.string ⟨#[]⟩,.int .i64 0,.int .i64 0,.int .i64 0,.int .i64 (-1-(k4:Int)),.int .i64 0,.string ⟨#[]⟩,.int .i64 0,.int .i64 0,.int .i64 0,.int .i64 (-1-(k4:Int)),.int .i64 0]) (t:=55) (fr:=(0,0)) (heap_alloc_new w3 _)) (qee k4 3) (by unfold maxLen;omega) (by omega) (by simp;omega) (by decide) ?_;intro v4 w4 own4 l4 gr4 way4;obtain ⟨g4,c4,hv4,_,_⟩:=own4.form (by omega);subst hv4;have OWN4:=hid own4;have L4:=hid l4;have GR4:=hid gr4;have WY4:=hid way4;have SP4:=hid (((qaa.ofBelow (own:=fun b=>(Value.slice ao m c).ownBlock=some b) ((Below.refl _ _).alloc nl (.cells #[.string ⟨#[]⟩,.int .i64 0,.int .i64 0,.int .i64 0,.int .i64 (-1-(k4:Int)),.int .i64 0,.string ⟨#[]⟩,.int .i64 0,.int .i64 0,.int .i64 0,.int .i64 (-1-(k4:Int)),.int .i64 0,.string ⟨#[]⟩,.int .i64 0,.int .i64 0,.int .i64 0,.int .i64 (-1-(k4:Int)),.int .i64 0] 55)) (Nat.le_refl w3.heap.size))).trans (qa5 gr4));have hz4:=SP4.out.size;have hM4:=SP4.out.heap HM3.out hMne;clear own4 l4 gr4 way4;have HM4:=hid hM4;clear hM4;have SPA:=hid (show qaa (fun b=>(Value.slice ao m c).ownBlock=some b) w w4 from ((((qaa.ofBelow hb01 nl).trans HSP.out).trans SP2.out).trans SP3.out).trans SP4.out);have hG4:=SPA.out.heap HG.out hGne;have g4':w4.cell? ⟨G,10,none⟩=some (.slice oa q oc):=(by rw [cells_at hG4,HQ.out,←HOV.out];rfl);have HG4:=hid hG4;have ROW4:=hid (show w4.ownsRow base 52 1 (.slice oa q oc) q (ls.map KL.v) from (by rw [HQ.out,←HOV.out];exact qab HK.out.row SPA.out (qcH HK.out.row HO.out (by decide))));clear hG4)
    | (at_builtin;refine qaT _ rfl (.tmp 46) (.tmp 51) 83 rfl base 52 iT (.slice none 0 0) 1 24 Tryz.underlying83 hiT ht0 ht1 ht2 rfl (by decide) (.slice oa q oc) q (ls.map KL.v) rfl (ROW4.out.alloc _) ⟨w4.heap.size,0,none⟩ 4 4 [.slice ao m c,.slice (some ⟨g2,0,none⟩) (m+1) c2,.slice (some ⟨g3,0,none⟩) (m+2) c3,.slice (some ⟨g4,0,none⟩) (m+3) c4] rfl rfl (World.news_of_block (cs:=#[.slice ao m c,.slice (some ⟨g2,0,none⟩) (m+1) c2,.slice (some ⟨g3,0,none⟩) (m+2) c3,.slice (some ⟨g4,0,none⟩) (m+3) c4]) (t:=52) (fr:=(0,0)) (heap_alloc_new w4 _)) (by simp [Value.oneCell']) (by unfold maxLen;omega) (by omega) (by simp;omega) (by decide) ?_;intro v5 w5 own5 l5 gr5 way5;obtain ⟨g5,c5,hv5,_,_⟩:=own5.form (by omega);subst hv5;have OWN5:=hid own5;have SP5:=hid (((qaa.ofBelow (own:=fun b=>(Value.slice oa q oc).ownBlock=some b) ((Below.refl _ _).alloc nl (.cells #[.slice ao m c,.slice (some ⟨g2,0,none⟩) (m+1) c2,.slice (some ⟨g3,0,none⟩) (m+2) c3,.slice (some ⟨g4,0,none⟩) (m+3) c4] 52)) (Nat.le_refl w4.heap.size))).trans (qa5 gr5));have hG5:=SP5.out.heap HG4.out (qaz ROW4.out HG4.out (by decide));have g5':w5.cell? ⟨G,10,none⟩=some ov:=(cq hG5 rfl);have f5':w5.frozen? ⟨G,10,none⟩=false:=qam hG5;have HG5:=hid hG5;clear own5 l5 gr5 way5 hG5 g4')
    | fail)
   refine bodyPost_end (v:=.tuple #[]) ?_ rfl ?_
   ·simp [results,Tryz.results74,go_sem]
   have two1:w2.ownsRow base 55 6 (.slice (some ⟨g2,0,none⟩) (m+1) c2) (m+1) (qa8 k4 (m+1)):=by rw [qbr];exact OWN2.out
   have three2:w3.ownsRow base 55 6 (.slice (some ⟨g3,0,none⟩) (m+2) c3) (m+2) (qa8 k4 (m+2)):=by rw [qbr];exact OWN3.out
   have four3:w4.ownsRow base 55 6 (.slice (some ⟨g4,0,none⟩) (m+3) c4) (m+3) (qa8 k4 (m+3)):=by rw [qbr];exact OWN4.out
   have wy2:=qll (HL.out.alloc _) WY2.out
   have wy3:=qll (L2.out.alloc _) WY3.out
   have three1:=qfG (two1.alloc _) wy2 OWN3.out GR3.out WY3.out (by decide)
   have four1:=qfG (three1.alloc _) wy2 OWN4.out GR4.out WY4.out (by decide)
   have four2:=qfG (three2.alloc _) wy3 OWN4.out GR4.out WY4.out (by decide)
   have four0:=L4.out
   have hsG:qaa (fun b=>b=G) w5 (w5.setCell ⟨G,10,none⟩ (.slice (some ⟨g5,0,none⟩) (q+4) c5)):=qaa.setCell (own:=fun b=>b=G) (p:=⟨G,10,none⟩) sr rfl _
   have toEnd:∀{v:Value} {j:Nat} {l:List Value},w4.ownsRow base 55 6 v j l→(w5.setCell ⟨G,10,none⟩ (.slice (some ⟨g5,0,none⟩) (q+4) c5)).ownsRow base 55 6 v j l:=fun h =>
    have h5:=qab h SP5.out (qcH h ROW4.out (by decide))
    qab h5 hsG (fun b hb e=>qaz h5 HG5.out (by decide) (by rw [←e];exact hb))
   have hbk:ov.ownBlock=(Value.slice oa q oc).ownBlock:=by rw [HOV.out,HQ.out]
   have hspE:qaa (fun b=>b=G∨ov.ownBlock=some b∨(Value.slice ao m c).ownBlock=some b) w (w5.setCell ⟨G,10,none⟩ (.slice (some ⟨g5,0,none⟩) (q+4) c5)) :=
    ((SPA.out.mono fun b hb=>.inr (.inr hb)).trans (SP5.out.mono fun b hb=>.inr (.inl (by rw [hbk];exact hb)))).trans (hsG.mono fun b hb=>.inl hb)
   refine ⟨rfl,.slice (some ⟨g5,0,none⟩) (q+4) c5,ls++[⟨ao,m,c⟩,⟨some ⟨g2,0,none⟩,m+1,c2⟩,⟨some ⟨g3,0,none⟩,m+2,c3⟩,⟨some ⟨g4,0,none⟩,m+3,c4⟩],by simp,qan _ HG5.out,⟨?_,fun i hi=>?_⟩,hspE⟩
   ·rw [List.length_append,List.map_append,←HQ.out]
    exact qab OWN5.out hsG (fun b hb e=>qaz OWN5.out HG5.out (by decide) (by rw [←e];exact hb))
   ·rw [List.length_append] at hi
    by_cases hlt2:i<ls.length
    ·obtain ⟨l,hl,hok⟩:=HK.out.ok i hlt2
     refine ⟨l,by rw [List.getElem?_append_left hlt2];exact hl,hok.spared hspE fun b cs fz _ hb hlb=>?_⟩
     have hlm:l∈ls:=List.mem_of_getElem? hl
     rintro (e | e | e)
     ·rw [e,HG.out] at hb;cases hb
     ·exact qaz HK.out.row hb (by decide) e
     ·cases hla:l.a with
      | none=>rw [hla] at hlb;cases hlb
      | some ad =>
       rw [hla] at hlb
       exact HAP.out l hlm ad hla (by rw [e];exact hlb.symm)
    ·have hi4:i<ls.length+4:=hi
     have hdiv:i / 4=k4:=by have:=HK4.out;have:=HQ.out;omega
     rw [List.getElem?_append_right (by omega),hdiv]
     obtain ⟨j,hj⟩:∃j,j=i-ls.length:=⟨_,rfl⟩
     rw [←hj]
     match j,(show j<4 by omega) with
     | 0,_=>exact ⟨_,rfl,KL.ok_of (toEnd four0) (by omega)⟩
     | 1,_=>exact ⟨_,rfl,KL.ok_of (toEnd four1) (by omega)⟩
     | 2,_=>exact ⟨_,rfl,KL.ok_of (toEnd four2) (by omega)⟩
     | 3,_=>exact ⟨_,rfl,KL.ok_of (toEnd four3) (by omega)⟩
def qbi (y:RObj) (st:List RObj × Bool) (x:RObj):List RObj × Bool:=if !st.2 && Op.bytesLess y.ob.name.toList x.ob.name.toList then (st.1++[y,x],true) else (st.1++[x],st.2)
def qbK (y:RObj) (xs:List RObj):List RObj × Bool:=xs.foldl (qbi y) ([],false)
def plc (y:RObj) (xs:List RObj):List RObj:=if (qbK y xs).2 then (qbK y xs).1 else (qbK y xs).1++[y]
theorem qhc (y:RObj) (xs:List RObj) (k:Nat) (h:k<xs.length):qbK y (xs.take (k+1))=qbi y (qbK y (xs.take k)) (xs[k]!):=by
 unfold qbK
 rw [List.take_succ_eq_append_getElem h,List.foldl_append,getElem!_pos xs k h]
 rfl
theorem qdy (y:RObj) (xs:List RObj):(qbK y xs).1.length=xs.length+(qbK y xs).2.toNat:=by
 suffices h:∀(xs:List RObj) (st:List RObj × Bool),(xs.foldl (qbi y) st).1.length+st.2.toNat=st.1.length+xs.length+(xs.foldl (qbi y) st).2.toNat by
  have:=h xs ([],false)
  unfold qbK
  simp only [List.length_nil,Bool.toNat_false] at this
  omega
 intro xs
 induction xs with
 | nil=>intro st;rfl
 | cons x xs ih =>
  intro st
  rw [List.foldl_cons,List.length_cons]
  have h1:=ih (qbi y st x)
  have h2:(qbi y st x).1.length+st.2.toNat=st.1.length+1+(qbi y st x).2.toNat:=by
   unfold qbi
   obtain ⟨l,b⟩:=st
   cases b
   ·cases hq:Op.bytesLess y.ob.name.toList x.ob.name.toList<;>simp
   ·simp
  omega
theorem qfJ (n:Nat) (y:RObj) (u:Value) (h:u∈y.cells n):u.oneCell'=true:=by
 unfold RObj.cells at h
 simp at h
 rcases h with h | h | h | h | h | h | h<;>(rw [h];rfl)
theorem qi2 (oa:Option Addr) (m oc n:Nat) (xs:List RObj) (y:RObj) (w:World) (hm:m=xs.length) (hl:m≤10) (hrd:Rd w oa (qat n xs)) :
  Calls Tryz.prog 204 #[.slice oa m oc,.agg #[.string y.ob.name,.int .i64 y.ob.mode,.int .i64 y.ob.t,.int .i64 y.ob.l,.int .i64 y.ob.size,.int .i64 y.ob.epoch,.slice y.sa n y.sc]] w fun e w'=>∃r,e=.returned r∧w'.ownsRow w.heap.size 198 7 r (m+1) (qat n (plc y xs))∧Below w.heap.size w w':=by
 obtain ⟨iO,hiO,hO0,hO1,hO2⟩:=info_parts Tryz.infoRObj
 have HRD:=hid hrd
 have HM:=hid hm
 clear hrd hm
 have hal:=(Below.refl w.heap.size w).alloc nl (.cells #[.string y.ob.name,.int .i64 y.ob.mode,.int .i64 y.ob.t,.int .i64 y.ob.l,.int .i64 y.ob.size,.int .i64 y.ob.epoch,.slice y.sa n y.sc] 198)
 obtain ⟨w1,hw1⟩:∃w1,w1=w.alloc (.cells #[.string y.ob.name,.int .i64 y.ob.mode,.int .i64 y.ob.t,.int .i64 y.ob.l,.int .i64 y.ob.size,.int .i64 y.ob.epoch,.slice y.sa n y.sc] 198):=⟨_,rfl⟩
 have HY:=hid (show w1.heap[w.heap.size]?=some (.cells #[.string y.ob.name,.int .i64 y.ob.mode,.int .i64 y.ob.t,.int .i64 y.ob.l,.int .i64 y.ob.size,.int .i64 y.ob.epoch,.slice y.sa n y.sc] 198) from by rw [hw1];exact alloc_at _ _)
 rw [←hw1] at hal
 go_enter Tryz.func204,Tryz.ntmps204
 go_wp2_with fail
 rw [←hw1]
 clear hw1
 go_loopw [5,6,7] (fun o b u wr=>∃(k:Nat) (ys:List RObj) (bb:Bool),k≤m∧u=.int .i64 k∧b=.bool bb∧(ys,bb)=qbK y (xs.take k)∧wr.ownsRow w1.heap.size 198 7 o ys.length (qat n ys)∧Below w1.heap.size w1 wr) (fun _ _ u _=>m-(intOf u).toNat)
 case atStart=>exact ⟨0,[],false,Nat.zero_le _,rfl,rfl,rfl,World.ownsRow_nil _ _ _ _,bl⟩
 case round =>
  obtain ⟨k,ys,bb,hk,rfl,rfl,hys,hown,hbr⟩:=hrel
  have HO:=hid hown
  have HYS:=hid hys
  have hyl:ys.length≤k+1:=by
   have:=qdy y (xs.take k)
   rw [←hys,List.length_take] at this
   dsimp only at this
   have hb:=Bool.toNat_le bb
   omega
  clear hown hys
  have hb0r:=hal.trans (hbr.mono hal.size)
  by_cases hlt:k<m
  ·have hlt':(k:Int)<(m:Int):=by omega
   have hkx:k<xs.length:=by rw [←HM.out];exact hlt
   have hrdr:=HRD.out.below hb0r nl
   obtain ⟨ob,oo,rfl,hobl,_⟩:=hrdr.pos (by rw [qar];omega)
   obtain ⟨_,k0,k1,k2,k3,k4,k5,k6⟩:=qbf hrdr k hkx (xs[k]!) (getElem!_pos xs k hkx)
   have hYr:=(hbr.block w.heap.size (cells_lt HY.out)).trans HY.out
   have y0:wr.cell? ⟨w.heap.size,0,none⟩=some (.string y.ob.name):=cq hYr rfl
   clear hrdr
   obtain ⟨x,hx⟩:∃x,x=xs[k]! := ⟨_,rfl⟩
   have HSN:=hid (qhc y xs k hkx)
   rw [←hx] at k0 k1 k2 k3 k4 k5 k6 HSN
   rw [←HYS.out] at HSN
   have y1:wr.cell? ⟨w.heap.size,1,none⟩=some (.int .i64 y.ob.mode):=cq hYr rfl
   have y2:wr.cell? ⟨w.heap.size,2,none⟩=some (.int .i64 y.ob.t):=cq hYr rfl
   have y3:wr.cell? ⟨w.heap.size,3,none⟩=some (.int .i64 y.ob.l):=cq hYr rfl
   have y4:wr.cell? ⟨w.heap.size,4,none⟩=some (.int .i64 y.ob.size):=cq hYr rfl
   have y5:wr.cell? ⟨w.heap.size,5,none⟩=some (.int .i64 y.ob.epoch):=cq hYr rfl
   have y6:wr.cell? ⟨w.heap.size,6,none⟩=some (.slice y.sa n y.sc):=cq hYr rfl
   obtain ⟨bl,hbl⟩:∃bl,bl=Op.bytesLess y.ob.name.toList x.ob.name.toList:=⟨_,rfl⟩
   have HBL:=hid hbl
   have hbl':=hbl.symm
   obtain ⟨wd,hwd⟩:∃wd,wd=wr.drew:=⟨_,rfl⟩
   have hbd:Below w1.heap.size w1 wd:=by rw [hwd];exact hbr.drew
   have HOD:=hid (show wd.ownsRow w1.heap.size 198 7 u5 ys.length (qat n ys) from by rw [hwd];exact HO.out.drew)
   have HRK:=hid (show ∀w2,Below w1.heap.size w1 w2→w2.cell? ⟨ob,oo+k*7,none⟩=some (.string x.ob.name)∧w2.cell? ⟨ob,oo+k*7+1,none⟩=some (.int .i64 x.ob.mode)∧w2.cell? ⟨ob,oo+k*7+2,none⟩=some (.int .i64 x.ob.t)∧w2.cell? ⟨ob,oo+k*7+3,none⟩=some (.int .i64 x.ob.l)∧w2.cell? ⟨ob,oo+k*7+4,none⟩=some (.int .i64 x.ob.size)∧w2.cell? ⟨ob,oo+k*7+5,none⟩=some (.int .i64 x.ob.epoch)∧w2.cell? ⟨ob,oo+k*7+6,none⟩=some (.slice x.sa n x.sc) from fun w2 hb2=>(qbf (HRD.out.below (hal.trans (hb2.mono hal.size)) nl) k hkx x (hx.trans (getElem!_pos xs k hkx))).2)
   have hzd:=hbd.size
   clear hbl hYr hkx hx
   cases bb with
   | true =>
    have HSN2:=hid (show (ys++[x],true)=qbK y (xs.take (k+1)) by rw [HSN.out];rfl)
    have HRX:=hid (show qat n (ys++[x])=qat n ys++[.string x.ob.name,.int .i64 x.ob.mode,.int .i64 x.ob.t,.int .i64 x.ob.l,.int .i64 x.ob.size,.int .i64 x.ob.epoch,.slice x.sa n x.sc] by rw [qbh];rfl)
    clear y0 y1 y2 y3 y4 y5 y6 hbl'
    go_wp2_with fail
    go_region
    rw [←hwd]
    clear k0 k1 k2 k3 k4 k5 k6
    obtain ⟨k0,k1,k2,k3,k4,k5,k6⟩:=HRK.out wd hbd
    clear hwd
    go_wp2_with (first | (at_builtin;refine wpList_append_lies _ rfl (.tmp 32) (.tmp 37) 128 rfl w1.heap.size 198 iO (.agg #[.string ⟨#[]⟩,.int .i64 0,.int .i64 0,.int .i64 0,.int .i64 0,.int .i64 0,.slice none 0 0]) 7 80 Tryz.underlying128 hiO hO0 hO1 hO2 rfl (by decide) u5 _ (qat n ys) rfl (HOD.out.alloc _) ⟨wd.heap.size,0,none⟩ 1 1 [.string x.ob.name,.int .i64 x.ob.mode,.int .i64 x.ob.t,.int .i64 x.ob.l,.int .i64 x.ob.size,.int .i64 x.ob.epoch,.slice x.sa n x.sc] rfl rfl (World.news_of_block (cs:=#[.string x.ob.name,.int .i64 x.ob.mode,.int .i64 x.ob.t,.int .i64 x.ob.l,.int .i64 x.ob.size,.int .i64 x.ob.epoch,.slice x.sa n x.sc]) (t:=198) (fr:=(0,0)) (heap_alloc_new wd _)) (by simp [Value.oneCell']) (by decide) (by unfold maxLen;omega) (by omega) (by simp<;>omega) (wd.heap.size+1) (by simp) ?_;intro g5 c5 w5 hown5 hgrow5 hat5 _;have HO5:=hid hown5;have hb5:Below w1.heap.size w1 w5:=(hbd.alloc hbd.size _).grown hgrow5 (by simp<;>omega) (fun b hb=>(HOD.out.lt b hb).1);clear hown5 hgrow5 hat5)|fail)
    go_roundw
    case rel=>exact ⟨k+1,ys++[x],true,by omega,by go_num,rfl,HSN2.out,by rw [HRX.out,List.length_append];exact HO5.out,hb5⟩
    case measure=>simp [intOf];omega
   | false =>
    cases bl with
    | false =>
     have HSN2:=hid (show (ys++[x],false)=qbK y (xs.take (k+1)) by rw [HSN.out];unfold qbi;rw [←HBL.out];rfl)
     have HRX:=hid (show qat n (ys++[x])=qat n ys++[.string x.ob.name,.int .i64 x.ob.mode,.int .i64 x.ob.t,.int .i64 x.ob.l,.int .i64 x.ob.size,.int .i64 x.ob.epoch,.slice x.sa n x.sc] by rw [qbh];rfl)
     go_wp2_with fail
     go_region
     rw [←hwd]
     clear k0 k1 k2 k3 k4 k5 k6
     obtain ⟨k0,k1,k2,k3,k4,k5,k6⟩:=HRK.out wd hbd
     clear hwd
     go_wp2_with (first | (at_builtin;refine wpList_append_lies _ rfl (.tmp 32) (.tmp 37) 128 rfl w1.heap.size 198 iO (.agg #[.string ⟨#[]⟩,.int .i64 0,.int .i64 0,.int .i64 0,.int .i64 0,.int .i64 0,.slice none 0 0]) 7 80 Tryz.underlying128 hiO hO0 hO1 hO2 rfl (by decide) u5 _ (qat n ys) rfl (HOD.out.alloc _) ⟨wd.heap.size,0,none⟩ 1 1 [.string x.ob.name,.int .i64 x.ob.mode,.int .i64 x.ob.t,.int .i64 x.ob.l,.int .i64 x.ob.size,.int .i64 x.ob.epoch,.slice x.sa n x.sc] rfl rfl (World.news_of_block (cs:=#[.string x.ob.name,.int .i64 x.ob.mode,.int .i64 x.ob.t,.int .i64 x.ob.l,.int .i64 x.ob.size,.int .i64 x.ob.epoch,.slice x.sa n x.sc]) (t:=198) (fr:=(0,0)) (heap_alloc_new wd _)) (by simp [Value.oneCell']) (by decide) (by unfold maxLen;omega) (by omega) (by simp<;>omega) (wd.heap.size+1) (by simp) ?_;intro g5 c5 w5 hown5 hgrow5 hat5 _;have HO5:=hid hown5;have hb5:Below w1.heap.size w1 w5:=(hbd.alloc hbd.size _).grown hgrow5 (by simp<;>omega) (fun b hb=>(HOD.out.lt b hb).1);clear hown5 hgrow5 hat5)|fail)
     go_roundw
     case rel=>exact ⟨k+1,ys++[x],false,by omega,by go_num,rfl,HSN2.out,by rw [HRX.out,List.length_append];exact HO5.out,hb5⟩
     case measure=>simp [intOf];omega
    | true =>
     have HSN2:=hid (show (ys++[y,x],true)=qbK y (xs.take (k+1)) by rw [HSN.out];unfold qbi;rw [←HBL.out];rfl)
     have HRX:=hid (show qat n (ys++[y,x])=(qat n ys++[.string y.ob.name,.int .i64 y.ob.mode,.int .i64 y.ob.t,.int .i64 y.ob.l,.int .i64 y.ob.size,.int .i64 y.ob.epoch,.slice y.sa n y.sc])++[.string x.ob.name,.int .i64 x.ob.mode,.int .i64 x.ob.t,.int .i64 x.ob.l,.int .i64 x.ob.size,.int .i64 x.ob.epoch,.slice x.sa n x.sc] by rw [qbh,List.append_assoc];rfl)
     have HYD:=hid (show wd.heap[w.heap.size]?=_ from (hbd.block w.heap.size (cells_lt HY.out)).trans HY.out)
     go_wp2_with fail
     go_region
     rw [←hwd]
     clear k0 k1 k2 k3 k4 k5 k6 y0 y1 y2 y3 y4 y5 y6 hwd
     have y0:wd.cell? ⟨w.heap.size,0,none⟩=some (.string y.ob.name):=cq HYD.out rfl
     have y1:wd.cell? ⟨w.heap.size,1,none⟩=some (.int .i64 y.ob.mode):=cq HYD.out rfl
     have y2:wd.cell? ⟨w.heap.size,2,none⟩=some (.int .i64 y.ob.t):=cq HYD.out rfl
     have y3:wd.cell? ⟨w.heap.size,3,none⟩=some (.int .i64 y.ob.l):=cq HYD.out rfl
     have y4:wd.cell? ⟨w.heap.size,4,none⟩=some (.int .i64 y.ob.size):=cq HYD.out rfl
     have y5:wd.cell? ⟨w.heap.size,5,none⟩=some (.int .i64 y.ob.epoch):=cq HYD.out rfl
     have y6:wd.cell? ⟨w.heap.size,6,none⟩=some (.slice y.sa n y.sc):=cq HYD.out rfl
     go_wp2_with (first | (at_builtin;refine wpList_append_lies _ rfl (.tmp 28) (.tmp 30) 128 rfl w1.heap.size 198 iO (.agg #[.string ⟨#[]⟩,.int .i64 0,.int .i64 0,.int .i64 0,.int .i64 0,.int .i64 0,.slice none 0 0]) 7 80 Tryz.underlying128 hiO hO0 hO1 hO2 rfl (by decide) u5 _ (qat n ys) rfl (HOD.out.alloc _) ⟨wd.heap.size,0,none⟩ 1 1 [.string y.ob.name,.int .i64 y.ob.mode,.int .i64 y.ob.t,.int .i64 y.ob.l,.int .i64 y.ob.size,.int .i64 y.ob.epoch,.slice y.sa n y.sc] rfl rfl (World.news_of_block (cs:=#[.string y.ob.name,.int .i64 y.ob.mode,.int .i64 y.ob.t,.int .i64 y.ob.l,.int .i64 y.ob.size,.int .i64 y.ob.epoch,.slice y.sa n y.sc]) (t:=198) (fr:=(0,0)) (heap_alloc_new wd _)) (by simp [Value.oneCell']) (by decide) (by unfold maxLen;omega) (by omega) (by simp<;>omega) (wd.heap.size+1) (by simp) ?_;intro g4 c4 w4 hown4 hgrow4 hat4 _;have HO4:=hid hown4;have hb4:Below w1.heap.size w1 w4:=(hbd.alloc hbd.size _).grown hgrow4 (by simp<;>omega) (fun b hb=>(HOD.out.lt b hb).1);clear hown4 hgrow4 hat4;obtain ⟨k0,k1,k2,k3,k4,k5,k6⟩:=HRK.out w4 hb4;have hz4:=hb4.size;clear y0 y1 y2 y3 y4 y5 y6)|(at_builtin;refine wpList_append_lies _ rfl (.tmp 32) (.tmp 37) 128 rfl w1.heap.size 198 iO (.agg #[.string ⟨#[]⟩,.int .i64 0,.int .i64 0,.int .i64 0,.int .i64 0,.int .i64 0,.slice none 0 0]) 7 80 Tryz.underlying128 hiO hO0 hO1 hO2 rfl (by decide) (.slice (some ⟨g4,0,none⟩) (ys.length+1) c4) _ (qat n ys++[.string y.ob.name,.int .i64 y.ob.mode,.int .i64 y.ob.t,.int .i64 y.ob.l,.int .i64 y.ob.size,.int .i64 y.ob.epoch,.slice y.sa n y.sc]) rfl (HO4.out.alloc _) ⟨w4.heap.size,0,none⟩ 1 1 [.string x.ob.name,.int .i64 x.ob.mode,.int .i64 x.ob.t,.int .i64 x.ob.l,.int .i64 x.ob.size,.int .i64 x.ob.epoch,.slice x.sa n x.sc] rfl rfl (World.news_of_block (cs:=#[.string x.ob.name,.int .i64 x.ob.mode,.int .i64 x.ob.t,.int .i64 x.ob.l,.int .i64 x.ob.size,.int .i64 x.ob.epoch,.slice x.sa n x.sc]) (t:=198) (fr:=(0,0)) (heap_alloc_new w4 _)) (by simp [Value.oneCell']) (by decide) (by unfold maxLen;omega) (by omega) (by simp<;>omega) (w4.heap.size+1) (by simp) ?_;intro g5 c5 w5 hown5 hgrow5 hat5 _;have HO5:=hid hown5;have hb5:Below w1.heap.size w1 w5:=(hb4.alloc hb4.size _).grown hgrow5 (by simp<;>omega) (fun b hb=>(HO4.out.lt b hb).1);clear hown5 hgrow5 hat5)|fail)
     go_roundw
     case rel=>exact ⟨k+1,ys++[y,x],true,by omega,by go_num,rfl,HSN2.out,by rw [HRX.out,List.length_append];exact HO5.out,hb5⟩
     case measure=>simp [intOf];omega
  ·have hkk:k=m:=by omega
   subst hkk
   have HTK:=hid (show xs.take k=xs by rw [HM.out];exact List.take_length)
   rw [HTK.out] at HYS
   have hpl:=qdy y xs
   rw [←HYS.out] at hpl
   have HPL:=hid hpl
   have hzr:=hbr.size
   clear hpl
   cases bb with
   | true =>
    go_wp2_with fail
    go_ret
    refine ⟨_,rfl,?_,hb0r⟩
    have h1:plc y xs=ys:=by unfold plc;rw [←HYS.out];rfl
    have h2:ys.length=k+1:=by have:=HPL.out;rw [←HM.out] at this;simpa using this
    have:=HO.out
    rw [h2] at this
    rw [h1]
    exact qaf this hal.size
   | false =>
    have h2:ys.length=k:=by have:=HPL.out;rw [←HM.out] at this;simpa using this
    have HYr:=hid ((hbr.block w.heap.size (cells_lt HY.out)).trans HY.out)
    have y0:wr.cell? ⟨w.heap.size,0,none⟩=some (.string y.ob.name):=cq HYr.out rfl
    have y1:wr.cell? ⟨w.heap.size,1,none⟩=some (.int .i64 y.ob.mode):=cq HYr.out rfl
    have y2:wr.cell? ⟨w.heap.size,2,none⟩=some (.int .i64 y.ob.t):=cq HYr.out rfl
    have y3:wr.cell? ⟨w.heap.size,3,none⟩=some (.int .i64 y.ob.l):=cq HYr.out rfl
    have y4:wr.cell? ⟨w.heap.size,4,none⟩=some (.int .i64 y.ob.size):=cq HYr.out rfl
    have y5:wr.cell? ⟨w.heap.size,5,none⟩=some (.int .i64 y.ob.epoch):=cq HYr.out rfl
    have y6:wr.cell? ⟨w.heap.size,6,none⟩=some (.slice y.sa n y.sc):=cq HYr.out rfl
    have HOK:=hid (show wr.ownsRow w1.heap.size 198 7 u5 k (qat n ys) from by have:=HO.out;rw [h2] at this;exact this)
    have HFIN:=hid (show qat n (plc y xs)=qat n ys++[.string y.ob.name,.int .i64 y.ob.mode,.int .i64 y.ob.t,.int .i64 y.ob.l,.int .i64 y.ob.size,.int .i64 y.ob.epoch,.slice y.sa n y.sc] by
     have:plc y xs=ys++[y]:=by unfold plc;rw [←HYS.out];rfl
     rw [this,qbh]
     rfl)
    clear h2 hyl
    go_wp2_with (first | (at_builtin;refine wpList_append_lies _ rfl (.tmp 41) (.tmp 43) 128 rfl w1.heap.size 198 iO (.agg #[.string ⟨#[]⟩,.int .i64 0,.int .i64 0,.int .i64 0,.int .i64 0,.int .i64 0,.slice none 0 0]) 7 80 Tryz.underlying128 hiO hO0 hO1 hO2 rfl (by decide) u5 _ (qat n ys) rfl (HOK.out.alloc _) ⟨wr.heap.size,0,none⟩ 1 1 [.string y.ob.name,.int .i64 y.ob.mode,.int .i64 y.ob.t,.int .i64 y.ob.l,.int .i64 y.ob.size,.int .i64 y.ob.epoch,.slice y.sa n y.sc] rfl rfl (World.news_of_block (cs:=#[.string y.ob.name,.int .i64 y.ob.mode,.int .i64 y.ob.t,.int .i64 y.ob.l,.int .i64 y.ob.size,.int .i64 y.ob.epoch,.slice y.sa n y.sc]) (t:=198) (fr:=(0,0)) (heap_alloc_new wr _)) (by simp [Value.oneCell']) (by decide) (by unfold maxLen;omega) (by omega) (by simp<;>omega) (wr.heap.size+1) (by simp) ?_;intro g5 c5 w5 hown5 hgrow5 hat5 _;have HO5:=hid hown5;have hb5:Below w1.heap.size w1 w5:=(hbr.alloc hbr.size _).grown hgrow5 (by simp<;>omega) (fun b hb=>(HOK.out.lt b hb).1);clear hown5 hgrow5 hat5)|fail)
    go_ret
    refine ⟨_,rfl,?_,hal.trans (hb5.mono hal.size)⟩
    rw [HFIN.out]
    exact qaf HO5.out hal.size
end Go.Proofs.YtcegdgmbponapaaGreatDoor