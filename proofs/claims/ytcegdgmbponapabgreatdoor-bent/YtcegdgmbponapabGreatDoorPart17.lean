/-
  A value is put into a vault where nothing lies.
  The pieces of an object, made new.
  The shares of an object are made new.
  Two rows of bytes that the call makes side by side, and one more.
-/
import Derived.Test.YtcegdgmbponapabGreatDoorPart16
import Derived.Test.YtcegdgmbponapabGreatDoorRepeat
namespace Go.Proofs.YtcegdgmbponapabGreatDoor
open Go.RowKit
attribute [local go_sem ↓] Go.wp_at_zero Go.wp_at_succ
theorem setCell_self {w:World} {b k:Nat} {u:Value} (h:w.cell? ⟨b,k,none⟩=some u):w.setCell ⟨b,k,none⟩ u=w:=by
 unfold World.cell? at h
 cases hb:w.heap[b]? with
 | none=>simp [hb] at h
 | some o =>
  cases o with
  | cells c t f =>
   simp [hb] at h
   rw [setCell_eq_setRow w b k c t f u hb,show c.setIfInBounds k u=c from ?_,setRow_self w b c t f hb]
   apply Array.ext_getElem?
   intro j
   rw [Array.getElem?_setIfInBounds]
   split
   ·rename_i hjk
    subst hjk
    split
    ·exact h.symm
    ·rename_i hs;rw [Array.getElem?_eq_none (by omega)]
   ·rfl
  | _=>simp [hb] at h
structure One (w:World) (base V key n B bc:Nat) (sp:Nat→Nat) (down:Nat→Bool) (mode t l size epoch:Nat) (nm:ByteArray) (P:Nat→List UInt8) (vs:Nat→Value) (xs:Nat→RecV):Prop where
 vt:∃done ahead,Vt w V key n B bc sp done false ahead false
 st:∀i,i<n→Sto w (sp i) (down i) (vs i) [xs i]
 ok:∀i,i<n→RecOk w base key mode t l n size epoch nm (P i) i (xs i)
 xi:∀i j,i<j→j<n→(xs i).blk≠(xs j).blk
 vi:∀i j,i<j→j<n→(vs i).ownBlock≠(vs j).ownBlock
 si:∀i j,i<j→j<n→sp i≠sp j
 bV:base≤V
 bB:base≤B
 bsp:∀i,i<n→base≤sp i
 bv:∀i,i<n→∀b,(vs i).ownBlock=some b→base≤b
def PutJ (W n:Nat) (sp:Nat→Nat) (xs:List RecV) (t:Nat) (w:World):Prop :=
 W≤w.heap.size∧∃vs:Nat→Value,(∀i,i<t→Sto w (sp i) false (vs i) [xs[i]!]∧∀b,(vs i).ownBlock=some b→W≤b)∧(∀i j,i<j→j<t→(vs i).ownBlock≠(vs j).ownBlock)∧∀i,t≤i→i<n→Sto w (sp i) false (.slice none 0 0) []
theorem PutJ.keeps {W V n:Nat} {sp:Nat→Nat} {xs:List RecV} {t:Nat} {w w':World} (h:PutJ W n sp xs t w) (hs:Spared (fun b=>b=V) w w') (hV:V<W) (hsp:∀i,i<n→sp i≠V) (htn:t≤n):PutJ W n sp xs t w':=by
 obtain ⟨h0,vs,h1,h2,h3⟩:=h
 refine ⟨Nat.le_trans h0 hs.size,vs,fun i hi=>⟨(h1 i hi).1.keeps hs (hsp i (by omega)) (fun b hb e=>by have:=(h1 i hi).2 b hb;omega),(h1 i hi).2⟩,h2,fun i hi hin=>(h3 i hi hin).keeps hs (hsp i hin) (fun b hb=>by cases hb)⟩
theorem RecOk.mono {w:World} {base base' key mode t l n size epoch:Nat} {nm:ByteArray} {P:List UInt8} {j:Nat} {r:RecV} (h:RecOk w base key mode t l n size epoch nm P j r) (hb:base'≤base):RecOk w base' key mode t l n size epoch nm P j r :=
 ⟨h.e,h.sn,World.ownsRow.mono h.own hb⟩
theorem split_len {mode t l n:Nat} (hp:IsPlan mode t l n) (v tape:List UInt8) (i:Nat) (hi:i<n) (htp:Cof.tsize mode t*Cof.ngroups mode t l v.length≤tape.length):((Cof.split v mode t l n tape).getD i []).length=Cof.ngroups mode t l v.length:=by
 have e:Cof.split v mode t l n tape=Cof.split v mode t l n (tape.take (Cof.tsize mode t*Cof.ngroups mode t l v.length)):=by
  unfold Cof.split
  rw [List.take_take,Nat.min_self]
 have hg:0<Cof.gsize mode t l:=by
  obtain ⟨_,_,h3,_,h5,_⟩:=hp
  unfold Cof.gsize
  split<;>omega
 rw [e,Cof.split_row v _ mode t l n i hi hg (by rw [List.length_take];omega)]
 simp
theorem own_rows {w:World} {base g n:Nat} {e:TypeId} {rows:List (List UInt8)} (F:Nat→List UInt8) (ho:OwnR w base g n e) (hr:RdRows w (some ⟨g,0,none⟩) rows) (hl:rows.length=n) :
  ∃vs,Rows w base g n 0 e F vs∧∀(j:Nat) (v:Value),vs[j]?=some v→∃a' c',v=.slice a' (rows.getD j []).length c'∧Rd w a' (bs (rows.getD j [])):=by
 obtain ⟨vs,hown⟩:=ho
 have hvl:=(block_of_owns hown).2.2
 have key:∀(j:Nat) (v:Value),vs[j]?=some v→∃a' c',v=.slice a' (rows.getD j []).length c'∧Rd w a' (bs (rows.getD j [])):=by
  intro j v hv
  have hj:j<n:=by
   rcases Nat.lt_or_ge j vs.length with h | h
   ·omega
   ·rw [List.getElem?_eq_none h] at hv;cases hv
  obtain ⟨b,o,a',c',hga,_,hc,hrd⟩:=hr.at j (by omega)
  cases hga
  rw [Nat.zero_add,hown.cellAt j (by omega),hv] at hc
  cases hc
  exact ⟨a',c',rfl,hrd⟩
 refine ⟨vs,⟨hown,fun v hv=>?_,fun j v hj=>by omega⟩,key⟩
 obtain ⟨j,hj,rfl⟩:=List.getElem_of_mem hv
 obtain ⟨a',c',h,_⟩:=key j _ (List.getElem?_eq_getElem hj)
 exact ⟨a',_,c',h⟩
theorem owns_caps {w:World} {base n size:Nat} {e:TypeId} {L:List Value} {a:Option Addr} {m c:Nat} (h:w.ownsRow base e size (.slice a m c) n L):m≤c:=by
 rcases h with ⟨_,⟨h2,_⟩|⟨g,cap,cur,h2,_,_,h5,_⟩⟩
 ·cases h2;exact Nat.le_refl _
 ·cases h2;exact h5
theorem repeat_zero (k:Nat):Lib.repeatL [0] k=List.replicate k 0:=by
 induction k with
 | zero=>rfl
 | succ k ih=>simp [Lib.repeatL,ih,List.replicate_succ]
def refState (n:Nat) (xs:Nat→RecV) (ys:List RecV) (t q:Nat):RecV :=
 if q+n<t then ((xs q).laid (ys[q]!)).turned else if q<t then (xs q).laid (ys[q]!) else xs q
def RefJ (n:Nat) (sp:Nat→Nat) (xs:Nat→RecV) (ys:List RecV) (vs:Nat→Value) (t:Nat) (w:World):Prop :=
 ∀q,q<n→Sto w (sp q) false (vs q) [refState n xs ys t q]
theorem refState_other {n:Nat} {xs:Nat→RecV} {ys:List RecV} {i q j:Nat} (hi:i<n) (hq:q<n) (hqi:q≠i) (hj:j=0∨j=1):refState n xs ys (j*n+i+1) q=refState n xs ys (j*n+i) q:=by
 have e1:(q+n<j*n+i+1)=(q+n<j*n+i):=by rcases hj with rfl | rfl<;>exact propext ⟨fun h=>by omega,fun h=>by omega⟩
 have e2:(q<j*n+i+1)=(q<j*n+i):=by rcases hj with rfl | rfl<;>exact propext ⟨fun h=>by omega,fun h=>by omega⟩
 unfold refState
 simp only [e1,e2]
theorem RefJ.keeps {n:Nat} {sp:Nat→Nat} {xs:Nat→RecV} {ys:List RecV} {vs:Nat→Value} {t V:Nat} {w w':World} (h:RefJ n sp xs ys vs t w) (hs:Spared (fun b=>b=V) w w') (hsV:∀i,i<n→sp i≠V) (hvV:∀i,i<n→(vs i).ownBlock≠some V):RefJ n sp xs ys vs t w' :=
 fun q hq=>(h q hq).keeps hs (hsV q hq) (fun b hb e=>hvV q hq (by rw [hb,e]))
theorem Rd.setCell_kind {w:World} {a:Option Addr} {cs:List Value} {g k:Nat} (hr:Rd w a cs) (u:Value) (h:∀(q:Nat) (v:Value),cs[q]?=some v→∀j,w.cell? ⟨g,j,none⟩≠some v):Rd (w.setCell ⟨g,k,none⟩ u) a cs:=by
 intro j v hj
 obtain ⟨b,o,h1,h2,h3⟩:=hr j v hj
 have hbg:b≠g:=by rintro rfl;exact h j v hj _ h3
 refine ⟨b,o,h1,by simpa using h2,?_⟩
 rw [World.cell?_of_block (Below.heap_setCell w ⟨g,k,none⟩ u b hbg)];exact h3
theorem RdRows.setCell_kind {w:World} {a:Option Addr} {rows:List (List UInt8)} {g k:Nat} (hr:RdRows w a rows) (u:Value) (h1:∀j a n c,w.cell? ⟨g,j,none⟩≠some (.slice a n c)) (h2:∀j x,w.cell? ⟨g,j,none⟩≠some (.int .u8 x)):RdRows (w.setCell ⟨g,k,none⟩ u) a rows:=by
 obtain ⟨vs,e1,e2,e3⟩:=hr
 refine ⟨vs,e1,e2.setCell_kind u (fun q v hq j hc=>?_),fun j v hj=>?_⟩
 ·obtain ⟨a',c',rfl,_⟩:=e3 q v hq
  exact h1 j _ _ _ hc
 ·obtain ⟨a',c',e4,e5⟩:=e3 j v hj
  refine ⟨a',c',e4,e5.setCell_kind u (fun q x hq i hc=>?_)⟩
  have hm:=List.mem_of_getElem? hq
  simp only [bs,List.mem_map] at hm
  obtain ⟨y,_,rfl⟩:=hm
  exact h2 i _ hc
end Go.Proofs.YtcegdgmbponapabGreatDoor
namespace Go.Proofs.YtcegdgmbponapabGreatDoor
open Go.RowKit
def Apart (v v':Value):Prop:=v.ownBlock=none∨v'.ownBlock=none∨v.ownBlock≠v'.ownBlock
theorem Apart.symm {v v':Value} (h:Apart v v'):Apart v' v:=by
 rcases h with h | h | h
 ·exact .inr (.inl h)
 ·exact .inl h
 ·exact .inr (.inr (fun e=>h e.symm))
theorem Apart.left {v v':Value} (h:Apart v v'):v.ownBlock=none∨v.ownBlock≠v'.ownBlock:=by
 rcases h with h | h | h
 ·exact .inl h
 ·cases hv:v.ownBlock with
  | none=>exact .inl rfl
  | some b=>exact .inr (by rw [h];simp)
 ·exact .inr h
structure Two (w:World) (base:Nat) (vx vy:Value) (xs ys:List UInt8):Prop where
 x:w.ownsRow base 5 1 vx xs.length (bs xs)
 y:w.ownsRow base 5 1 vy ys.length (bs ys)
 apart:Apart vx vy
theorem bs_snoc (xs:List UInt8) (a:UInt8):bs (xs++[a])=bs xs++[.int .u8 a.toNat]:=by simp [bs]
theorem Two.len {w:World} {base:Nat} {vx vy:Value} {xs ys:List UInt8} (h:Two w base vx vy xs ys):(∃a c,vx=.slice a xs.length c∧Rd w a (bs xs))∧(∃a c,vy=.slice a ys.length c∧Rd w a (bs ys)):=⟨owns_any_rd h.x,owns_any_rd h.y⟩
theorem Two.below {w w':World} {base:Nat} {vx vy:Value} {xs ys:List UInt8} (h:Two w base vx vy xs ys) (hb:Below w.heap.size w w'):Two w' base vx vy xs ys:=⟨owns_below h.x hb (Nat.le_refl _),owns_below h.y hb (Nat.le_refl _),h.apart⟩
end Go.Proofs.YtcegdgmbponapabGreatDoor