import Derived.Test.YtcegdgmbponapaaGreatDoorProg
import Derived.WalkSpells
import Derived.WalkLawsBesides
import Derived.Laws.CopyOwn
import Derived.Laws.AppendOwnNone
import Derived.BigQuiet
namespace Cof
def tx (a:UInt8):UInt8:=if a &&& 128 == 0 then a <<< 1 else (a <<< 1)^^^27
def mulN:Nat→UInt8→UInt8→UInt8
 | 0,_,_=>0
 | n+1,a,b=>(if b &&& 1 == 1 then a else 0)^^^mulN n (tx a) (b >>> 1)
def mul (a b:UInt8):UInt8:=mulN 8 a b
def invN:Nat→UInt8→UInt8→UInt8
 | 0,p,_=>p
 | n+1,p,s=>invN n (mul p (mul s s)) (mul s s)
def inv (a:UInt8):UInt8:=invN 7 1 a
def sumRow (a b:List UInt8):List UInt8:=(List.range (max a.length b.length)).map fun i=>a.getD i 0^^^b.getD i 0
def scaleRow (r:List UInt8) (f:UInt8):List UInt8:=r.map (mul f)
def fillRow (r:List UInt8) (n:Nat):List UInt8:=(List.range n).map fun i=>r.getD i 0
def polyAt (p:List UInt8) (x:UInt8):UInt8:=p.foldr (fun c acc=>mul acc x^^^c) 0
def withRoot (p:List UInt8) (r:UInt8):List UInt8:=sumRow (0 :: p) (scaleRow p r)
def basisTo (xs:List UInt8) (one:Nat):Nat→List UInt8
 | 0=>[1]
 | k+1=>if k=one then basisTo xs one k else withRoot (basisTo xs one k) (xs.getD k 0)
def basis (xs:List UInt8) (one:Nat):List UInt8 :=
 scaleRow (basisTo xs one xs.length) (inv (polyAt (basisTo xs one xs.length) (xs.getD one 0)))
def bases (xs:List UInt8):List (List UInt8):=(List.range xs.length).map (basis xs)
def carryTo (frm:List UInt8) (rows:List (List UInt8)) (x:UInt8):Nat→List UInt8
 | 0=>[]
 | k+1=>sumRow (carryTo frm rows x k) (scaleRow (rows.getD k []) (polyAt (basis frm k) x))
def carry (frm:List UInt8) (rows:List (List UInt8)) (to:List UInt8):List (List UInt8) :=
 to.map fun x=>carryTo frm rows x rows.length
def dealRow (text:List UInt8) (width j k:Nat):List UInt8 :=
 ((List.range k).filter fun i=>i % width == j).map fun i=>text.getD i 0
def deal (text:List UInt8) (width groups:Nat):List (List UInt8) :=
 (List.range width).map fun j=>dealRow text width j (width*groups)
def run (start count:Nat):List UInt8:=(List.range count).map fun i=>UInt8.ofNat (start+i)
def groupAt (mode t l:Nat):List UInt8:=if mode=1 then run 1 t else run 128 l
def tapeAt (mode t:Nat):List UInt8:=if mode=1 then [] else run 192 (t-1)
def gsize (mode t l:Nat):Nat:=if mode=1 then t else l
def tsize (mode t:Nat):Nat:=if mode=1 then 0 else t-1
def ngroups (mode t l size:Nat):Nat:=(size+gsize mode t l-1) / gsize mode t l
def split (value:List UInt8) (mode t l n:Nat) (tape:List UInt8):List (List UInt8) :=
 carry (groupAt mode t l++tapeAt mode t)
  (deal value (gsize mode t l) (ngroups mode t l value.length)++deal (tape.take (tsize mode t*ngroups mode t l value.length)) (tsize mode t) (ngroups mode t l value.length))
  (run 1 n)
theorem all256 (p:UInt8→Bool) (h:(List.range 256).all (fun n=>p (UInt8.ofNat n))=true) (a:UInt8):p a=true:=by
 have:=List.all_eq_true.1 h a.toNat (List.mem_range.2 a.toNat_lt)
 simpa using this
theorem qjH (b c d:UInt8):(b^^^c) &&& d=(b &&& d)^^^(c &&& d):=by
 apply UInt8.toNat_inj.1
 simp [UInt8.toNat_and,UInt8.toNat_xor,Nat.and_xor_distrib_right]
theorem mulN_zero (n:Nat) (a:UInt8):mulN n a 0=0:=by
 induction n generalizing a with
 | zero=>rfl
 | succ n ih =>
  have h2:(0:UInt8) >>> 1=0:=by decide
  simp [mulN,h2,ih]
theorem bit01 (b:UInt8):b &&& 1=0∨b &&& 1=1:=by
 have:=all256 (fun b=>b &&& 1 == 0 || b &&& 1 == 1) (by decide +kernel) b
 simpa using this
theorem x4 (a b c d:UInt8):(a^^^b)^^^(c^^^d)=(a^^^c)^^^(b^^^d):=by
 rw [UInt8.xor_assoc,UInt8.xor_assoc,←UInt8.xor_assoc b c d,UInt8.xor_comm b c,UInt8.xor_assoc c b d]
theorem qkI (n:Nat) (a b c:UInt8):mulN n a (b^^^c)=mulN n a b^^^mulN n a c:=by
 induction n generalizing a b c with
 | zero=>simp [mulN]
 | succ n ih =>
  simp only [mulN,UInt8.shiftRight_xor,ih,qjH]
  rw [x4]
  congr 1
  rcases bit01 b with h | h<;>rcases bit01 c with h' | h'<;>simp [h,h']
theorem mul_add (a b c:UInt8):mul a (b^^^c)=mul a b^^^mul a c:=qkI 8 a b c
theorem mul_zero (a:UInt8):mul a 0=0:=mulN_zero 8 a
theorem one_mul (a:UInt8):mul 1 a=a:=by
 have:=all256 (fun a=>mul 1 a == a) (by decide +kernel) a
 simpa using this
theorem zero_mul (a:UInt8):mul 0 a=0:=by
 have:=all256 (fun a=>mul 0 a == 0) (by decide +kernel) a
 simpa using this
theorem length_sumRow (a b:List UInt8):(sumRow a b).length=max a.length b.length:=by simp [sumRow]
theorem length_scaleRow (a:List UInt8) (f:UInt8):(scaleRow a f).length=a.length:=by simp [scaleRow]
theorem length_fillRow (a:List UInt8) (n:Nat):(fillRow a n).length=n:=by simp [fillRow]
theorem length_withRoot (p:List UInt8) (r:UInt8):(withRoot p r).length=p.length+1:=by simp [withRoot,length_sumRow,length_scaleRow]
theorem length_run (s c:Nat):(run s c).length=c:=by simp [run]
end Cof
set_option maxRecDepth 100000
set_option maxHeartbeats 4000000
namespace Go.Proofs.YtcegdgmbponapaaGreatDoor
open Go.RowKit
theorem qbo {k:IntKind} {a b:Int} (h:a=b):Ending.returned (.int k a)=.returned (.int k b):=by rw [h]
theorem qjG (n:Nat) (h:n<256):IntKind.u8.wrap (n:Int)=n:=by
 simp [IntKind.wrap,IntKind.bits,IntKind.signed];omega
theorem qdg (a b:UInt8):bits .and .u8 (a.toNat:Int) (b.toNat:Int)=((a &&& b).toNat:Int):=by
 have ha:=a.toNat_lt;have hb:=b.toNat_lt
 have e1:BitVec.ofInt IntKind.u8.bits (a.toNat:Int)=a.toBitVec:=by
  apply BitVec.eq_of_toNat_eq;simp [IntKind.bits]
 have e2:BitVec.ofInt IntKind.u8.bits (b.toNat:Int)=b.toBitVec:=by
  apply BitVec.eq_of_toNat_eq;simp [IntKind.bits]
 simp only [bits,e1,e2]
 show IntKind.u8.wrap (((a &&& b).toNat:Nat):Int)=_
 exact qjG _ (UInt8.toNat_lt _)
theorem qaY (a b:UInt8):bits .xor .u8 (a.toNat:Int) (b.toNat:Int)=((a^^^b).toNat:Int):=by
 have e1:BitVec.ofInt IntKind.u8.bits (a.toNat:Int)=a.toBitVec:=by
  apply BitVec.eq_of_toNat_eq;simp [IntKind.bits]
 have e2:BitVec.ofInt IntKind.u8.bits (b.toNat:Int)=b.toBitVec:=by
  apply BitVec.eq_of_toNat_eq;simp [IntKind.bits]
 simp only [bits,e1,e2]
 show IntKind.u8.wrap (((a^^^b).toNat:Nat):Int)=_
 exact qjG _ (UInt8.toNat_lt _)
theorem shl1 (a:UInt8):(a.toNat:Int)*(2:Int) % (256:Int)=((a <<< 1).toNat:Int):=by
 have:=Cof.all256 (fun a=>(a.toNat*2 % 256) == (a <<< 1).toNat) (by decide +kernel) a
 simp only [beq_iff_eq] at this
 omega
theorem shr1 (a:UInt8):(a.toNat:Int) / (2:Int)=((a >>> 1).toNat:Int):=by
 have:=Cof.all256 (fun a=>(a.toNat / 2) == (a >>> 1).toNat) (by decide +kernel) a
 simp only [beq_iff_eq] at this
 omega
theorem qlr {a:UInt8} (h:(bits .and .u8 (a.toNat:Int) 128 == 0)=true):(a.toNat:Int)*(2:Int) % (256:Int)=((Cof.tx a).toNat:Int):=by
 rw [shl1]
 have h1:=qdg a 128
 have h3:((128:UInt8).toNat:Int)=128:=rfl
 rw [h3] at h1
 rw [h1,beq_iff_eq] at h
 have h2:a &&& 128=0:=by apply UInt8.toNat_inj.1;simpa using h
 simp [Cof.tx,h2]
theorem qlA {a:UInt8} (h:(bits .and .u8 (a.toNat:Int) 128 == 0)=false):bits .xor .u8 ((a.toNat:Int)*(2:Int) % (256:Int)) 27=((Cof.tx a).toNat:Int):=by
 rw [shl1]
 have h1:=qdg a 128
 have h3:((128:UInt8).toNat:Int)=128:=rfl
 have h5:=qaY (a <<< 1) 27
 have h4:((27:UInt8).toNat:Int)=27:=rfl
 rw [h3] at h1
 rw [h4] at h5
 rw [h1,beq_eq_false_iff_ne] at h
 have h2:¬a &&& 128=0:=by intro h';apply h;rw [h'];rfl
 rw [h5]
 simp [Cof.tx,h2]
theorem qi7 (a:UInt8) (w:World) :
  Calls Tryz.prog 228 #[.int .u8 a.toNat] w fun e w'=>e=.returned (.int .u8 (Cof.tx a).toNat)∧w'=w:=by
 go_enter Tryz.func228,Tryz.ntmps228
 go_wp2
 ·go_ret
  exact ⟨qbo (qlr ‹_›),rfl⟩
 ·go_ret
  exact ⟨qbo (qlA ‹_›),rfl⟩
theorem ne0 {b:UInt8} (h:b≠0):(b.toNat:Int)≠0:=by
 intro h';apply h;apply UInt8.toNat_inj.1;simpa using h'
theorem qeK {a b p m:UInt8} {n:Nat} (hn:b.toNat<2 ^ n) (hp:p^^^Cof.mulN n a b=m) (hb:b≠0) :
  ∃k,(b >>> 1).toNat<2 ^ k∧((bits .and .u8 (b.toNat:Int) (1:Int) == 1)=true→(p^^^a)^^^Cof.mulN k (Cof.tx a) (b >>> 1)=m) ∧
   ((bits .and .u8 (b.toNat:Int) (1:Int) == 1)=false→p^^^Cof.mulN k (Cof.tx a) (b >>> 1)=m):=by
 cases n with
 | zero=>exact absurd (UInt8.toNat_inj.1 (by simpa using hn)) hb
 | succ k =>
  have h1:(bits .and .u8 (b.toNat:Int) (1:Int) == 1)=(b &&& 1 == 1):=by
   have h:=qdg b 1
   have h3:((1:UInt8).toNat:Int)=1:=rfl
   rw [h3] at h
   rw [h]
   rcases Cof.bit01 b with h | h<;>rw [h]<;>rfl
  refine ⟨k,?_,?_,?_⟩
  ·have:=shr1 b;rw [Nat.pow_succ] at hn;omega
  ·intro h;rw [h1] at h;rw [←hp];simp only [Cof.mulN,h,if_true];rw [UInt8.xor_assoc]
  ·intro h;rw [h1] at h;rw [←hp];simp [Cof.mulN,h]
theorem times_any (a b:UInt8) (w:World) :
  Calls Tryz.prog 192 #[.int .u8 a.toNat,.int .u8 b.toNat] w fun e w'=>e=.returned (.int .u8 (Cof.mul a b).toNat)∧w'=w:=by
 go_enter Tryz.func192,Tryz.ntmps192
 go_wp2
 go_loop [0,1,5] (fun x y p=>∃(a' b' p':UInt8) (n:Nat),x=.int .u8 a'.toNat∧y=.int .u8 b'.toNat∧p=.int .u8 p'.toNat∧b'.toNat<2 ^ n∧p'^^^Cof.mulN n a' b'=Cof.mul a b) (fun _ y _=>(intOf y).toNat)
 case atStart=>exact ⟨a,b,0,8,rfl,rfl,rfl,b.toNat_lt,by simp [Cof.mul]⟩
 case round =>
  obtain ⟨a',b',p',n,rfl,rfl,rfl,hn,hp⟩:=hrel
  have HP:Hid _:=hp
  have HN:Hid _:=hn
  clear hp hn
  by_cases hb:b'=0
  ·subst hb
   go_wp2
   go_ret
   refine ⟨qbo ?_,rfl⟩
   rw [←HP.out,Cof.mulN_zero]
   simp
  ·have hb':=ne0 hb
   have HB:Hid _:=hb
   clear hb
   go_wp2_with (go_at_call 228;refine (qi7 _ _).mono ?_;rintro e w' ⟨rfl,rfl⟩)
   ·go_round
    case rel =>
     obtain ⟨k,k1,k2,k3⟩:=qeK HN.out HP.out HB.out
     exact ⟨_,_,_,k,rfl,by rw [shr1 b'],by rw [qaY],k1,k2 ‹_›⟩
    case measure=>simp [intOf];omega
   ·go_round
    case rel =>
     obtain ⟨k,k1,k2,k3⟩:=qeK HN.out HP.out HB.out
     exact ⟨_,_,_,k,rfl,by rw [shr1 b'],rfl,k1,k3 ‹_›⟩
    case measure=>simp [intOf];omega
theorem qhw (a:UInt8) (w:World) :
  Calls Tryz.prog 227 #[.int .u8 a.toNat] w fun e w'=>e=.returned (.int .u8 (Cof.inv a).toNat)∧w'=w:=by
 go_enter Tryz.func227,Tryz.ntmps227
 go_wp2
 go_loop [3,4,6] (fun x y i=>∃(p s:UInt8) (k:Nat),k≤7∧x=.int .u8 p.toNat∧y=.int .u8 s.toNat∧i=.int .i64 k∧Cof.invN (7-k) p s=Cof.inv a) (fun _ _ i=>7-(intOf i).toNat)
 case atStart=>exact ⟨1,a,0,by omega,rfl,rfl,rfl,rfl⟩
 case round =>
  obtain ⟨p,s,k,hk,rfl,rfl,rfl,hp⟩:=hrel
  have HP:Hid _:=hp
  clear hp
  by_cases hlt:k<7
  ·go_wp2_with (go_at_call 192;refine (times_any _ _ _).mono ?_;rintro e w' ⟨rfl,rfl⟩)
   go_round
   case rel =>
    refine ⟨_,_,k+1,by omega,rfl,rfl,by go_num,?_⟩
    rw [←HP.out,show 7-k=(7-(k+1))+1 from by omega]
    rfl
   case measure=>simp [intOf];omega
  ·have:k=7:=by omega
   subst this
   go_wp2
   go_ret
   exact ⟨qbo (by rw [←HP.out];rfl),rfl⟩
theorem hid {p:Prop} (h:p):Hid p:=h
theorem nl{n:Nat}:n≤n:=Nat.le_refl n
theorem bl{B:Nat}{w:World}:Below B w w:=Below.refl B w
def bs (xs:List UInt8):List Value:=xs.map fun x=>.int .u8 x.toNat
theorem qag (xs:List UInt8):(bs xs).length=xs.length:=by simp [bs]
theorem qaX (xs:List UInt8) (k:Nat) (h:k<xs.length):(bs xs)[k]?=some (.int .u8 (xs.getD k 0).toNat):=by
 simp [bs,h]
theorem qcJ (xs:List UInt8) (u:Value) (h:u∈bs xs):u.oneCell'=true:=by
 simp only [bs,List.mem_map] at h
 obtain ⟨x,_,rfl⟩:=h
 rfl
def Rd (w:World) (a:Option Addr) (cs:List Value):Prop :=
 ∀k v,cs[k]?=some v→∃b o,a=some ⟨b,o,none⟩∧b<w.heap.size∧w.cell? ⟨b,o+k,none⟩=some v
theorem qaW (b o j:Nat):(⟨b,o,none⟩:Addr).add j=⟨b,o+j,none⟩:=by
 unfold Addr.add
 split
 ·rename_i h;subst h;rfl
 ·rfl
theorem Rd.nil (w:World) (a:Option Addr):Rd w a []:=by intro k v h;simp at h
theorem Rd.below {B:Nat} {w w':World} {a:Option Addr} {cs:List Value} (h:Rd w a cs) (hb:Below B w w') (hB:w.heap.size≤B):Rd w' a cs:=by
 intro k v hk
 obtain ⟨b,o,h1,h2,h3⟩:=h k v hk
 exact ⟨b,o,h1,Nat.lt_of_lt_of_le h2 hb.size,by rw [hb.cell (by exact Nat.lt_of_lt_of_le h2 hB)];exact h3⟩
theorem Rd.pos {w:World} {a:Option Addr} {cs:List Value} (h:Rd w a cs) (h0:0<cs.length) :
  ∃b o,a=some ⟨b,o,none⟩∧b<w.heap.size∧∀k v,cs[k]?=some v→w.cell? ⟨b,o+k,none⟩=some v:=by
 obtain ⟨b,o,h1,h2,_⟩:=h 0 _ (List.getElem?_eq_getElem h0)
 refine ⟨b,o,h1,h2,fun k v hk=>?_⟩
 obtain ⟨b',o',h1',_,h3⟩:=h k v hk
 rw [h1] at h1'
 simp at h1'
 obtain ⟨rfl,rfl⟩:=h1'
 exact h3
theorem qbn {w:World} {base g n:Nat} {e:TypeId} {L:List Value} (h:w.heap[g]?=some (.cells L.toArray e)) (hb:base≤g) (hn:L.length=n) (hm:n≤maxLen) :
  w.ownsRow base e 1 (.slice (some ⟨g,0,none⟩) n n) n L:=by
 refine ⟨by omega,Or.inr ⟨g,n,L.toArray,rfl,hb,h,Nat.le_refl _,hm,by simp [hn],?_⟩⟩
 simp [←hn]
theorem qap {w:World} {base g n:Nat} {e:TypeId} {L:List Value} (h:w.ownsRow base e 1 (.slice (some ⟨g,0,none⟩) n n) n L) :
  w.heap[g]?=some (.cells L.toArray e)∧base≤g∧L.length=n:=by
 obtain ⟨h1,h2⟩:=h
 rcases h2 with ⟨h2,_⟩|⟨g',cap,cur,h2,h3,h4,h5,h6,h7,h8⟩
 ·simp at h2
 ·simp at h2
  obtain ⟨rfl,rfl⟩:=h2
  have:cur.toList=L:=by rw [←h8,List.take_of_length_le];simp [h7]
  refine ⟨?_,h3,by omega⟩
  rw [h4,←this]
theorem qaC {w:World} {base g n cap:Nat} {e:TypeId} {L:List Value} (h:w.ownsRow base e 1 (.slice (some ⟨g,0,none⟩) n cap) n L):Rd w (some ⟨g,0,none⟩) L:=by
 intro k v hk
 have hl:L.length=n:=by have:=h.1;omega
 have hkl:k<L.length:=by
  rcases Nat.lt_or_ge k L.length with h' | h'
  ·exact h'
  ·rw [List.getElem?_eq_none h'] at hk;simp at hk
 refine ⟨g,0,rfl,(h.lt g rfl).2,?_⟩
 have:=h.cellAt k (by omega)
 rw [Nat.zero_add,this,hk]
theorem qaw {w:World} {base n:Nat} {e:TypeId} {L:List Value} {v:Value} (h:w.ownsRow base e 1 v n L):∃a cap,v=.slice a n cap∧Rd w a L:=by
 have h0:=h
 obtain ⟨h1,h2⟩:=h
 rcases h2 with ⟨h2,h3⟩|⟨g',cap,cur,h2,h3,h4,h5,h6,h7,h8⟩
 ·subst h3
  have:L=[]:=List.length_eq_zero_iff.1 (by omega)
  subst this
  exact ⟨none,0,h2,Rd.nil _ _⟩
 ·subst h2
  exact ⟨_,cap,rfl,qaC h0⟩
theorem Tryz.info5:(Tryz.prog.info? 5).map (fun i=>(i.zero,i.size,i.bytes))=some (some (.int .u8 0),1,1):=by kernel_rfl
theorem Tryz.infoE:(Tryz.prog.info? 170).map (fun i=>(i.zero,i.size,i.bytes))=some (some (.int .u8 0),1,1):=by kernel_rfl
theorem Tryz.size5:(Tryz.prog.info? 5).map (fun x=>x.size)=some 1:=by kernel_rfl
theorem Tryz.sizeE:(Tryz.prog.info? 170).map (fun x=>x.size)=some 1:=by kernel_rfl
theorem qej (xs:List UInt8) (n:Nat):splice (List.replicate n (Value.int .u8 0)) 0 (bs (xs.take n))=bs (Cof.fillRow xs n):=by
 apply List.ext_getElem?
 intro k
 simp only [splice,List.take_zero,List.nil_append,Nat.zero_add]
 by_cases hk:k<n
 ·by_cases hx:k<xs.length
  ·have h1:k<(bs (xs.take n)).length:=by simp [bs];omega
   rw [List.getElem?_append_left h1,qaX _ _ (by simp [bs] at h1;simp;omega),qaX _ _ (by simp [Cof.fillRow];exact hk)]
   simp [Cof.fillRow,hk,hx]
  ·have h1:(bs (xs.take n)).length≤k:=by simp [bs];omega
   rw [List.getElem?_append_right h1,qaX _ _ (by simp [Cof.fillRow];exact hk)]
   have h2:xs[k]?=none:=List.getElem?_eq_none (by omega)
   simp only [qag,List.length_take] at h1 ⊢
   simp [Cof.fillRow,hk,h2,List.getElem?_replicate]
   omega
 ·rw [List.getElem?_eq_none (by simp [qag];omega),List.getElem?_eq_none (by simp [qag,Cof.length_fillRow];omega)]
def qaO (F:Nat→UInt8) (Z:List UInt8) (n k:Nat):List UInt8:=(List.range n).map fun i=>if i<k then F i else Z.getD i 0
theorem qcy (F:Nat→UInt8) (Z:List UInt8) (n k:Nat):(qaO F Z n k).length=n:=by simp [qaO]
theorem qbg (F:Nat→UInt8) (Z:List UInt8) (n:Nat) (h:Z.length=n):qaO F Z n 0=Z:=by
 apply List.ext_getElem
 ·simp [qaO,h]
 ·intro i h1 h2
  simp [qaO,h2]
theorem qdt (F:Nat→UInt8) (Z:List UInt8) (n:Nat):qaO F Z n n=(List.range n).map F:=by
 apply List.map_congr_left
 intro i hi
 simp [List.mem_range.1 hi]
theorem qkc (F:Nat→UInt8) (Z:List UInt8) (n k:Nat):(bs (qaO F Z n k)).set k (.int .u8 (F k).toNat)=bs (qaO F Z n (k+1)):=by
 apply List.ext_getElem
 ·simp [qaO,bs]
 ·intro i h1 h2
  simp only [List.getElem_set]
  split
  ·rename_i h;subst h
   simp [bs,qaO]
  ·rename_i h
   simp only [bs,qaO,List.getElem_map,List.getElem_range]
   by_cases hi:i<k
   ·simp [hi,show i<k+1 from by omega]
   ·simp [hi,show ¬i<k+1 from by omega]
theorem qle (F:Nat→UInt8) (Z:List UInt8) (n k j:Nat) (h1:k≤j) (h2:j<n):(bs (qaO F Z n k))[j]?=some (.int .u8 (Z.getD j 0).toNat):=by
 rw [qaX _ _ (by rw [qcy];exact h2)]
 simp [qaO,h2,show ¬j<k from by omega]
theorem qbu {w:World} {base g n k:Nat} {e:TypeId} {F:Nat→UInt8} {Z:List UInt8} {u:UInt8} (h:w.ownsRow base e 1 (.slice (some ⟨g,0,none⟩) n n) n (bs (qaO F Z n k))) (hu:u=F k) :
  (w.setCell ⟨g,k,none⟩ (.int .u8 u.toNat)).ownsRow base e 1 (.slice (some ⟨g,0,none⟩) n n) n (bs (qaO F Z n (k+1))):=by
 rw [←qkc,←hu]
 exact (h.stored k _).1
theorem row_next {w:World} {base g n k:Nat} {e:TypeId} {F:Nat→UInt8} {Z:List UInt8} (h:w.ownsRow base e 1 (.slice (some ⟨g,0,none⟩) n n) n (bs (qaO F Z n k))) (hk:k<n) :
  w.cell? ⟨g,k,none⟩=some (.int .u8 (Z.getD k 0).toNat):=by
 rw [h.cellAt k (by omega),qle _ _ _ _ _ (Nat.le_refl _) hk]
theorem qi4 {w:World} {g:Nat} {L:List Value} {e:TypeId} (h:w.heap[g]?=some (.cells L.toArray e)) (j:Nat) (v:Value) (hv:w.cell? ⟨g,j,none⟩=some v):L[j]?=some v:=by
 simp [World.cell?,h] at hv
 exact hv
theorem Rd.setCell_other {w:World} {a:Option Addr} {xs:List UInt8} {g k:Nat} {L:List Value} {e:TypeId} (hr:Rd w a (bs xs)) (h:w.heap[g]?=some (.cells L.toArray e))
  (hL:∀v∈L,∃a n c,v=.slice a n c) (u:Value):Rd (w.setCell ⟨g,k,none⟩ u) a (bs xs):=by
 intro j v hj
 obtain ⟨b,o,h1,h2,h3⟩:=hr j v hj
 have hbg:b≠g:=by
  rintro rfl
  have:=qi4 h _ _ h3
  obtain ⟨a',n,c,hv⟩:=hL v (List.mem_of_getElem? this)
  simp only [bs,List.getElem?_map] at hj
  cases hx:xs[j]? with
  | none=>simp [hx] at hj
  | some x=>simp [hx] at hj;rw [←hj] at hv;cases hv
 refine ⟨b,o,h1,?_,?_⟩
 ·have:(w.setCell ⟨g,k,none⟩ u).heap.size=w.heap.size:=by simp
  omega
 ·rw [World.cell?_of_block (Below.heap_setCell w ⟨g,k,none⟩ u b hbg)];exact h3
def qaE (w:World) (a:Option Addr) (rows:List (List UInt8)):Prop :=
 ∃vs:List Value,vs.length=rows.length∧Rd w a vs∧∀(k:Nat) (v:Value),vs[k]?=some v→∃a' cap',v=.slice a' (rows.getD k []).length cap'∧Rd w a' (bs (rows.getD k []))
theorem qaE.below {B:Nat} {w w':World} {a:Option Addr} {rows:List (List UInt8)} (h:qaE w a rows) (hb:Below B w w') (hB:w.heap.size≤B):qaE w' a rows:=by
 obtain ⟨vs,h1,h2,h3⟩:=h
 refine ⟨vs,h1,h2.below hb hB,fun k v hk=>?_⟩
 obtain ⟨a',cap',h4,h5⟩:=h3 k v hk
 exact ⟨a',cap',h4,h5.below hb hB⟩
theorem qaE.at {w:World} {a:Option Addr} {rows:List (List UInt8)} (h:qaE w a rows) (k:Nat) (hk:k<rows.length) :
  ∃b o a' cap',a=some ⟨b,o,none⟩∧b<w.heap.size∧w.cell? ⟨b,o+k,none⟩=some (.slice a' (rows.getD k []).length cap')∧Rd w a' (bs (rows.getD k [])):=by
 obtain ⟨vs,h1,h2,h3⟩:=h
 obtain ⟨v,hv⟩:∃v,vs[k]?=some v:=⟨_,List.getElem?_eq_getElem (by omega)⟩
 obtain ⟨b,o,e1,e2,e3⟩:=h2 k v hv
 obtain ⟨a',cap',e4,e5⟩:=h3 k v hv
 subst e4
 exact ⟨b,o,a',cap',e1,e2,e3,e5⟩
structure Rows (w:World) (base g n k:Nat) (e:TypeId) (rows:Nat→List UInt8) (vs:List Value):Prop where
 own:w.ownsRow base e 1 (.slice (some ⟨g,0,none⟩) n n) n vs
 shape:∀v∈vs,∃a l c,v=.slice a l c
 done:∀(j:Nat) (v:Value),j<k→vs[j]?=some v→∃a' cap',v=.slice a' (rows j).length cap'∧Rd w a' (bs (rows j))
theorem Rows.next {w:World} {base g n k:Nat} {e:TypeId} {rows:Nat→List UInt8} {vs:List Value} (h:Rows w base g n k e rows vs) {a:Option Addr} {l cap:Nat}
  (hl:l=(rows k).length) (hr:Rd w a (bs (rows k))):Rows (w.setCell ⟨g,k,none⟩ (.slice a l cap)) base g n (k+1) e rows (vs.set k (.slice a l cap)):=by
 have hb:=(qap h.own).1
 refine ⟨(h.own.stored k _).1,?_,?_⟩
 ·intro v hv
  rcases List.mem_or_eq_of_mem_set hv with hv | hv
  ·exact h.shape v hv
  ·exact ⟨_,_,_,hv⟩
 ·intro j v hj hv
  rw [List.getElem?_set] at hv
  split at hv
  ·rename_i hkj
   subst hkj
   split at hv
   ·simp at hv;subst hv
    exact ⟨a,cap,by rw [hl],hr.setCell_other hb h.shape _⟩
   ·simp at hv
  ·obtain ⟨a',cap',h1,h2⟩:=h.done j v (by omega) hv
   exact ⟨a',cap',h1,h2.setCell_other hb h.shape _⟩
theorem Rows.kept {w w':World} {base g n k B:Nat} {e:TypeId} {rows:Nat→List UInt8} {vs:List Value} (h:Rows w base g n k e rows vs) (hb:Below B w w') (hB:w.heap.size≤B):Rows w' base g n k e rows vs:=by
 have hg:=h.own.lt g rfl
 obtain ⟨b1,b2,b3⟩:=qap h.own
 refine ⟨qbn (by rw [hb.block g (by omega)];exact b1) b2 b3 ?_,h.shape,fun j v hj hv=>?_⟩
 ·obtain ⟨_,h2 | ⟨_,cap,_,h3,_,_,h6,h7,_⟩⟩:=h.own
  ·simp at h2
  ·exact Nat.le_trans h6 h7
 ·obtain ⟨a',cap',h1,h2⟩:=h.done j v hj hv
  exact ⟨a',cap',h1,h2.below hb hB⟩
theorem Rows.cell {w:World} {base g n k:Nat} {e:TypeId} {rows:Nat→List UInt8} {vs:List Value} (h:Rows w base g n k e rows vs) (j:Nat) (hj:j<n):∃a l c,w.cell? ⟨g,j,none⟩=some (.slice a l c):=by
 have hl:=(qap h.own).2.2
 obtain ⟨v,hv⟩:∃v,vs[j]?=some v:=⟨_,List.getElem?_eq_getElem (by omega)⟩
 obtain ⟨a,l,c,rfl⟩:=h.shape v (List.mem_of_getElem? hv)
 exact ⟨a,l,c,by rw [h.own.cellAt j (by omega)];exact hv⟩
theorem Rows.full {w:World} {base g n:Nat} {e:TypeId} {rows:Nat→List UInt8} {vs:List Value} (h:Rows w base g n n e rows vs):qaE w (some ⟨g,0,none⟩) ((List.range n).map rows):=by
 have hl:=(qap h.own).2.2
 refine ⟨vs,by simp [hl],qaC h.own,fun k v hv=>?_⟩
 have hk:k<n:=by
  rcases Nat.lt_or_ge k n with h' | h'
  ·exact h'
  ·rw [List.getElem?_eq_none (by omega)] at hv;simp at hv
 obtain ⟨a',cap',h1,h2⟩:=h.done k v hk hv
 exact ⟨a',cap',by simpa [hk] using h1,by simpa [hk] using h2⟩
def OwnR (w:World) (base g n:Nat) (e:TypeId):Prop:=∃vs,w.ownsRow base e 1 (.slice (some ⟨g,0,none⟩) n n) n vs
theorem qdX {w w1:World} {e:TypeId} {n:Nat} (rows:Nat→List UInt8) (h:w1.ownsRow w.heap.size e 1 (.slice (some ⟨w.heap.size,0,none⟩) n n) n (madeCells (Value.slice none 0 0).cells (n*1)).toList) :
  Rows w1 w.heap.size w.heap.size n 0 e rows (List.replicate n (.slice none 0 0)):=by
 have e:(madeCells (Value.slice none 0 0).cells (n*1)).toList=List.replicate n (.slice none 0 0):=by
  rw [Nat.mul_one]
  show (madeCells #[Value.slice none 0 0] n).toList=_
  rw [toList_madeCells_one]
 rw [e] at h
 exact ⟨h,fun v hv=>⟨none,0,0,(List.mem_replicate.1 hv).2⟩,fun j v hj=>by omega⟩
theorem qbk {P:Program} (w:World) {ops:Array Oper} {rest:List Oper} {o:Oper} {a:Act} {Q:Exit→Act→World→Prop} (hgd:o.guard=none) (s x:Operand) (t:TypeId)
  (ho:o.op=.call { callee:=.builtin .append,args:=#[s,x],argTypes:=#[t,t] })
  (base:Nat) (e:TypeId) (i:TypeInfo) (z:Value) (bytes:Nat) (ht:P.underlying t=some (.slice e)) (hi:P.info? e=some i) (hz:i.zero=some z) (hsize:i.size=1) (hby:i.bytes=bytes) (hzs:z.cells.size=1)
  (v:Value) (n:Nat) (xs:List Value) (hs:a.eval s=v) (hown:w.ownsRow base e 1 v n xs) (ao:Option Addr) (m c:Nat) (news:List Value) (hx:a.eval x=.slice ao m c) (hl:news.length=m) (hr:Rd w ao news)
  (hnil:ao=none→c=0) (h1:∀u∈news,u.oneCell'=true) (hm:n+m≤1000000) (hb:bytes≤1000) (hbase:base≤w.heap.size)
  (h:∀v' w',w'.ownsRow base e 1 v' (n+m) (xs++news)→w.grownBy w' v.ownBlock→wpList P ops Q rest (a.put o.dst v') w'):wpList P ops Q (o :: rest) a w:=by
 have hbb:(n+m)*bytes≤140737488355328:=by
  have:=Nat.mul_le_mul hm hb
  omega
 cases ao with
 | none =>
  have hm0:news=[]:=by
   cases news with
   | nil=>rfl
   | cons v0 r=>obtain ⟨b,o',h1,_⟩:=hr 0 v0 rfl;cases h1
  subst hm0
  simp at hl;subst hl
  rw [hnil rfl] at hx
  refine wpList_append_own_none hgd s x t ho base e i 1 ht hi v n xs hs hown hx ?_
  exact h v w (by simpa using hown) (World.grownBy.refl _ _)
 | some ad =>
  refine wpList_append_own w hgd s x t ho base e i z 1 bytes ht hi hz hsize hby hzs (by decide) v n xs hs hown ad m c news hx (by omega) ?_ h1 (by unfold maxLen;omega) hbb hbase ?_
  ·intro j u hj
   obtain ⟨b,o',e1,e2,e3⟩:=hr j u hj
   cases e1
   rw [qaW];exact e3
  ·intro v' w' h1 h2 _
   exact h v' w' h1 h2
theorem qbM {W w1:World} (hb:Below W.heap.size W w1):(∀b o,b<W.heap.size→w1.cell? ⟨b,o,none⟩=W.cell? ⟨b,o,none⟩)∧(∀b o,b<W.heap.size→w1.frozen? ⟨b,o,none⟩=W.frozen? ⟨b,o,none⟩) :=
 ⟨fun b o h=>hb.cell (p:=⟨b,o,none⟩) h,fun b o h=>hb.frozen (p:=⟨b,o,none⟩) h⟩
theorem Rd.setCell_far {w:World} {a:Option Addr} {cs:List Value} {g k:Nat} (hr:Rd w a cs) (h:∀ad,a=some ad→ad.block≠g) (u:Value):Rd (w.setCell ⟨g,k,none⟩ u) a cs:=by
 intro j v hj
 obtain ⟨b,o,h1,h2,h3⟩:=hr j v hj
 refine ⟨b,o,h1,?_,?_⟩
 ·have:(w.setCell ⟨g,k,none⟩ u).heap.size=w.heap.size:=by simp
  omega
 ·rw [World.cell?_of_block (Below.heap_setCell w ⟨g,k,none⟩ u b (h _ h1))];exact h3
theorem Rows.put {w:World} {base g n k:Nat} {e:TypeId} {rows:Nat→List UInt8} {vs:List Value} (h:Rows w base g n k e rows vs) (a:Option Addr) (l cap:Nat):Rows (w.setCell ⟨g,k,none⟩ (.slice a l cap)) base g n k e rows (vs.set k (.slice a l cap)):=by
 have hb:=(qap h.own).1
 refine ⟨(h.own.stored k _).1,?_,?_⟩
 ·intro v hv
  rcases List.mem_or_eq_of_mem_set hv with hv | hv
  ·exact h.shape v hv
  ·exact ⟨_,_,_,hv⟩
 ·intro j v hj hv
  rw [List.getElem?_set,if_neg (by omega)] at hv
  obtain ⟨a',cap',h1,h2⟩:=h.done j v hj hv
  exact ⟨a',cap',h1,h2.setCell_other hb h.shape _⟩
theorem Rows.one {w:World} {base g n k:Nat} {e:TypeId} {rows:Nat→List UInt8} {vs:List Value} (h:Rows w base g n k e rows vs) {a:Option Addr} {l cap:Nat} (hv:vs[k]?=some (.slice a l cap)) (hl:l=(rows k).length) (hr:Rd w a (bs (rows k))):Rows w base g n (k+1) e rows vs:=by
 refine ⟨h.own,h.shape,fun j v hj hv'=>?_⟩
 by_cases hjk:j=k
 ·subst hjk
  rw [hv] at hv'
  cases hv'
  exact ⟨a,cap,by rw [hl],hr⟩
 ·exact h.done j v (by omega) hv'
theorem qcm {w1:World} {base g:Nat} {e:TypeId} {n:Nat} (h:w1.ownsRow base e 1 (.slice (some ⟨g,0,none⟩) n n) n (madeCells (Value.int IntKind.u8 0).cells (n*1)).toList) :
  w1.ownsRow base e 1 (.slice (some ⟨g,0,none⟩) n n) n (bs (List.replicate n 0)):=by
 have e:(madeCells (Value.int IntKind.u8 0).cells (n*1)).toList=bs (List.replicate n 0):=by
  rw [Nat.mul_one]
  show (madeCells #[Value.int IntKind.u8 0] n).toList=_
  rw [toList_madeCells_one];simp [bs]
 rw [e] at h;exact h
theorem grown_below {w w1:World} (h:w.grownBy w1 none):Below w.heap.size w w1 :=
 (Below.refl _ _).grown h (Nat.le_refl _) (by intro k hk;cases hk)
theorem qlq (n:Nat):bs (List.replicate n 0)=List.replicate n (Value.int .u8 0):=by simp [bs]
theorem qhp (a:Option Addr) (cap:Nat) (xs:List UInt8) (n:Nat) (w:World) (hr:Rd w a (bs xs)) (hn:n≤1000) :
  Calls Tryz.prog 146 #[.slice a xs.length cap,.int .i64 n] w fun e w' =>
   ∃g,e=.returned (.slice (some ⟨g,0,none⟩) n n)∧w'.ownsRow w.heap.size 5 1 (.slice (some ⟨g,0,none⟩) n n) n (bs (Cof.fillRow xs n))∧Below w.heap.size w w':=by
 obtain ⟨i0,hi,hz0,hz1,hz2⟩:=info_parts Tryz.info5
 have hcl:(bs (xs.take n)).length=xs.length.min n:=by rw [qag,List.length_take,Nat.min_comm]
 have HC:Hid _:=hcl
 clear hcl
 have hpos:∀w1,Below w.heap.size w w1→(0<(bs (xs.take n)).length→(some ⟨w.heap.size,0,none⟩:Option Addr)=some ⟨w.heap.size,0,none⟩∧∃ad,a=some ad∧∀(j:Nat) (v:Value),(bs (xs.take n))[j]?=some v→w1.cell? (ad.add j)=some v):=by
  intro w1 hb1 h0
  have h0':0<(bs xs).length:=by rw [qag,List.length_take] at h0;rw [qag];omega
  obtain ⟨b,o,h1,h2,h3⟩:=(hr.below hb1 (Nat.le_refl _)).pos h0'
  refine ⟨rfl,_,h1,fun j v hj=>?_⟩
  have hx:(bs xs)[j]?=some v:=by
   simp only [bs,List.map_take] at hj ⊢
   rw [List.getElem?_take] at hj
   split at hj
   ·exact hj
   ·cases hj
  rw [qaW];exact h3 j v hx
 have HP:Hid _:=hpos
 clear hpos
 go_enter Tryz.func146,Tryz.ntmps146
 go_wp2_with (first | (at_make;refine wpList_make_full _ rfl (.tmp 6) (.tmp 6) 50 rfl w.heap.size 5 i0 (.int .u8 0) 1 Tryz.underlying50 hi hz0 hz1 .i64 .i64 _ _ n rfl rfl rfl rfl (by rw [hz2];omega) (by unfold maxLen;omega) (Nat.le_refl _) ?_;intro w1 hown1 hgrow1;have hb1:=grown_below hgrow1;have HB1:=hid (qap (qcm hown1)).1;clear hown1 hgrow1)|(refine wpList_copy_splice rfl (.tmp 8) (.tmp 9) 50 50 rfl 5 Tryz.underlying50 Tryz.size5 _ _ _ _ _ _ rfl rfl w.heap.size 0 (bs (List.replicate n 0)) 5 HB1.out (bs (xs.take n)) HC.out (HP.out _ hb1) (by simp [bs];omega) (qcJ _) w.heap.size w hb1 (Nat.le_refl _) ?_;intro w2 hg2 hb2))
 go_ret
 refine ⟨_,rfl,?_,hb2⟩
 have h:=hg2.out
 rw [qlq,qej] at h
 exact qbn h (Nat.le_refl _) (by rw [qag,Cof.length_fillRow]) (by unfold maxLen;omega)
theorem qj7 (a:Option Addr) (cap:Nat) (xs:List UInt8) (n:Nat) (w:World) (hr:Rd w a (bs xs)) (hn:n≤1000) :
  Calls Tryz.prog 258 #[.slice a xs.length cap,.int .i64 n] w fun e w' =>
   ∃g,e=.returned (.slice (some ⟨g,0,none⟩) n n)∧w'.ownsRow w.heap.size 170 1 (.slice (some ⟨g,0,none⟩) n n) n (bs (Cof.fillRow xs n))∧Below w.heap.size w w':=by
 obtain ⟨i0,hi,hz0,hz1,hz2⟩:=info_parts Tryz.infoE
 have hcl:(bs (xs.take n)).length=xs.length.min n:=by rw [qag,List.length_take,Nat.min_comm]
 have HC:Hid _:=hcl
 clear hcl
 have hpos:∀w1,Below w.heap.size w w1→(0<(bs (xs.take n)).length→(some ⟨w.heap.size,0,none⟩:Option Addr)=some ⟨w.heap.size,0,none⟩∧∃ad,a=some ad∧∀(j:Nat) (v:Value),(bs (xs.take n))[j]?=some v→w1.cell? (ad.add j)=some v):=by
  intro w1 hb1 h0
  have h0':0<(bs xs).length:=by rw [qag,List.length_take] at h0;rw [qag];omega
  obtain ⟨b,o,h1,h2,h3⟩:=(hr.below hb1 (Nat.le_refl _)).pos h0'
  refine ⟨rfl,_,h1,fun j v hj=>?_⟩
  have hx:(bs xs)[j]?=some v:=by
   simp only [bs,List.map_take] at hj ⊢
   rw [List.getElem?_take] at hj
   split at hj
   ·exact hj
   ·cases hj
  rw [qaW];exact h3 j v hx
 have HP:Hid _:=hpos
 clear hpos
 go_enter Tryz.func258,Tryz.ntmps258
 go_wp2_with (first | (at_make;refine wpList_make_full _ rfl (.tmp 6) (.tmp 6) 243 rfl w.heap.size 170 i0 (.int .u8 0) 1 Tryz.underlying243 hi hz0 hz1 .i64 .i64 _ _ n rfl rfl rfl rfl (by rw [hz2];omega) (by unfold maxLen;omega) (Nat.le_refl _) ?_;intro w1 hown1 hgrow1;have hb1:=grown_below hgrow1;have HB1:=hid (qap (qcm hown1)).1;clear hown1 hgrow1)|(refine wpList_copy_splice rfl (.tmp 8) (.tmp 9) 243 243 rfl 170 Tryz.underlying243 Tryz.sizeE _ _ _ _ _ _ rfl rfl w.heap.size 0 (bs (List.replicate n 0)) 170 HB1.out (bs (xs.take n)) HC.out (HP.out _ hb1) (by simp [bs];omega) (qcJ _) w.heap.size w hb1 (Nat.le_refl _) ?_;intro w2 hg2 hb2))
 go_ret
 refine ⟨_,rfl,?_,hb2⟩
 have h:=hg2.out
 rw [qlq,qej] at h
 exact qbn h (Nat.le_refl _) (by rw [qag,Cof.length_fillRow]) (by unfold maxLen;omega)
theorem qen (xs:List UInt8) (f:UInt8):qaO (fun i=>Cof.mul f (xs.getD i 0)) (List.replicate xs.length 0) xs.length xs.length=Cof.scaleRow xs f:=by
 rw [qdt]
 apply List.ext_getElem
 ·simp [Cof.scaleRow]
 ·intro i h1 h2
  simp [Cof.scaleRow] at h2 ⊢
  simp [h2]
theorem ql6 (a:Option Addr) (cap:Nat) (xs:List UInt8) (f:UInt8) (w:World) (hr:Rd w a (bs xs)) (hn:xs.length≤1000) :
  Calls Tryz.prog 148 #[.slice a xs.length cap,.int .u8 f.toNat] w fun e w' =>
   ∃g,e=.returned (.slice (some ⟨g,0,none⟩) xs.length xs.length)∧w'.ownsRow w.heap.size 5 1 (.slice (some ⟨g,0,none⟩) xs.length xs.length) xs.length (bs (Cof.scaleRow xs f))∧Below w.heap.size w w':=by
 obtain ⟨i0,hi,hz0,hz1,hz2⟩:=info_parts Tryz.info5
 go_enter Tryz.func148,Tryz.ntmps148
 go_wp2_with (first | (at_make;refine wpList_make_full _ rfl (.tmp 9) (.tmp 9) 50 rfl w.heap.size 5 i0 (.int .u8 0) 1 Tryz.underlying50 hi hz0 hz1 .i64 .i64 _ _ xs.length rfl rfl rfl rfl (by rw [hz2];omega) (by unfold maxLen;omega) (Nat.le_refl _) ?_;intro w1 hown1 hgrow1;have hb1:=grown_below hgrow1;have HO1:=hid (qcm hown1);clear hown1 hgrow1)|fail)
 go_loopw [13] (fun i wr=>∃k:Nat,k≤xs.length∧i=.int .i64 k∧wr.ownsRow w.heap.size 5 1 (.slice (some ⟨w.heap.size,0,none⟩) xs.length xs.length) xs.length (bs (qaO (fun i=>Cof.mul f (xs.getD i 0)) (List.replicate xs.length 0) xs.length k))∧Below w.heap.size w wr)
  (fun i _=>xs.length-(intOf i).toNat)
 case atStart =>
  refine ⟨0,Nat.zero_le _,rfl,?_,hb1⟩
  rw [qbg _ _ _ (by simp)]
  exact HO1.out
 case round =>
  obtain ⟨k,hk,rfl,hown,hbel⟩:=hrel
  by_cases hlt:k<xs.length
  ·obtain ⟨b,o,rfl,hbs,hcell⟩:=hr.pos (by rw [qag];omega)
   have hc:wr.cell? ⟨b,o+k,none⟩=some (.int .u8 xs[k].toNat):=by rw [hbel.cell (by exact hbs)];exact hcell k _ (by rw [qaX _ _ hlt];simp [hlt])
   have hs:=hown.frozenAt k
   have hn:=row_next hown hlt
   have HST:=hid (qbu (u:=Cof.mul f xs[k]) hown (by simp [hlt]))
   clear hown hcell
   go_wp2_with (go_at_call 192;refine (times_any _ _ _).mono ?_;rintro e w' ⟨rfl,rfl⟩)
   go_roundw
   case rel=>exact ⟨k+1,by omega,by go_num,HST.out,hbel.setCell (Nat.le_refl _) _⟩
   case measure=>simp [intOf];omega
  ·have hkn:k=xs.length:=by omega
   subst hkn
   rw [qen] at hown
   go_wp2
   go_ret
   exact ⟨_,rfl,hown,hbel⟩
theorem qlH (a:Option Addr) (cap:Nat) (xs:List UInt8) (f:UInt8) (w:World) (hr:Rd w a (bs xs)) (hn:xs.length≤1000) :
  Calls Tryz.prog 226 #[.slice a xs.length cap,.int .u8 f.toNat] w fun e w' =>
   ∃g,e=.returned (.slice (some ⟨g,0,none⟩) xs.length xs.length)∧w'.ownsRow w.heap.size 170 1 (.slice (some ⟨g,0,none⟩) xs.length xs.length) xs.length (bs (Cof.scaleRow xs f))∧Below w.heap.size w w':=by
 obtain ⟨i0,hi,hz0,hz1,hz2⟩:=info_parts Tryz.infoE
 go_enter Tryz.func226,Tryz.ntmps226
 go_wp2_with (first | (at_make;refine wpList_make_full _ rfl (.tmp 9) (.tmp 9) 243 rfl w.heap.size 170 i0 (.int .u8 0) 1 Tryz.underlying243 hi hz0 hz1 .i64 .i64 _ _ xs.length rfl rfl rfl rfl (by rw [hz2];omega) (by unfold maxLen;omega) (Nat.le_refl _) ?_;intro w1 hown1 hgrow1;have hb1:=grown_below hgrow1;have HO1:=hid (qcm hown1);clear hown1 hgrow1)|fail)
 go_loopw [13] (fun i wr=>∃k:Nat,k≤xs.length∧i=.int .i64 k∧wr.ownsRow w.heap.size 170 1 (.slice (some ⟨w.heap.size,0,none⟩) xs.length xs.length) xs.length (bs (qaO (fun i=>Cof.mul f (xs.getD i 0)) (List.replicate xs.length 0) xs.length k))∧Below w.heap.size w wr)
  (fun i _=>xs.length-(intOf i).toNat)
 case atStart =>
  refine ⟨0,Nat.zero_le _,rfl,?_,hb1⟩
  rw [qbg _ _ _ (by simp)]
  exact HO1.out
 case round =>
  obtain ⟨k,hk,rfl,hown,hbel⟩:=hrel
  by_cases hlt:k<xs.length
  ·obtain ⟨b,o,rfl,hbs,hcell⟩:=hr.pos (by rw [qag];omega)
   have hc:wr.cell? ⟨b,o+k,none⟩=some (.int .u8 xs[k].toNat):=by rw [hbel.cell (by exact hbs)];exact hcell k _ (by rw [qaX _ _ hlt];simp [hlt])
   have hs:=hown.frozenAt k
   have hn:=row_next hown hlt
   have HST:=hid (qbu (u:=Cof.mul f xs[k]) hown (by simp [hlt]))
   clear hown hcell
   go_wp2_with (go_at_call 192;refine (times_any _ _ _).mono ?_;rintro e w' ⟨rfl,rfl⟩)
   go_roundw
   case rel=>exact ⟨k+1,by omega,by go_num,HST.out,hbel.setCell (Nat.le_refl _) _⟩
   case measure=>simp [intOf];omega
  ·have hkn:k=xs.length:=by omega
   subst hkn
   rw [qen] at hown
   go_wp2
   go_ret
   exact ⟨_,rfl,hown,hbel⟩
theorem qdJ (xs ys:List UInt8):qaO (fun i=>xs.getD i 0^^^ys.getD i 0) (Cof.fillRow xs (max xs.length ys.length)) (max xs.length ys.length) ys.length=Cof.sumRow xs ys:=by
 apply List.map_congr_left
 intro i hi
 rw [List.mem_range] at hi
 by_cases h:i<ys.length
 ·simp [h]
 ·simp [h,Cof.fillRow,hi]
theorem qdU (xs:List UInt8) (n k:Nat) (h:k<n):(Cof.fillRow xs n).getD k 0=xs.getD k 0:=by simp [Cof.fillRow,h]
theorem qlt (a a':Option Addr) (cap cap':Nat) (xs ys:List UInt8) (w:World) (hr:Rd w a (bs xs)) (hr':Rd w a' (bs ys)) (hn:xs.length≤1000) (hm:ys.length≤1000) (hc:xs.length<ys.length) :
  Calls Tryz.prog 133 #[.slice a xs.length cap,.slice a' ys.length cap'] w fun e w' =>
   ∃g n,e=.returned (.slice (some ⟨g,0,none⟩) n n)∧n=(Cof.sumRow xs ys).length∧w'.ownsRow w.heap.size 5 1 (.slice (some ⟨g,0,none⟩) n n) n (bs (Cof.sumRow xs ys))∧Below w.heap.size w w':=by
 have HM:=hid (Nat.max_eq_right (Nat.le_of_lt hc))
 go_enter Tryz.func133,Tryz.ntmps133
 go_wp2_with (go_at_call 146;refine (qhp a cap xs ys.length _ hr (by omega)).mono ?_;rintro e w1 ⟨g,rfl,hown1,hb1⟩;have HO1:=hid hown1;clear hown1)
 have hgs:w.heap.size≤g:=(HO1.out.lt g rfl).1
 go_loopw [17] (fun i wr=>∃k:Nat,k≤ys.length∧i=.int .i64 k∧wr.ownsRow w.heap.size 5 1 (.slice (some ⟨g,0,none⟩) ys.length ys.length) ys.length (bs (qaO (fun i=>xs.getD i 0^^^ys.getD i 0) (Cof.fillRow xs ys.length) ys.length k))∧Below w.heap.size w wr)
  (fun i _=>ys.length-(intOf i).toNat)
 case atStart =>
  refine ⟨0,Nat.zero_le _,rfl,?_,hb1⟩
  rw [qbg _ _ _ (Cof.length_fillRow _ _)]
  exact HO1.out
 case round =>
  obtain ⟨k,hk,rfl,hown,hbel⟩:=hrel
  by_cases hlt:k<ys.length
  ·obtain ⟨b,o,rfl,hbs,hcell⟩:=hr'.pos (by rw [qag];omega)
   have hc1:wr.cell? ⟨b,o+k,none⟩=some (.int .u8 ys[k].toNat):=by rw [hbel.cell (by exact hbs)];exact hcell k _ (by rw [qaX _ _ hlt];simp [hlt])
   have hs:=hown.frozenAt k
   have hn0:=row_next hown (by omega)
   rw [qdU _ _ _ (by omega)] at hn0
   obtain ⟨x,hx⟩:∃x,x=xs.getD k 0:=⟨_,rfl⟩
   rw [←hx] at hn0
   have HST:=hid (qbu (u:=x^^^ys[k]) hown (by simp [hlt,hx]))
   clear hown hcell hx
   go_wp2
   go_roundw
   case rel=>exact ⟨k+1,by omega,by go_num,by rw [qaY];exact HST.out,hbel.setCell hgs _⟩
   case measure=>simp [intOf];omega
  ·have hkn:k=ys.length:=by omega
   subst hkn
   have HF:=hid (qdJ xs ys)
   rw [HM.out] at HF
   rw [HF.out] at hown
   go_wp2
   go_ret
   exact ⟨_,_,rfl,by rw [Cof.length_sumRow,HM.out],hown,hbel⟩
theorem qlu (a a':Option Addr) (cap cap':Nat) (xs ys:List UInt8) (w:World) (hr:Rd w a (bs xs)) (hr':Rd w a' (bs ys)) (hn:xs.length≤1000) (hm:ys.length≤1000) (hc:ys.length≤xs.length) :
  Calls Tryz.prog 133 #[.slice a xs.length cap,.slice a' ys.length cap'] w fun e w' =>
   ∃g n,e=.returned (.slice (some ⟨g,0,none⟩) n n)∧n=(Cof.sumRow xs ys).length∧w'.ownsRow w.heap.size 5 1 (.slice (some ⟨g,0,none⟩) n n) n (bs (Cof.sumRow xs ys))∧Below w.heap.size w w':=by
 have HM:=hid (Nat.max_eq_left hc)
 go_enter Tryz.func133,Tryz.ntmps133
 go_wp2_with (go_at_call 146;refine (qhp a cap xs xs.length _ hr (by omega)).mono ?_;rintro e w1 ⟨g,rfl,hown1,hb1⟩;have HO1:=hid hown1;clear hown1)
 have hgs:w.heap.size≤g:=(HO1.out.lt g rfl).1
 go_loopw [17] (fun i wr=>∃k:Nat,k≤ys.length∧i=.int .i64 k∧wr.ownsRow w.heap.size 5 1 (.slice (some ⟨g,0,none⟩) xs.length xs.length) xs.length (bs (qaO (fun i=>xs.getD i 0^^^ys.getD i 0) (Cof.fillRow xs xs.length) xs.length k))∧Below w.heap.size w wr)
  (fun i _=>ys.length-(intOf i).toNat)
 case atStart =>
  refine ⟨0,Nat.zero_le _,rfl,?_,hb1⟩
  rw [qbg _ _ _ (Cof.length_fillRow _ _)]
  exact HO1.out
 case round =>
  obtain ⟨k,hk,rfl,hown,hbel⟩:=hrel
  by_cases hlt:k<ys.length
  ·obtain ⟨b,o,rfl,hbs,hcell⟩:=hr'.pos (by rw [qag];omega)
   have hc1:wr.cell? ⟨b,o+k,none⟩=some (.int .u8 ys[k].toNat):=by rw [hbel.cell (by exact hbs)];exact hcell k _ (by rw [qaX _ _ hlt];simp [hlt])
   have hs:=hown.frozenAt k
   have hn0:=row_next hown (by omega)
   rw [qdU _ _ _ (by omega)] at hn0
   obtain ⟨x,hx⟩:∃x,x=xs.getD k 0:=⟨_,rfl⟩
   rw [←hx] at hn0
   have HST:=hid (qbu (u:=x^^^ys[k]) hown (by simp [hlt,hx]))
   clear hown hcell hx
   go_wp2
   go_roundw
   case rel=>exact ⟨k+1,by omega,by go_num,by rw [qaY];exact HST.out,hbel.setCell hgs _⟩
   case measure=>simp [intOf];omega
  ·have hkn:k=ys.length:=by omega
   subst hkn
   have HF:=hid (qdJ xs ys)
   rw [HM.out] at HF
   rw [HF.out] at hown
   go_wp2
   go_ret
   exact ⟨_,_,rfl,by rw [Cof.length_sumRow,HM.out],hown,hbel⟩
theorem ql4 (a a':Option Addr) (cap cap':Nat) (xs ys:List UInt8) (w:World) (hr:Rd w a (bs xs)) (hr':Rd w a' (bs ys)) (hn:xs.length≤1000) (hm:ys.length≤1000) (hc:xs.length<ys.length) :
  Calls Tryz.prog 247 #[.slice a xs.length cap,.slice a' ys.length cap'] w fun e w' =>
   ∃g n,e=.returned (.slice (some ⟨g,0,none⟩) n n)∧n=(Cof.sumRow xs ys).length∧w'.ownsRow w.heap.size 170 1 (.slice (some ⟨g,0,none⟩) n n) n (bs (Cof.sumRow xs ys))∧Below w.heap.size w w':=by
 have HM:=hid (Nat.max_eq_right (Nat.le_of_lt hc))
 go_enter Tryz.func247,Tryz.ntmps247
 go_wp2_with (go_at_call 258;refine (qj7 a cap xs ys.length _ hr (by omega)).mono ?_;rintro e w1 ⟨g,rfl,hown1,hb1⟩;have HO1:=hid hown1;clear hown1)
 have hgs:w.heap.size≤g:=(HO1.out.lt g rfl).1
 go_loopw [17] (fun i wr=>∃k:Nat,k≤ys.length∧i=.int .i64 k∧wr.ownsRow w.heap.size 170 1 (.slice (some ⟨g,0,none⟩) ys.length ys.length) ys.length (bs (qaO (fun i=>xs.getD i 0^^^ys.getD i 0) (Cof.fillRow xs ys.length) ys.length k))∧Below w.heap.size w wr)
  (fun i _=>ys.length-(intOf i).toNat)
 case atStart =>
  refine ⟨0,Nat.zero_le _,rfl,?_,hb1⟩
  rw [qbg _ _ _ (Cof.length_fillRow _ _)]
  exact HO1.out
 case round =>
  obtain ⟨k,hk,rfl,hown,hbel⟩:=hrel
  by_cases hlt:k<ys.length
  ·obtain ⟨b,o,rfl,hbs,hcell⟩:=hr'.pos (by rw [qag];omega)
   have hc1:wr.cell? ⟨b,o+k,none⟩=some (.int .u8 ys[k].toNat):=by rw [hbel.cell (by exact hbs)];exact hcell k _ (by rw [qaX _ _ hlt];simp [hlt])
   have hs:=hown.frozenAt k
   have hn0:=row_next hown (by omega)
   rw [qdU _ _ _ (by omega)] at hn0
   obtain ⟨x,hx⟩:∃x,x=xs.getD k 0:=⟨_,rfl⟩
   rw [←hx] at hn0
   have HST:=hid (qbu (u:=x^^^ys[k]) hown (by simp [hlt,hx]))
   clear hown hcell hx
   go_wp2
   go_roundw
   case rel=>exact ⟨k+1,by omega,by go_num,by rw [qaY];exact HST.out,hbel.setCell hgs _⟩
   case measure=>simp [intOf];omega
  ·have hkn:k=ys.length:=by omega
   subst hkn
   have HF:=hid (qdJ xs ys)
   rw [HM.out] at HF
   rw [HF.out] at hown
   go_wp2
   go_ret
   exact ⟨_,_,rfl,by rw [Cof.length_sumRow,HM.out],hown,hbel⟩
theorem ql2 (a a':Option Addr) (cap cap':Nat) (xs ys:List UInt8) (w:World) (hr:Rd w a (bs xs)) (hr':Rd w a' (bs ys)) (hn:xs.length≤1000) (hm:ys.length≤1000) (hc:ys.length≤xs.length) :
  Calls Tryz.prog 247 #[.slice a xs.length cap,.slice a' ys.length cap'] w fun e w' =>
   ∃g n,e=.returned (.slice (some ⟨g,0,none⟩) n n)∧n=(Cof.sumRow xs ys).length∧w'.ownsRow w.heap.size 170 1 (.slice (some ⟨g,0,none⟩) n n) n (bs (Cof.sumRow xs ys))∧Below w.heap.size w w':=by
 have HM:=hid (Nat.max_eq_left hc)
 go_enter Tryz.func247,Tryz.ntmps247
 go_wp2_with (go_at_call 258;refine (qj7 a cap xs xs.length _ hr (by omega)).mono ?_;rintro e w1 ⟨g,rfl,hown1,hb1⟩;have HO1:=hid hown1;clear hown1)
 have hgs:w.heap.size≤g:=(HO1.out.lt g rfl).1
 go_loopw [17] (fun i wr=>∃k:Nat,k≤ys.length∧i=.int .i64 k∧wr.ownsRow w.heap.size 170 1 (.slice (some ⟨g,0,none⟩) xs.length xs.length) xs.length (bs (qaO (fun i=>xs.getD i 0^^^ys.getD i 0) (Cof.fillRow xs xs.length) xs.length k))∧Below w.heap.size w wr)
  (fun i _=>ys.length-(intOf i).toNat)
 case atStart =>
  refine ⟨0,Nat.zero_le _,rfl,?_,hb1⟩
  rw [qbg _ _ _ (Cof.length_fillRow _ _)]
  exact HO1.out
 case round =>
  obtain ⟨k,hk,rfl,hown,hbel⟩:=hrel
  by_cases hlt:k<ys.length
  ·obtain ⟨b,o,rfl,hbs,hcell⟩:=hr'.pos (by rw [qag];omega)
   have hc1:wr.cell? ⟨b,o+k,none⟩=some (.int .u8 ys[k].toNat):=by rw [hbel.cell (by exact hbs)];exact hcell k _ (by rw [qaX _ _ hlt];simp [hlt])
   have hs:=hown.frozenAt k
   have hn0:=row_next hown (by omega)
   rw [qdU _ _ _ (by omega)] at hn0
   obtain ⟨x,hx⟩:∃x,x=xs.getD k 0:=⟨_,rfl⟩
   rw [←hx] at hn0
   have HST:=hid (qbu (u:=x^^^ys[k]) hown (by simp [hlt,hx]))
   clear hown hcell hx
   go_wp2
   go_roundw
   case rel=>exact ⟨k+1,by omega,by go_num,by rw [qaY];exact HST.out,hbel.setCell hgs _⟩
   case measure=>simp [intOf];omega
  ·have hkn:k=ys.length:=by omega
   subst hkn
   have HF:=hid (qdJ xs ys)
   rw [HM.out] at HF
   rw [HF.out] at hown
   go_wp2
   go_ret
   exact ⟨_,_,rfl,by rw [Cof.length_sumRow,HM.out],hown,hbel⟩
theorem sumB (a a':Option Addr) (cap cap' n m:Nat) (xs ys:List UInt8) (w:World) (en:n=xs.length) (em:m=ys.length) (hr:Rd w a (bs xs)) (hr':Rd w a' (bs ys)) (hn:n≤1000) (hm:m≤1000) :
  Calls Tryz.prog 133 #[.slice a n cap,.slice a' m cap'] w fun e w' =>
   ∃g l,e=.returned (.slice (some ⟨g,0,none⟩) l l)∧l=(Cof.sumRow xs ys).length∧Rd w' (some ⟨g,0,none⟩) (bs (Cof.sumRow xs ys))∧Below w.heap.size w w':=by
 subst en em
 have h:Calls Tryz.prog 133 #[.slice a xs.length cap,.slice a' ys.length cap'] w fun e w' =>
   ∃g n,e=.returned (.slice (some ⟨g,0,none⟩) n n)∧n=(Cof.sumRow xs ys).length∧w'.ownsRow w.heap.size 5 1 (.slice (some ⟨g,0,none⟩) n n) n (bs (Cof.sumRow xs ys))∧Below w.heap.size w w':=by
  rcases Nat.lt_or_ge xs.length ys.length with h | h
  ·exact qlt a a' cap cap' xs ys w hr hr' hn hm h
  ·exact qlu a a' cap cap' xs ys w hr hr' hn hm h
 refine h.mono ?_
 rintro e w' ⟨g,l,h1,h2,h3,h4⟩
 exact ⟨g,l,h1,h2,qaC h3,h4⟩
theorem scaleB (a:Option Addr) (cap n:Nat) (xs:List UInt8) (f:UInt8) (w:World) (en:n=xs.length) (hr:Rd w a (bs xs)) (hn:n≤1000) :
  Calls Tryz.prog 148 #[.slice a n cap,.int .u8 f.toNat] w fun e w' =>
   ∃g,e=.returned (.slice (some ⟨g,0,none⟩) n n)∧Rd w' (some ⟨g,0,none⟩) (bs (Cof.scaleRow xs f))∧Below w.heap.size w w':=by
 subst en
 refine (ql6 a cap xs f w hr hn).mono ?_
 rintro e w' ⟨g,h1,h2,h3⟩
 exact ⟨g,h1,qaC h2,h3⟩
theorem sumP (a a':Option Addr) (cap cap' n m:Nat) (xs ys:List UInt8) (w:World) (en:n=xs.length) (em:m=ys.length) (hr:Rd w a (bs xs)) (hr':Rd w a' (bs ys)) (hn:n≤1000) (hm:m≤1000) :
  Calls Tryz.prog 247 #[.slice a n cap,.slice a' m cap'] w fun e w' =>
   ∃g l,e=.returned (.slice (some ⟨g,0,none⟩) l l)∧l=(Cof.sumRow xs ys).length∧Rd w' (some ⟨g,0,none⟩) (bs (Cof.sumRow xs ys))∧Below w.heap.size w w':=by
 subst en em
 have h:Calls Tryz.prog 247 #[.slice a xs.length cap,.slice a' ys.length cap'] w fun e w' =>
   ∃g n,e=.returned (.slice (some ⟨g,0,none⟩) n n)∧n=(Cof.sumRow xs ys).length∧w'.ownsRow w.heap.size 170 1 (.slice (some ⟨g,0,none⟩) n n) n (bs (Cof.sumRow xs ys))∧Below w.heap.size w w':=by
  rcases Nat.lt_or_ge xs.length ys.length with h | h
  ·exact ql4 a a' cap cap' xs ys w hr hr' hn hm h
  ·exact ql2 a a' cap cap' xs ys w hr hr' hn hm h
 refine h.mono ?_
 rintro e w' ⟨g,l,h1,h2,h3,h4⟩
 exact ⟨g,l,h1,h2,qaC h3,h4⟩
theorem qlp (a:Option Addr) (cap n:Nat) (xs:List UInt8) (f:UInt8) (w:World) (en:n=xs.length) (hr:Rd w a (bs xs)) (hn:n≤1000) :
  Calls Tryz.prog 226 #[.slice a n cap,.int .u8 f.toNat] w fun e w' =>
   ∃g,e=.returned (.slice (some ⟨g,0,none⟩) n n)∧Rd w' (some ⟨g,0,none⟩) (bs (Cof.scaleRow xs f))∧Below w.heap.size w w':=by
 subst en
 refine (qlH a cap xs f w hr hn).mono ?_
 rintro e w' ⟨g,h1,h2,h3⟩
 exact ⟨g,h1,qaC h2,h3⟩
theorem below_drewN {B:Nat} {w w':World} (h:Below B w w') (n:Nat):Below B w (w'.drewN n):=by
 induction n with
 | zero=>exact h
 | succ n ih=>exact ih.drew
theorem qhx (p:List UInt8) (x:UInt8) (k:Nat) (h:k<p.length):Cof.polyAt (p.drop k) x=Cof.mul (Cof.polyAt (p.drop (k+1)) x) x^^^p[k]:=by
 rw [List.drop_eq_getElem_cons h];rfl
theorem at_any (a:Option Addr) (cap:Nat) (p:List UInt8) (x:UInt8) (w:World) (hr:Rd w a (bs p)) (hn:p.length≤1000) :
  Calls Tryz.prog 149 #[.slice a p.length cap,.int .u8 x.toNat] w fun e w'=>e=.returned (.int .u8 (Cof.polyAt p x).toNat)∧Below w.heap.size w w':=by
 go_enter Tryz.func149,Tryz.ntmps149
 go_wp2
 go_loopw [5,6] (fun v i wr=>∃k:Nat,k≤p.length∧i=.int .i64 ((k:Int)-1)∧v=.int .u8 (Cof.polyAt (p.drop k) x).toNat∧Below w.heap.size w wr)
  (fun _ i _=>(intOf i+1).toNat)
 case atStart =>
  refine ⟨p.length,Nat.le_refl _,rfl,?_,Below.refl _ _⟩
  simp [Cof.polyAt]
 case round =>
  obtain ⟨k,hk,rfl,rfl,hbel⟩:=hrel
  by_cases h0:k=0
  ·subst h0
   go_wp2
   go_ret
   exact ⟨by simp,hbel⟩
  ·obtain ⟨j,rfl⟩:∃j,k=j+1:=⟨k-1,by omega⟩
   obtain ⟨b,o,rfl,hbs,hcell⟩:=hr.pos (by rw [qag];omega)
   have hlt:j<p.length:=by omega
   have hc:wr.cell? ⟨b,o+j,none⟩=some (.int .u8 p[j].toNat):=by rw [hbel.cell (by exact hbs)];exact hcell j _ (by rw [qaX _ _ hlt];simp [hlt])
   have HP:=hid (qhx p x j hlt)
   clear hcell h0
   generalize Cof.polyAt (p.drop (j+1)) x=q at HP ⊢
   go_wp2
   go_quiet ((go_at_call 192;exact Calls.quiet_of_same (times_any _ _ _)))
   go_wp2
   go_roundw
   case rel=>exact ⟨j,by omega,rfl,by rw [qaY,HP.out],below_drewN hbel _⟩
   case measure=>simp [intOf]
theorem qhI (w:World) (v:Value) (e:TypeId) (B:Nat) (hB:B≤w.heap.size):(w.alloc (.cells #[v] e)).ownsRow B e 1 (.slice (some ⟨w.heap.size,0,none⟩) 1 1) 1 [v] :=
 World.ownsRow_lit w #[v] 1 hB (by unfold maxLen;omega) rfl
theorem qgk (a:Option Addr) (cap n0:Nat) (p:List UInt8) (x:UInt8) (w:World) (en:n0=p.length) (hr:Rd w a (bs p)) (hn:n0≤900) (h0:0<n0) :
  Calls Tryz.prog 225 #[.slice a n0 cap,.int .u8 x.toNat] w fun e w' =>
   ∃a' n cap',e=.returned (.slice a' n cap')∧n=(Cof.withRoot p x).length∧Rd w' a' (bs (Cof.withRoot p x))∧Below w.heap.size w w':=by
 subst en
 obtain ⟨i0,hi,hz0,hz1,hz2⟩:=info_parts Tryz.infoE
 obtain ⟨b,o,rfl,hbs,hcell⟩:=hr.pos (by rw [qag];omega)
 have hnews:∀(j:Nat) (u:Value),(bs p)[j]?=some u→(w.alloc (.cells #[.int .u8 0] 170)).cell? ((⟨b,o,none⟩:Addr).add j)=some u:=by
  intro j u hj
  rw [qaW,(((Below.refl w.heap.size w).alloc (Nat.le_refl _) (.cells #[.int .u8 0] 170)).cell (p:=⟨b,o+j,none⟩) (by exact hbs))]
  exact hcell j u hj
 have HN:=hid hnews
 clear hnews hcell
 have HO:=hid (qhI w (.int .u8 0) 170 w.heap.size (Nat.le_refl _))
 have hlen:(bs p).length=p.length*1:=by rw [qag];omega
 have HL:=hid hlen
 clear hlen
 go_enter Tryz.func225,Tryz.ntmps225
 go_wp2_with (first | (at_builtin;refine wpList_append_own _ rfl (.tmp 6) (.tmp 7) 243 rfl w.heap.size 170 i0 (.int .u8 0) 1 1 Tryz.underlying243 hi hz0 hz1 hz2 rfl (by decide) _ _ _ rfl HO.out ⟨b,o,none⟩ p.length cap (bs p) rfl HL.out HN.out (qcJ _) (by unfold maxLen;omega) (by omega) (by simp) ?_;intro v1 w1 hown1 hgrow1 _;rw [Nat.add_comm 1 p.length] at hown1;obtain ⟨a1,cap1,rfl,hrd1⟩:=qaw hown1;have hb1:Below w.heap.size w w1:=((Below.refl w.heap.size w).alloc (Nat.le_refl _) (.cells #[.int .u8 0] 170)).grown hgrow1 (by simp) (fun k hk=>(HO.out.lt k hk).1);clear hown1 hgrow1)|fail)
 refine (qlp _ _ _ p x _ rfl (hr.below hb1 (Nat.le_refl _)) (by omega)).mono ?_
 rintro e w2 ⟨g2,rfl,hrd2,hb2⟩
 go_wp2_with fail
 refine (sumP _ _ _ _ _ _ (0 :: p) (Cof.scaleRow p x) _ rfl (by rw [Cof.length_scaleRow]) (hrd1.below hb2 (Nat.le_refl _)) hrd2 (by simp;omega) (by omega)).mono ?_
 rintro e w3 ⟨g3,l3,rfl,hl3,hrd3,hb3⟩
 have HL3:=hid hl3
 clear hl3
 go_wp2
 go_ret
 exact ⟨_,_,_,rfl,HL3.out,hrd3,hb1.trans ((hb2.mono hb1.size).trans (hb3.mono (Nat.le_trans hb1.size hb2.size)))⟩
theorem at_n (a:Option Addr) (cap n:Nat) (p:List UInt8) (x:UInt8) (w:World) (en:n=p.length) (hr:Rd w a (bs p)) (hn:n≤1000) :
  Calls Tryz.prog 149 #[.slice a n cap,.int .u8 x.toNat] w fun e w'=>e=.returned (.int .u8 (Cof.polyAt p x).toNat)∧Below w.heap.size w w':=by
 subst en;exact at_any a cap p x w hr hn
theorem qcL (xs:List UInt8) (one k:Nat):0<(Cof.basisTo xs one k).length∧(Cof.basisTo xs one k).length≤k+1:=by
 induction k with
 | zero=>simp [Cof.basisTo]
 | succ k ih =>
  simp only [Cof.basisTo]
  split
  ·omega
  ·rw [Cof.length_withRoot];omega
theorem qiZ (a:Option Addr) (cap n:Nat) (xs:List UInt8) (one:Nat) (w:World) (en:n=xs.length) (hr:Rd w a (bs xs)) (hn:n≤800) (ho:one<n) :
  Calls Tryz.prog 191 #[.slice a n cap,.int .i64 one] w fun e w' =>
   ∃a' l cap',e=.returned (.slice a' l cap')∧l=(Cof.basis xs one).length∧Rd w' a' (bs (Cof.basis xs one))∧Below w.heap.size w w':=by
 subst en
 obtain ⟨b,o,rfl,hbs,hcell⟩:=hr.pos (by rw [qag];omega)
 have HC:=hid hcell
 clear hcell
 go_enter Tryz.func191,Tryz.ntmps191
 go_wp2_with fail
 go_loopw [5,11] (fun v i wr=>∃(k:Nat) (a':Option Addr) (l cap':Nat),k≤xs.length∧i=.int .i64 k∧v=.slice a' l cap'∧l=(Cof.basisTo xs one k).length∧Rd wr a' (bs (Cof.basisTo xs one k))∧Below w.heap.size w wr)
  (fun _ i _=>xs.length-(intOf i).toNat)
 case atStart =>
  refine ⟨0,_,1,1,Nat.zero_le _,rfl,rfl,rfl,qaC (qhI w (.int .u8 1) 170 w.heap.size (Nat.le_refl _)),(Below.refl _ _).alloc (Nat.le_refl _) _⟩
 case round =>
  obtain ⟨k,a',l,cap',hk,rfl,rfl,hl,hrd,hbel⟩:=hrel
  have hbd:=qcL xs one k
  rw [←hl] at hbd
  have HL:=hid hl
  clear hl
  by_cases hlt:k<xs.length
  ·have hc1:wr.cell? ⟨b,o+k,none⟩=some (.int .u8 xs[k].toNat):=by rw [hbel.cell (by exact hbs)];exact HC.out k _ (by rw [qaX _ _ hlt];simp [hlt])
   by_cases hko:k=one
   ·have hko':((k:Int) != (one:Int))=false:=by simp [hko]
    have HK:=hid hko
    clear hko
    go_wp2_with fail
    go_roundw
    case rel=>exact ⟨k+1,a',l,cap',by omega,by go_num,rfl,by rw [HL.out];simp [Cof.basisTo,HK.out],by simpa [Cof.basisTo,HK.out] using hrd,hbel⟩
    case measure=>simp [intOf];omega
   ·have hko':((k:Int) != (one:Int))=true:=by rw [bne_iff_ne];omega
    have HK:=hid hko
    clear hko
    go_wp2_with (go_at_call 225;refine (qgk _ _ _ (Cof.basisTo xs one k) xs[k] _ HL.out hrd (by omega) (by omega)).mono ?_;rintro e w1 ⟨a1,l1,cap1,rfl,hl1,hrd1,hb1⟩;have HL1:=hid hl1;clear hl1)
    have hbt:Cof.basisTo xs one (k+1)=Cof.withRoot (Cof.basisTo xs one k) xs[k]:=by simp [Cof.basisTo,HK.out,hlt]
    go_roundw
    case rel=>exact ⟨k+1,a1,l1,cap1,by omega,by go_num,rfl,by rw [hbt];exact HL1.out,by rw [hbt];exact hrd1,hbel.trans (hb1.mono hbel.size)⟩
    case measure=>simp [intOf];omega
  ·have hkn:k=xs.length:=by omega
   subst hkn
   have hc1:wr.cell? ⟨b,o+one,none⟩=some (.int .u8 xs[one].toNat):=by rw [hbel.cell (by exact hbs)];exact HC.out one _ (by rw [qaX _ _ ho];simp [ho])
   have hbt:Cof.basis xs one=Cof.scaleRow (Cof.basisTo xs one xs.length) (Cof.inv (Cof.polyAt (Cof.basisTo xs one xs.length) xs[one])):=by simp [Cof.basis,ho]
   have HB:=hid hbt
   clear hbt
   go_wp2_with fail
   refine (at_n _ _ _ (Cof.basisTo xs one xs.length) xs[one] _ HL.out hrd (by omega)).mono ?_
   rintro e w1 ⟨rfl,hb1⟩
   go_wp2_with fail
   refine (qhw _ _).mono ?_
   rintro e w1' ⟨rfl,rfl⟩
   go_wp2_with fail
   refine (qlp _ _ _ (Cof.basisTo xs one xs.length) _ _ HL.out (hrd.below hb1 (Nat.le_refl _)) (by omega)).mono ?_
   rintro e w2 ⟨g2,rfl,hrd2,hb2⟩
   go_wp2
   go_ret
   exact ⟨_,_,_,rfl,by rw [HB.out,Cof.length_scaleRow];exact HL.out,by rw [HB.out];exact hrd2,hbel.trans ((hb1.mono hbel.size).trans (hb2.mono (Nat.le_trans hbel.size hb1.size)))⟩
theorem Tryz.infoPoly:(Tryz.prog.info? 243).map (fun i=>(i.zero,i.size,i.bytes))=some (some (.slice none 0 0),1,24):=by kernel_rfl
theorem qjh (a:Option Addr) (cap n:Nat) (xs:List UInt8) (w:World) (en:n=xs.length) (hr:Rd w a (bs xs)) (hn:n≤800) :
  Calls Tryz.prog 147 #[.slice a n cap] w fun e w' =>
   ∃g,e=.returned (.slice (some ⟨g,0,none⟩) n n)∧qaE w' (some ⟨g,0,none⟩) (Cof.bases xs)∧Below w.heap.size w w':=by
 subst en
 obtain ⟨i0,hi,hz0,hz1,hz2⟩:=info_parts Tryz.infoPoly
 go_enter Tryz.func147,Tryz.ntmps147
 go_wp2_with (first | (at_make;refine wpList_make_full _ rfl (.tmp 6) (.tmp 6) 240 rfl w.heap.size 243 i0 (.slice none 0 0) 1 Tryz.underlying240 hi hz0 hz1 .i64 .i64 _ _ xs.length rfl rfl rfl rfl (by rw [hz2];omega) (by unfold maxLen;omega) (Nat.le_refl _) ?_;intro w1 hown1 hgrow1;have hb1:=grown_below hgrow1;have HO1:=hid (qdX (Cof.basis xs) hown1);clear hown1 hgrow1)|fail)
 go_loopw [10] (fun i wr=>∃(k:Nat) (vs:List Value),k≤xs.length∧i=.int .i64 k∧Rows wr w.heap.size w.heap.size xs.length k 243 (Cof.basis xs) vs∧Below w.heap.size w wr)
  (fun i _=>xs.length-(intOf i).toNat)
 case atStart=>exact ⟨0,_,Nat.zero_le _,rfl,HO1.out,hb1⟩
 case round =>
  obtain ⟨k,vs,hk,rfl,hrows,hbel⟩:=hrel
  by_cases hlt:k<xs.length
  ·have HR:=hid hrows
   clear hrows
   go_wp2_with fail
   refine (qiZ _ _ _ xs k _ rfl (hr.below hbel (Nat.le_refl _)) (by omega) (by omega)).mono ?_
   rintro e w2 ⟨a2,l2,cap2,rfl,hl2,hrd2,hb2⟩
   have hrows2:=HR.out.kept hb2 (Nat.le_refl _)
   have hfr:=hrows2.own.frozenAt k
   obtain ⟨a3,l3,c3,hc3⟩:=hrows2.cell k hlt
   have HN:=hid (hrows2.next (cap:=cap2) hl2 hrd2)
   clear hrows2 hl2 hrd2
   go_wp2
   go_roundw
   case rel=>exact ⟨k+1,_,by omega,by go_num,HN.out,(hbel.trans (hb2.mono hbel.size)).setCell (Nat.le_refl _) _⟩
   case measure=>simp [intOf];omega
  ·have hkn:k=xs.length:=by omega
   subst hkn
   have HF:=hid hrows.full
   clear hrows
   go_wp2
   go_ret
   exact ⟨_,rfl,HF.out,hbel⟩
end Go.Proofs.YtcegdgmbponapaaGreatDoor