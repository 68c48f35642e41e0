import Derived.Test.YtcegdgmbponapaaGreatDoorPart13
import Derived.Test.YtcegdgmbponapaaGreatDoorRepeat
set_option maxRecDepth 100000
set_option maxHeartbeats 4000000
namespace Go.Proofs.YtcegdgmbponapaaGreatDoor
open Go.RowKit
attribute [local go_sem ↓] Go.wp_at_zero Go.wp_at_succ
theorem qlb {w:World} {base g n:Nat} {e:TypeId} {rows:List (List UInt8)} (F:Nat→List UInt8) (ho:OwnR w base g n e) (hr:qaE w (some ⟨g,0,none⟩) rows) (hl:rows.length=n) :
  ∃vs,Rows w base g n 0 e F vs∧∀(j:Nat) (v:Value),vs[j]?=some v→∃a' c',v=.slice a' (rows.getD j []).length c'∧Rd w a' (bs (rows.getD j [])):=by
 obtain ⟨vs,hown⟩:=ho
 have hvl:=(qap hown).2.2
 have key:∀(j:Nat) (v:Value),vs[j]?=some v→∃a' c',v=.slice a' (rows.getD j []).length c'∧Rd w a' (bs (rows.getD j [])):=by
  intro j v hv
  have hj:j<n:=by
   rcases Nat.lt_or_ge j vs.length with h | h
   ·omega
   ·rw [List.getElem?_eq_none h] at hv;cases hv
  obtain ⟨b,o,a',c',hga,_,hc,hrd⟩:=hr.at j (by omega)
  cases hga
  rw [Nat.zero_add,hown.cellAt j (by omega),hv] at hc
  cases hc
  exact ⟨a',c',rfl,hrd⟩
 refine ⟨vs,⟨hown,fun v hv=>?_,fun j v hj=>by omega⟩,key⟩
 obtain ⟨j,hj,rfl⟩:=List.getElem_of_mem hv
 obtain ⟨a',c',h,_⟩:=key j _ (List.getElem?_eq_getElem hj)
 exact ⟨a',_,c',h⟩
theorem qjg {w:World} {base n size:Nat} {e:TypeId} {L:List Value} {a:Option Addr} {m c:Nat} (h:w.ownsRow base e size (.slice a m c) n L):m≤c:=by
 rcases h with ⟨_,⟨h2,_⟩|⟨g,cap,cur,h2,_,_,h5,_⟩⟩
 ·cases h2;exact Nat.le_refl _
 ·cases h2;exact h5
theorem qcW (k:Nat):Lib.repeatL [0] k=List.replicate k 0:=by
 induction k with
 | zero=>rfl
 | succ k ih=>simp [Lib.repeatL,ih,List.replicate_succ]
def qaq (n:Nat) (xs:Nat→RecV) (ys:List RecV) (t q:Nat):RecV :=
 if q+n<t then ((xs q).laid (ys[q]!)).turned else if q<t then (xs q).laid (ys[q]!) else xs q
theorem qe7 {n:Nat} {xs:Nat→RecV} {ys:List RecV} {i q j:Nat} (hi:i<n) (hq:q<n) (hqi:q≠i) (hj:j=0∨j=1):qaq n xs ys (j*n+i+1) q=qaq n xs ys (j*n+i) q:=by
 have e1:(q+n<j*n+i+1)=(q+n<j*n+i):=by rcases hj with rfl | rfl<;>exact propext ⟨fun h=>by omega,fun h=>by omega⟩
 have e2:(q<j*n+i+1)=(q<j*n+i):=by rcases hj with rfl | rfl<;>exact propext ⟨fun h=>by omega,fun h=>by omega⟩
 unfold qaq
 simp only [e1,e2]
theorem Rd.setCell_kind {w:World} {a:Option Addr} {cs:List Value} {g k:Nat} (hr:Rd w a cs) (u:Value) (h:∀(q:Nat) (v:Value),cs[q]?=some v→∀j,w.cell? ⟨g,j,none⟩≠some v):Rd (w.setCell ⟨g,k,none⟩ u) a cs:=by
 intro j v hj
 obtain ⟨b,o,h1,h2,h3⟩:=hr j v hj
 have hbg:b≠g:=by rintro rfl;exact h j v hj _ h3
 refine ⟨b,o,h1,by simpa using h2,?_⟩
 rw [World.cell?_of_block (Below.heap_setCell w ⟨g,k,none⟩ u b hbg)];exact h3
theorem qaE.setCell_kind {w:World} {a:Option Addr} {rows:List (List UInt8)} {g k:Nat} (hr:qaE w a rows) (u:Value) (h1:∀j a n c,w.cell? ⟨g,j,none⟩≠some (.slice a n c)) (h2:∀j x,w.cell? ⟨g,j,none⟩≠some (.int .u8 x)):qaE (w.setCell ⟨g,k,none⟩ u) a rows:=by
 obtain ⟨vs,e1,e2,e3⟩:=hr
 refine ⟨vs,e1,e2.setCell_kind u (fun q v hq j hc=>?_),fun j v hj=>?_⟩
 ·obtain ⟨a',c',rfl,_⟩:=e3 q v hq
  exact h1 j _ _ _ hc
 ·obtain ⟨a',c',e4,e5⟩:=e3 j v hj
  refine ⟨a',c',e4,e5.setCell_kind u (fun q x hq i hc=>?_)⟩
  have hm:=List.mem_of_getElem? hq
  simp only [bs,List.mem_map] at hm
  obtain ⟨y,_,rfl⟩:=hm
  exact h2 i _ hc
def Apart (v v':Value):Prop:=v.ownBlock=none∨v'.ownBlock=none∨v.ownBlock≠v'.ownBlock
theorem Apart.symm {v v':Value} (h:Apart v v'):Apart v' v:=by
 rcases h with h | h | h
 ·exact .inr (.inl h)
 ·exact .inl h
 ·exact .inr (.inr (fun e=>h e.symm))
theorem Apart.left {v v':Value} (h:Apart v v'):v.ownBlock=none∨v.ownBlock≠v'.ownBlock:=by
 rcases h with h | h | h
 ·exact .inl h
 ·cases hv:v.ownBlock with
  | none=>exact .inl rfl
  | some b=>exact .inr (by rw [h];simp)
 ·exact .inr h
structure Two (w:World) (base:Nat) (vx vy:Value) (xs ys:List UInt8):Prop where
 x:w.ownsRow base 5 1 vx xs.length (bs xs)
 y:w.ownsRow base 5 1 vy ys.length (bs ys)
 apart:Apart vx vy
theorem qkd (xs:List UInt8) (a:UInt8):bs (xs++[a])=bs xs++[.int .u8 a.toNat]:=by simp [bs]
end Go.Proofs.YtcegdgmbponapaaGreatDoor
namespace Cof
theorem qln (b:UInt8):b &&& 128=0∨b &&& 128=128:=by
 have:=all256 (fun b=>b &&& 128 == 0 || b &&& 128 == 128) (by decide +kernel) b
 simpa using this
theorem tx_add (a b:UInt8):tx (a^^^b)=tx a^^^tx b:=by
 unfold tx
 rw [qjH,UInt8.shiftLeft_xor]
 rcases qln a with h | h<;>rcases qln b with h' | h'<;>simp [h,h']
 ·rw [UInt8.xor_assoc]
 ·rw [UInt8.xor_assoc,UInt8.xor_comm (b <<< 1) 27,←UInt8.xor_assoc]
 ·rw [x4];simp
theorem qjn (n:Nat) (a b c:UInt8):mulN n (a^^^b) c=mulN n a c^^^mulN n b c:=by
 induction n generalizing a b c with
 | zero=>simp [mulN]
 | succ n ih =>
  simp only [mulN,tx_add,ih]
  rw [x4]
  congr 1
  rcases bit01 c with h | h<;>simp [h]
theorem add_mul (a b c:UInt8):mul (a^^^b) c=mul a c^^^mul b c:=qjn 8 a b c
def Add (f:UInt8→UInt8):Prop:=∀x y,f (x^^^y)=f x^^^f y
theorem Add.zero {f:UInt8→UInt8} (h:Add f):f 0=0:=by
 have:=h 0 0
 simpa using this
theorem qlN (x:UInt8):((((((((x &&& 1)^^^(x &&& 2))^^^(x &&& 4))^^^(x &&& 8))^^^(x &&& 16))^^^(x &&& 32))^^^(x &&& 64))^^^(x &&& 128))=x:=by
 have:=all256 (fun x=>((((((((x &&& 1)^^^(x &&& 2))^^^(x &&& 4))^^^(x &&& 8))^^^(x &&& 16))^^^(x &&& 32))^^^(x &&& 64))^^^(x &&& 128)) == x) (by decide +kernel) x
 simpa using this
def pow2:List UInt8:=[1,2,4,8,16,32,64,128]
theorem bit_of (x k:UInt8) (hk:k∈pow2):x &&& k=0∨x &&& k=k:=by
 have:=all256 (fun x=>pow2.all fun k=>x &&& k == 0 || x &&& k == k) (by decide +kernel) x
 have:=List.all_eq_true.1 this k hk
 simpa using this
theorem Add.ext {f g:UInt8→UInt8} (hf:Add f) (hg:Add g) (h:∀k∈pow2,f k=g k) (x:UInt8):f x=g x:=by
 have hk:∀k∈pow2,f (x &&& k)=g (x &&& k):=by
  intro k hk
  rcases bit_of x k hk with h0 | h0
  ·rw [h0,hf.zero,hg.zero]
  ·rw [h0,h k hk]
 rw [←qlN x]
 simp only [hf _ _,hg _ _]
 rw [hk 1 (by simp [pow2]),hk 2 (by simp [pow2]),hk 4 (by simp [pow2]),hk 8 (by simp [pow2]),hk 16 (by simp [pow2]),hk 32 (by simp [pow2]),hk 64 (by simp [pow2]),hk 128 (by simp [pow2])]
theorem mul_comm (a b:UInt8):mul a b=mul b a:=by
 refine Add.ext (f:=fun a=>mul a b) (g:=fun a=>mul b a) (fun x y=>add_mul x y b) (fun x y=>mul_add b x y) ?_ a
 intro k hk
 refine Add.ext (f:=fun b=>mul k b) (g:=fun b=>mul b k) (fun x y=>mul_add k x y) (fun x y=>add_mul x y k) ?_ b
 intro j hj
 have:(pow2.all fun k=>pow2.all fun j=>mul k j == mul j k)=true:=by decide +kernel
 exact beq_iff_eq.1 (List.all_eq_true.1 (List.all_eq_true.1 this k hk) j hj)
theorem mul_assoc (a b c:UInt8):mul (mul a b) c=mul a (mul b c):=by
 refine Add.ext (f:=fun a=>mul (mul a b) c) (g:=fun a=>mul a (mul b c)) (fun x y=>by simp only [add_mul]) (fun x y=>by simp only [add_mul]) ?_ a
 intro i hi
 refine Add.ext (f:=fun b=>mul (mul i b) c) (g:=fun b=>mul i (mul b c)) (fun x y=>by simp only [mul_add,add_mul]) (fun x y=>by simp only [add_mul,mul_add]) ?_ b
 intro j hj
 refine Add.ext (f:=fun c=>mul (mul i j) c) (g:=fun c=>mul i (mul j c)) (fun x y=>by simp only [mul_add]) (fun x y=>by simp only [mul_add]) ?_ c
 intro k hk
 have:(pow2.all fun i=>pow2.all fun j=>pow2.all fun k=>mul (mul i j) k == mul i (mul j k))=true:=by decide +kernel
 exact beq_iff_eq.1 (List.all_eq_true.1 (List.all_eq_true.1 (List.all_eq_true.1 this i hi) j hj) k hk)
theorem mul_inv (a:UInt8) (h:a≠0):mul a (inv a)=1:=by
 have:=all256 (fun a=>a == 0 || mul a (inv a) == 1) (by decide +kernel) a
 simpa [h] using this
theorem mul_one (a:UInt8):mul a 1=a:=by rw [mul_comm,one_mul]
theorem mul_eq_zero {a b:UInt8} (h:mul a b=0) (ha:a≠0):b=0:=by
 have:mul (inv a) (mul a b)=b:=by rw [←mul_assoc,mul_comm (inv a) a,mul_inv a ha,one_mul]
 rw [←this,h,mul_zero]
theorem qgG {a b:UInt8} (h:a^^^b=0):a=b:=by
 have:(a^^^b)^^^b=b:=by rw [h];simp
 rw [UInt8.xor_assoc] at this
 simpa using this
theorem qbs (c:UInt8) (p:List UInt8) (x:UInt8):polyAt (c :: p) x=mul (polyAt p x) x^^^c:=rfl
end Cof
namespace Cof
theorem qiA (q:List UInt8):sumRow [] q=q:=by
 apply List.ext_getElem
 ·simp [sumRow]
 ·intro i h1 h2;simp [sumRow,h2]
theorem qgZ (p:List UInt8):sumRow p []=p:=by
 apply List.ext_getElem
 ·simp [sumRow]
 ·intro i h1 h2;simp [sumRow,h2]
theorem qht (a b:UInt8) (p q:List UInt8):sumRow (a :: p) (b :: q)=(a^^^b) :: sumRow p q:=by
 apply List.ext_getElem
 ·simp [sumRow]
 ·intro i h1 h2
  cases i with
  | zero=>simp [sumRow]
  | succ i=>simp [sumRow]
theorem qij (p q:List UInt8) (x:UInt8):polyAt (sumRow p q) x=polyAt p x^^^polyAt q x:=by
 induction p generalizing q with
 | nil=>rw [qiA];simp [polyAt]
 | cons a p ih =>
  cases q with
  | nil=>rw [qgZ];simp [polyAt]
  | cons b q=>rw [qht,qbs,qbs,qbs,ih,add_mul,x4]
theorem qdz (p:List UInt8) (f x:UInt8):polyAt (scaleRow p f) x=mul f (polyAt p x):=by
 induction p with
 | nil=>simp [scaleRow,polyAt,mul_zero]
 | cons c p ih =>
  have:scaleRow (c :: p) f=mul f c :: scaleRow p f:=rfl
  rw [this,qbs,qbs,ih,mul_add,mul_assoc]
theorem qeq (p:List UInt8) (r x:UInt8):polyAt (withRoot p r) x=mul (polyAt p x) (x^^^r):=by
 rw [withRoot,qij,qdz,qbs,mul_add,mul_comm r];simp
def prodTo (xs:List UInt8) (i:Nat) (x:UInt8):Nat→UInt8
 | 0=>1
 | k+1=>if k=i then prodTo xs i x k else mul (prodTo xs i x k) (x^^^xs.getD k 0)
theorem qeH (xs:List UInt8) (i k:Nat) (x:UInt8):polyAt (basisTo xs i k) x=prodTo xs i x k:=by
 induction k with
 | zero=>simp [basisTo,prodTo,polyAt,zero_mul]
 | succ k ih =>
  simp only [basisTo,prodTo]
  split
  ·exact ih
  ·rw [qeq,ih]
theorem basis_val (xs:List UInt8) (i:Nat) (x:UInt8):polyAt (basis xs i) x=mul (inv (prodTo xs i (xs.getD i 0) xs.length)) (prodTo xs i x xs.length):=by
 rw [basis,qdz,qeH,qeH]
theorem prodTo_ne (xs:List UInt8) (i k:Nat) (x:UInt8) (h:∀j,j<k→j≠i→xs.getD j 0≠x):prodTo xs i x k≠0:=by
 induction k with
 | zero=>simp [prodTo]
 | succ k ih =>
  have h1:=ih (fun j hj=>h j (by omega))
  simp only [prodTo]
  split
  ·exact h1
  ·rename_i hk
   intro hz
   have h2:=mul_eq_zero hz h1
   exact h k (by omega) hk (qgG h2).symm
theorem nodup_ne {xs:List UInt8} (hn:xs.Nodup) {i j:Nat} (hi:i<xs.length) (hj:j<xs.length) (h:j≠i):xs.getD j 0≠xs.getD i 0:=by
 rw [List.getD_eq_getElem?_getD,List.getD_eq_getElem?_getD,List.getElem?_eq_getElem hi,List.getElem?_eq_getElem hj]
 simp only [Option.getD_some]
 intro he
 rcases Nat.lt_or_gt_of_ne h with h' | h'
 ·exact List.pairwise_iff_getElem.1 hn j i hj hi h' he
 ·exact List.pairwise_iff_getElem.1 hn i j hi hj h' he.symm
def itp (xs ys:List UInt8) (x:UInt8):UInt8:=csum (fun j=>polyAt (basis xs j) x) (fun j=>ys.getD j 0) xs.length
end Cof
theorem qd2 (x:Nat) (h:x<256):(x:Int)=((UInt8.ofNat x).toNat:Int):=by simp [Nat.mod_eq_of_lt h]