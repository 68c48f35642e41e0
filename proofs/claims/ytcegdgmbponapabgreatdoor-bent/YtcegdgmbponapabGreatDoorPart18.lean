/-
  The elements are a field; polynomials through points.
  Polynomials through points: there is just one.
  The tape by which T - 1 stores are dealt what is wanted.
  Pieces put together: the polynomial through any of them, as many as the threshold, is the one that they were cut by. Nothing of the program in it.
-/
import Derived.Test.YtcegdgmbponapabGreatDoorPart16
namespace Cof
theorem bit128 (b:UInt8):b &&& 128=0∨b &&& 128=128:=by
 have:=all256 (fun b=>b &&& 128 == 0 || b &&& 128 == 128) (by decide +kernel) b
 simpa using this
theorem tx_add (a b:UInt8):tx (a^^^b)=tx a^^^tx b:=by
 unfold tx
 rw [and_xor,UInt8.shiftLeft_xor]
 rcases bit128 a with h | h<;>rcases bit128 b with h' | h'<;>simp [h,h']
 ·rw [UInt8.xor_assoc]
 ·rw [UInt8.xor_assoc,UInt8.xor_comm (b <<< 1) 27,←UInt8.xor_assoc]
 ·rw [x4];simp
theorem mulN_addL (n:Nat) (a b c:UInt8):mulN n (a^^^b) c=mulN n a c^^^mulN n b c:=by
 induction n generalizing a b c with
 | zero=>simp [mulN]
 | succ n ih =>
  simp only [mulN,tx_add,ih]
  rw [x4]
  congr 1
  rcases bit01 c with h | h<;>simp [h]
theorem add_mul (a b c:UInt8):mul (a^^^b) c=mul a c^^^mul b c:=mulN_addL 8 a b c
def Add (f:UInt8→UInt8):Prop:=∀x y,f (x^^^y)=f x^^^f y
theorem Add.zero {f:UInt8→UInt8} (h:Add f):f 0=0:=by
 have:=h 0 0
 simpa using this
theorem bits_of (x:UInt8):((((((((x &&& 1)^^^(x &&& 2))^^^(x &&& 4))^^^(x &&& 8))^^^(x &&& 16))^^^(x &&& 32))^^^(x &&& 64))^^^(x &&& 128))=x:=by
 have:=all256 (fun x=>((((((((x &&& 1)^^^(x &&& 2))^^^(x &&& 4))^^^(x &&& 8))^^^(x &&& 16))^^^(x &&& 32))^^^(x &&& 64))^^^(x &&& 128)) == x) (by decide +kernel) x
 simpa using this
def pow2:List UInt8:=[1,2,4,8,16,32,64,128]
theorem bit_of (x k:UInt8) (hk:k∈pow2):x &&& k=0∨x &&& k=k:=by
 have:=all256 (fun x=>pow2.all fun k=>x &&& k == 0 || x &&& k == k) (by decide +kernel) x
 have:=List.all_eq_true.1 this k hk
 simpa using this
theorem Add.ext {f g:UInt8→UInt8} (hf:Add f) (hg:Add g) (h:∀k∈pow2,f k=g k) (x:UInt8):f x=g x:=by
 have hk:∀k∈pow2,f (x &&& k)=g (x &&& k):=by
  intro k hk
  rcases bit_of x k hk with h0 | h0
  ·rw [h0,hf.zero,hg.zero]
  ·rw [h0,h k hk]
 rw [←bits_of x]
 simp only [hf _ _,hg _ _]
 rw [hk 1 (by simp [pow2]),hk 2 (by simp [pow2]),hk 4 (by simp [pow2]),hk 8 (by simp [pow2]),hk 16 (by simp [pow2]),hk 32 (by simp [pow2]),hk 64 (by simp [pow2]),hk 128 (by simp [pow2])]
theorem mul_comm (a b:UInt8):mul a b=mul b a:=by
 refine Add.ext (f:=fun a=>mul a b) (g:=fun a=>mul b a) (fun x y=>add_mul x y b) (fun x y=>mul_add b x y) ?_ a
 intro k hk
 refine Add.ext (f:=fun b=>mul k b) (g:=fun b=>mul b k) (fun x y=>mul_add k x y) (fun x y=>add_mul x y k) ?_ b
 intro j hj
 have:(pow2.all fun k=>pow2.all fun j=>mul k j == mul j k)=true:=by decide +kernel
 exact beq_iff_eq.1 (List.all_eq_true.1 (List.all_eq_true.1 this k hk) j hj)
theorem mul_assoc (a b c:UInt8):mul (mul a b) c=mul a (mul b c):=by
 refine Add.ext (f:=fun a=>mul (mul a b) c) (g:=fun a=>mul a (mul b c)) (fun x y=>by simp only [add_mul]) (fun x y=>by simp only [add_mul]) ?_ a
 intro i hi
 refine Add.ext (f:=fun b=>mul (mul i b) c) (g:=fun b=>mul i (mul b c)) (fun x y=>by simp only [mul_add,add_mul]) (fun x y=>by simp only [add_mul,mul_add]) ?_ b
 intro j hj
 refine Add.ext (f:=fun c=>mul (mul i j) c) (g:=fun c=>mul i (mul j c)) (fun x y=>by simp only [mul_add]) (fun x y=>by simp only [mul_add]) ?_ c
 intro k hk
 have:(pow2.all fun i=>pow2.all fun j=>pow2.all fun k=>mul (mul i j) k == mul i (mul j k))=true:=by decide +kernel
 exact beq_iff_eq.1 (List.all_eq_true.1 (List.all_eq_true.1 (List.all_eq_true.1 this i hi) j hj) k hk)
theorem mul_inv (a:UInt8) (h:a≠0):mul a (inv a)=1:=by
 have:=all256 (fun a=>a == 0 || mul a (inv a) == 1) (by decide +kernel) a
 simpa [h] using this
theorem mul_eq_zero {a b:UInt8} (h:mul a b=0) (ha:a≠0):b=0:=by
 have:mul (inv a) (mul a b)=b:=by rw [←mul_assoc,mul_comm (inv a) a,mul_inv a ha,one_mul]
 rw [←this,h,mul_zero]
theorem xor_eq_zero {a b:UInt8} (h:a^^^b=0):a=b:=by
 have:(a^^^b)^^^b=b:=by rw [h];simp
 rw [UInt8.xor_assoc] at this
 simpa using this
def quo (r:UInt8):List UInt8→List UInt8
 | []=>[]
 | _ :: p=>polyAt p r :: quo r p
theorem quo_length (r:UInt8) (p:List UInt8):(quo r p).length=p.length:=by
 induction p with
 | nil=>rfl
 | cons c p ih=>simp [quo,ih]
theorem polyAt_cons (c:UInt8) (p:List UInt8) (x:UInt8):polyAt (c :: p) x=mul (polyAt p x) x^^^c:=rfl
theorem quo_eq (p:List UInt8) (r x:UInt8):polyAt p x^^^polyAt p r=mul (polyAt (quo r p) x) (x^^^r):=by
 induction p with
 | nil=>simp [polyAt,quo,zero_mul]
 | cons c p ih =>
  rw [polyAt_cons,polyAt_cons,quo,polyAt_cons,x4]
  simp only [UInt8.xor_self,UInt8.xor_zero]
  rw [add_mul,mul_assoc,mul_comm x (x^^^r),←mul_assoc,←ih,add_mul,mul_add]
  generalize mul (polyAt p x) x=A
  generalize mul (polyAt p r) x=B
  generalize mul (polyAt p r) r=C
  rw [UInt8.xor_assoc,←UInt8.xor_assoc B B C]
  simp
theorem polyAt_dropLast (p:List UInt8) (x:UInt8) (h:p.getLast?=some 0):polyAt p.dropLast x=polyAt p x:=by
 induction p with
 | nil=>rfl
 | cons c p ih =>
  cases p with
  | nil =>
   simp at h
   subst h
   simp [polyAt,zero_mul]
  | cons d q =>
   rw [List.dropLast_cons_cons,polyAt_cons,polyAt_cons,ih (by simpa using h)]
theorem quo_last (r c:UInt8) (p:List UInt8):(quo r (c :: p)).getLast?=some 0:=by
 induction p generalizing c with
 | nil=>simp [quo,polyAt]
 | cons d p ih =>
  have:=ih d
  rw [quo,List.getLast?_cons]
  rw [this];rfl
theorem roots (xs:List UInt8):∀(p:List UInt8),p.length≤xs.length→xs.Nodup→(∀r∈xs,polyAt p r=0)→∀x,polyAt p x=0:=by
 induction xs with
 | nil =>
  intro p hl _ _ x
  have:p=[]:=List.length_eq_zero_iff.1 (by simpa using hl)
  subst this;rfl
 | cons r xs ih =>
  intro p hl hn hr x
  cases p with
  | nil=>rfl
  | cons c q =>
   have h0:polyAt (c :: q) r=0:=hr r (by simp)
   have hq:∀y,polyAt (quo r (c :: q)).dropLast y=0:=by
    apply ih
    ·rw [List.length_dropLast,quo_length];simp at hl ⊢;omega
    ·exact (List.nodup_cons.1 hn).2
    ·intro s hs
     have hne:s≠r:=by rintro rfl;exact (List.nodup_cons.1 hn).1 hs
     have e:=quo_eq (c :: q) r s
     rw [h0,hr s (List.mem_cons_of_mem _ hs)] at e
     rw [polyAt_dropLast _ _ (quo_last r c q)]
     have hz:mul (s^^^r) (polyAt (quo r (c :: q)) s)=0:=by rw [mul_comm,←e];simp
     exact mul_eq_zero hz (fun h=>hne (xor_eq_zero h))
   have e:=quo_eq (c :: q) r x
   rw [h0,←polyAt_dropLast _ x (quo_last r c q),hq x,zero_mul] at e
   simpa using e
end Cof
namespace Cof
theorem sumRow_nil (q:List UInt8):sumRow [] q=q:=by
 apply List.ext_getElem
 ·simp [sumRow]
 ·intro i h1 h2;simp [sumRow,h2]
theorem sumRow_nil' (p:List UInt8):sumRow p []=p:=by
 apply List.ext_getElem
 ·simp [sumRow]
 ·intro i h1 h2;simp [sumRow,h2]
theorem sumRow_cons (a b:UInt8) (p q:List UInt8):sumRow (a :: p) (b :: q)=(a^^^b) :: sumRow p q:=by
 apply List.ext_getElem
 ·simp [sumRow]
 ·intro i h1 h2
  cases i with
  | zero=>simp [sumRow]
  | succ i=>simp [sumRow]
theorem polyAt_sum (p q:List UInt8) (x:UInt8):polyAt (sumRow p q) x=polyAt p x^^^polyAt q x:=by
 induction p generalizing q with
 | nil=>rw [sumRow_nil];simp [polyAt]
 | cons a p ih =>
  cases q with
  | nil=>rw [sumRow_nil'];simp [polyAt]
  | cons b q=>rw [sumRow_cons,polyAt_cons,polyAt_cons,polyAt_cons,ih,add_mul,x4]
theorem polyAt_scale (p:List UInt8) (f x:UInt8):polyAt (scaleRow p f) x=mul f (polyAt p x):=by
 induction p with
 | nil=>simp [scaleRow,polyAt,mul_zero]
 | cons c p ih =>
  have:scaleRow (c :: p) f=mul f c :: scaleRow p f:=rfl
  rw [this,polyAt_cons,polyAt_cons,ih,mul_add,mul_assoc]
theorem polyAt_withRoot (p:List UInt8) (r x:UInt8):polyAt (withRoot p r) x=mul (polyAt p x) (x^^^r):=by
 rw [withRoot,polyAt_sum,polyAt_scale,polyAt_cons,mul_add,mul_comm r];simp
def prodTo (xs:List UInt8) (i:Nat) (x:UInt8):Nat→UInt8
 | 0=>1
 | k+1=>if k=i then prodTo xs i x k else mul (prodTo xs i x k) (x^^^xs.getD k 0)
theorem basisTo_at (xs:List UInt8) (i k:Nat) (x:UInt8):polyAt (basisTo xs i k) x=prodTo xs i x k:=by
 induction k with
 | zero=>simp [basisTo,prodTo,polyAt,zero_mul]
 | succ k ih =>
  simp only [basisTo,prodTo]
  split
  ·exact ih
  ·rw [polyAt_withRoot,ih]
theorem basis_val (xs:List UInt8) (i:Nat) (x:UInt8):polyAt (basis xs i) x=mul (inv (prodTo xs i (xs.getD i 0) xs.length)) (prodTo xs i x xs.length):=by
 rw [basis,polyAt_scale,basisTo_at,basisTo_at]
theorem prodTo_zero (xs:List UInt8) (i j k:Nat) (hj:j<k) (hij:j≠i):prodTo xs i (xs.getD j 0) k=0:=by
 induction k with
 | zero=>omega
 | succ k ih =>
  simp only [prodTo]
  by_cases hk:j=k
  ·subst hk
   rw [if_neg hij];simp [mul_zero]
  ·have:=ih (by omega)
   split
   ·exact this
   ·rw [this,zero_mul]
theorem prodTo_ne (xs:List UInt8) (i k:Nat) (x:UInt8) (h:∀j,j<k→j≠i→xs.getD j 0≠x):prodTo xs i x k≠0:=by
 induction k with
 | zero=>simp [prodTo]
 | succ k ih =>
  have h1:=ih (fun j hj=>h j (by omega))
  simp only [prodTo]
  split
  ·exact h1
  ·rename_i hk
   intro hz
   have h2:=mul_eq_zero hz h1
   exact h k (by omega) hk (xor_eq_zero h2).symm
theorem nodup_ne {xs:List UInt8} (hn:xs.Nodup) {i j:Nat} (hi:i<xs.length) (hj:j<xs.length) (h:j≠i):xs.getD j 0≠xs.getD i 0:=by
 rw [List.getD_eq_getElem?_getD,List.getD_eq_getElem?_getD,List.getElem?_eq_getElem hi,List.getElem?_eq_getElem hj]
 simp only [Option.getD_some]
 intro he
 rcases Nat.lt_or_gt_of_ne h with h' | h'
 ·exact List.pairwise_iff_getElem.1 hn j i hj hi h' he
 ·exact List.pairwise_iff_getElem.1 hn i j hi hj h' he.symm
theorem basis_node (xs:List UInt8) (hn:xs.Nodup) (i j:Nat) (hi:i<xs.length) (hj:j<xs.length):polyAt (basis xs i) (xs.getD j 0)=if i=j then 1 else 0:=by
 rw [basis_val]
 by_cases h:i=j
 ·subst h
  rw [if_pos rfl,mul_comm,mul_inv]
  exact prodTo_ne xs i xs.length _ (fun j hj hne=>nodup_ne hn hi hj hne)
 ·rw [if_neg h,prodTo_zero xs i j xs.length hj (by omega),mul_zero]
theorem basisTo_length (xs:List UInt8) (i k:Nat):(basisTo xs i k).length=if i<k then k else k+1:=by
 induction k with
 | zero=>simp [basisTo]
 | succ k ih =>
  simp only [basisTo]
  by_cases h:k=i
  ·subst h;simp [ih]
  ·rw [if_neg h,length_withRoot,ih]
   by_cases h2:i<k
   ·simp [h2,show i<k+1 from by omega]
   ·simp [h2,show ¬i<k+1 from by omega]
theorem basis_length (xs:List UInt8) (i:Nat) (hi:i<xs.length):(basis xs i).length=xs.length:=by
 rw [basis,length_scaleRow,basisTo_length,if_pos hi]
def comb (xs ys:List UInt8):Nat→List UInt8
 | 0=>[]
 | k+1=>sumRow (comb xs ys k) (scaleRow (basis xs k) (ys.getD k 0))
theorem comb_at (xs ys:List UInt8) (k:Nat) (x:UInt8):polyAt (comb xs ys k) x=csum (fun j=>polyAt (basis xs j) x) (fun j=>ys.getD j 0) k:=by
 induction k with
 | zero=>simp [comb,csum,polyAt]
 | succ k ih=>rw [comb,polyAt_sum,polyAt_scale,ih,csum,mul_comm (ys.getD k 0)]
theorem comb_length (xs ys:List UInt8) (k:Nat) (hk:k≤xs.length):(comb xs ys k).length≤xs.length:=by
 induction k with
 | zero=>simp [comb]
 | succ k ih =>
  rw [comb,length_sumRow,length_scaleRow,basis_length xs k (by omega)]
  exact Nat.max_le.2 ⟨ih (by omega),Nat.le_refl _⟩
def itp (xs ys:List UInt8) (x:UInt8):UInt8:=csum (fun j=>polyAt (basis xs j) x) (fun j=>ys.getD j 0) xs.length
theorem itp_poly (xs ys:List UInt8) (x:UInt8):itp xs ys x=polyAt (comb xs ys xs.length) x:=(comb_at xs ys xs.length x).symm
theorem itp_node (xs ys:List UInt8) (hn:xs.Nodup) (j:Nat) (hj:j<xs.length):itp xs ys (xs.getD j 0)=ys.getD j 0:=by
 unfold itp
 rw [csum_congr (c':=fun i=>if i=j then 1 else 0) (y':=fun i=>ys.getD i 0) (fun i hi=>⟨basis_node xs hn i j hi hj,rfl⟩),csum_one,if_pos hj]
theorem poly_unique (xs p q:List UInt8) (hn:xs.Nodup) (hp:p.length≤xs.length) (hq:q.length≤xs.length) (h:∀j,j<xs.length→polyAt p (xs.getD j 0)=polyAt q (xs.getD j 0)) (x:UInt8):polyAt p x=polyAt q x:=by
 have:=roots xs (sumRow p q) (by rw [length_sumRow];exact Nat.max_le.2 ⟨hp,hq⟩) hn (by
  intro r hr
  obtain ⟨j,hj,rfl⟩:=List.mem_iff_getElem.1 hr
  rw [polyAt_sum]
  have:=h j hj
  rw [List.getD_eq_getElem?_getD,List.getElem?_eq_getElem hj,Option.getD_some] at this
  rw [this];simp) x
 rw [polyAt_sum] at this
 exact xor_eq_zero this
theorem itp_transfer (xs ys xs' ys':List UInt8) (hn:xs.Nodup) (hl:xs'.length=xs.length) (h:∀j,j<xs.length→itp xs' ys' (xs.getD j 0)=ys.getD j 0) (x:UInt8):itp xs ys x=itp xs' ys' x:=by
 rw [itp_poly,itp_poly]
 refine poly_unique xs _ _ hn (comb_length _ _ _ (Nat.le_refl _)) (by rw [←hl];exact comb_length _ _ _ (Nat.le_refl _)) (fun j hj=>?_) x
 rw [←itp_poly,←itp_poly,h j hj,itp_node xs ys hn j hj]
end Cof
theorem u8_int (x:Nat) (h:x<256):(x:Int)=((UInt8.ofNat x).toNat:Int):=by simp [Nat.mod_eq_of_lt h]
namespace Cof
def wantX (l:Nat) (few:List Nat):List UInt8:=run 128 l++few.map fun f=>UInt8.ofNat (f+1)
def wantY (v:List UInt8) (l u:Nat) (W:Nat→Nat→UInt8) (g:Nat):List UInt8:=(List.range l).map (fun j=>v.getD (g*l+j) 0)++(List.range u).map (W g)
def madeAt (v:List UInt8) (l:Nat) (few:List Nat) (W:Nat→Nat→UInt8) (g r:Nat):UInt8:=itp (wantX l few) (wantY v l few.length W g) (UInt8.ofNat (192+r))
def made (v:List UInt8) (l:Nat) (few:List Nat) (W:Nat→Nat→UInt8):Nat→List UInt8
 | 0=>[]
 | G+1=>made v l few W G++(List.range few.length).map (madeAt v l few W G)
theorem u8_inj {a b:Nat} (ha:a<256) (hb:b<256) (h:UInt8.ofNat a=UInt8.ofNat b):a=b:=by
 have:=congrArg UInt8.toNat h
 simpa [Nat.mod_eq_of_lt ha,Nat.mod_eq_of_lt hb] using this
theorem run_nodup (s c:Nat) (h:s+c≤256):(run s c).Nodup:=by
 rw [run]
 refine List.Pairwise.map _ (R:=fun a b=>a≠b∧a<c∧b<c) ?_ ?_
 ·rintro a b ⟨h1,h2,h3⟩ he
  exact h1 (by have:=u8_inj (by omega) (by omega) he;omega)
 ·refine List.Pairwise.imp_of_mem ?_ (List.nodup_range (n:=c))
  intro a b ha hb hab
  exact ⟨hab,List.mem_range.1 ha,List.mem_range.1 hb⟩
theorem nodup_app {a b:List UInt8} (ha:a.Nodup) (hb:b.Nodup) (h:∀x∈a,∀y∈b,x≠y):(a++b).Nodup:=by
 rw [List.nodup_append];exact ⟨ha,hb,h⟩
theorem few_nodup (few:List Nat) (hn:few.Nodup) (h8:∀f∈few,f<8):(few.map fun f=>UInt8.ofNat (f+1)).Nodup:=by
 refine List.Pairwise.map _ (R:=fun a b=>a≠b∧a<8∧b<8) ?_ ?_
 ·rintro a b ⟨h1,h2,h3⟩ he
  exact h1 (by have:=u8_inj (by omega) (by omega) he;omega)
 ·refine List.Pairwise.imp_of_mem ?_ hn
  intro a b ha hb hab
  exact ⟨hab,h8 a ha,h8 b hb⟩
theorem frm_nodup (l u:Nat) (hl:l≤8) (hu:u≤8):(run 128 l++run 192 u).Nodup:=by
 refine nodup_app (run_nodup 128 l (by omega)) (run_nodup 192 u (by omega)) ?_
 intro x hx y hy e
 obtain ⟨j,hj,rfl⟩:=List.mem_map.1 hx
 obtain ⟨r,hr,rfl⟩:=List.mem_map.1 hy
 have hj':=List.mem_range.1 hj
 have hr':=List.mem_range.1 hr
 have:=u8_inj (by omega) (by omega) e
 omega
theorem app_get_left (a b:List UInt8) (j:Nat) (h:j<a.length):(a++b).getD j 0=a.getD j 0:=by
 rw [List.getD_eq_getElem?_getD,List.getElem?_append_left h,←List.getD_eq_getElem?_getD]
end Cof
namespace Cof
def gather (rows:List (List UInt8)) (G:Nat):List UInt8:=(List.range G).flatMap fun g=>rows.map fun r=>r.getD g 0
def join (mode t l size:Nat) (ss:List Nat) (rows:List (List UInt8)):List UInt8 :=
 (gather (carry (ss.map fun s=>UInt8.ofNat (1+s)) rows (groupAt mode t l)) (ngroups mode t l size)).take size
theorem gather_length (rows:List (List UInt8)) (G:Nat):(gather rows G).length=G*rows.length:=by
 induction G with
 | zero=>simp [gather]
 | succ G ih =>
  have:gather rows (G+1)=gather rows G++rows.map fun r=>r.getD G 0:=by simp [gather,List.range_succ]
  rw [this,List.length_append,ih];simp [Nat.succ_mul]
theorem groupAt_length (mode t l:Nat):(groupAt mode t l).length=gsize mode t l:=by
 unfold groupAt gsize;split<;>simp [length_run]
theorem tapeAt_length (mode t:Nat):(tapeAt mode t).length=tsize mode t:=by
 unfold tapeAt tsize;split<;>simp [length_run]
theorem known_nodup (mode t l:Nat) (ht:t≤8) (hl:l≤8):(groupAt mode t l++tapeAt mode t).Nodup:=by
 unfold groupAt tapeAt
 split
 ·rw [List.append_nil];exact run_nodup 1 t (by omega)
 ·exact frm_nodup l (t-1) hl (by omega)
theorem pieceAt_itp' (v tape:List UInt8) (mode t l i g:Nat) :
  pieceAt v tape mode t l i g=itp (groupAt mode t l++tapeAt mode t) ((List.range (gsize mode t l+tsize mode t)).map (knownAt v tape (gsize mode t l) (tsize mode t) g)) (UInt8.ofNat (1+i)):=by
 unfold pieceAt itp
 rw [List.length_append,groupAt_length,tapeAt_length]
 apply csum_congr
 intro j hj
 refine ⟨rfl,?_⟩
 simp [hj]
theorem flat_range (h:Nat→UInt8) (w G:Nat):((List.range G).flatMap fun g=>(List.range w).map fun j=>h (g*w+j))=(List.range (G*w)).map h:=by
 induction G with
 | zero=>simp
 | succ G ih=>rw [List.range_succ,List.flatMap_append,ih,Nat.succ_mul,List.range_add];simp
theorem stores_nodup (ss:List Nat) (hn:ss.Nodup) (h8:∀s∈ss,s<8):(ss.map fun s=>UInt8.ofNat (1+s)).Nodup:=by
 have:=few_nodup ss hn h8
 have e:(ss.map fun s=>UInt8.ofNat (1+s))=ss.map fun f=>UInt8.ofNat (f+1):=List.map_congr_left fun s _=>by rw [Nat.add_comm]
 rw [e];exact this
theorem join_split (v tape:List UInt8) (mode t l n:Nat) (ss:List Nat) (hg0:0<gsize mode t l) (ht:t≤8) (hl:l≤8) (htp:tape.length=tsize mode t*ngroups mode t l v.length)
  (hn:ss.Nodup) (h8:∀s∈ss,s<8) (hsn:∀s∈ss,s<n) (hth:ss.length=gsize mode t l+tsize mode t) :
  join mode t l v.length ss (ss.map fun s=>(split v mode t l n tape).getD s [])=v:=by
 have key:∀g j,g<ngroups mode t l v.length→j<gsize mode t l→(carryTo (ss.map fun s=>UInt8.ofNat (1+s)) (ss.map fun s=>(split v mode t l n tape).getD s []) ((groupAt mode t l).getD j 0) ss.length).getD g 0=v.getD (g*gsize mode t l+j) 0:=by
  intro g j hg hj
  rw [carryTo_getD]
  have e1:csum (fun k=>polyAt (basis (ss.map fun s=>UInt8.ofNat (1+s)) k) ((groupAt mode t l).getD j 0)) (fun k=>((ss.map fun s=>(split v mode t l n tape).getD s []).getD k []).getD g 0) ss.length
    = itp (ss.map fun s=>UInt8.ofNat (1+s)) (ss.map fun s=>pieceAt v tape mode t l s g) ((groupAt mode t l).getD j 0):=by
   unfold itp
   rw [List.length_map]
   apply csum_congr
   intro k hk
   refine ⟨rfl,?_⟩
   have hsk:ss[k]<n:=hsn _ (List.getElem_mem hk)
   simp only [List.getD_eq_getElem?_getD,List.getElem?_map,List.getElem?_eq_getElem hk,Option.map_some,Option.getD_some]
   have:=split_row v tape mode t l n ss[k] hsk hg0 htp
   rw [List.getD_eq_getElem?_getD] at this
   rw [this]
   simp [hg]
  rw [e1,itp_transfer (ss.map fun s=>UInt8.ofNat (1+s)) _ (groupAt mode t l++tapeAt mode t) ((List.range (gsize mode t l+tsize mode t)).map (knownAt v tape (gsize mode t l) (tsize mode t) g)) (stores_nodup ss hn h8)
   (by rw [List.length_append,groupAt_length,tapeAt_length,List.length_map,hth]) (fun k hk=>?_)]
  ·have e2:(groupAt mode t l).getD j 0=(groupAt mode t l++tapeAt mode t).getD j 0:=by rw [app_get_left _ _ _ (by rw [groupAt_length];exact hj)]
   rw [e2,itp_node _ _ (known_nodup mode t l ht hl) j (by rw [List.length_append,groupAt_length,tapeAt_length];omega)]
   have:j<gsize mode t l+tsize mode t:=by omega
   simp [this,knownAt,hj]
  ·have hk':k<ss.length:=by simpa using hk
   rw [show (ss.map fun s=>UInt8.ofNat (1+s)).getD k 0=UInt8.ofNat (1+ss[k]) by simp [hk'],←pieceAt_itp']
   simp [hk']
 unfold join gather carry
 have e3:((List.range (ngroups mode t l v.length)).flatMap fun g=>((groupAt mode t l).map fun x=>carryTo (ss.map fun s=>UInt8.ofNat (1+s)) (ss.map fun s=>(split v mode t l n tape).getD s []) x (ss.map fun s=>(split v mode t l n tape).getD s []).length).map fun r=>r.getD g 0)
   = (List.range (ngroups mode t l v.length)).flatMap fun g=>(List.range (gsize mode t l)).map fun j=>v.getD (g*gsize mode t l+j) 0:=by
  refine congrArg List.flatten (List.map_congr_left fun g hg=>?_)
  have hg:=List.mem_range.1 hg
  rw [List.map_map,List.length_map]
  apply List.ext_getElem
  ·simp [groupAt_length]
  ·intro j h1 h2
   have hj:j<gsize mode t l:=by simpa using h2
   have hj2:j<(groupAt mode t l).length:=by rw [groupAt_length];exact hj
   have:=key g j hg hj
   rw [show (groupAt mode t l).getD j 0=(groupAt mode t l)[j] by simp [hj2]] at this
   simpa using this
 rw [e3,flat_range (fun i=>v.getD i 0)]
 apply List.ext_getElem
 ·rw [List.length_take,List.length_map,List.length_range]
  have:v.length≤ngroups mode t l v.length*gsize mode t l:=by
   unfold ngroups
   have h1:=Nat.div_add_mod (v.length+gsize mode t l-1) (gsize mode t l)
   have h2:=Nat.mod_lt (v.length+gsize mode t l-1) hg0
   rw [Nat.mul_comm]
   omega
  omega
 ·intro i h1 h2
  simp [h2]
end Cof