import Derived.Test.YtcegdgmbponapaaGreatDoorItoa
import Derived.Test.YtcegdgmbponapaaGreatDoorPart03
import Derived.Lib.AppendIntMem
import Derived.Lib.ItoaLen
import Derived.Stop.LaidErr
set_option maxRecDepth 100000
set_option maxHeartbeats 4000000
namespace Go.Proofs.YtcegdgmbponapaaGreatDoor
open Go.RowKit
attribute [local go_sem ↓] Go.wp_at_zero Go.wp_at_succ
def Tab (w:World):Prop:=Lib.TabIs Tryz.prog w "internal/strconv.uint64pow10" .u64 Lib.pow10Tab∧2<w.heap.size
theorem Tab.keeps {B:Nat} {w w':World} (h:Tab w) (hb:Below B w w') (hB:w.heap.size≤B):Tab w':=by
 refine ⟨?_,Nat.lt_of_lt_of_le h.2 hb.size⟩
 have h1:=h.1
 have hg:Tryz.prog.globalNamed "internal/strconv.uint64pow10" = some 2:=by kernel_rfl
 unfold Lib.TabIs World.var? at h1 ⊢
 rw [hg] at h1 ⊢
 simp only [Option.bind_some] at h1 ⊢
 rw [hb.block _ (Nat.lt_of_lt_of_le h.2 hB)]
 exact h1
theorem qc9 (z:Int) (hz:I64 z) (w:World) (hT:Tab w) :
  Calls Tryz.prog 174 #[.int .i64 z] w fun e w'=>∃s:ByteArray,e=.returned (.string s)∧s.size≤21∧Below w.heap.size w w':=by
 refine (Tryz.strconv_Itoa z hz.1 hz.2 w hT.1).mono ?_
 rintro e w' ⟨rfl,k,os,rfl⟩
 exact ⟨_,rfl,by show (Lib.itoa z).toArray.size≤21;simpa using Lib.itoa_length_le z hz.1 hz.2,Lib.below_grow _ w nl k os⟩
theorem qa9 (z:Int) (what:ByteArray) (e:Value) (k:Int) (d:Nat) (w:World) (hz:I64 z) (hw:what.size≤100) (hT:Tab w) (hc:Chain w k d e) :
  Calls Tryz.prog 130 #[.int .i64 z,.string what,e] w fun ev w'=>∃e',ev=.returned e'∧Chain w' k (d+1) e'∧Below w.heap.size w w':=by
 obtain ⟨te,ve,rfl⟩:=hc.shape
 have HC:=hid hc
 have HT:=hid hT
 have HZ:=hid hz
 clear hc hT hz
 go_enter Tryz.func130,Tryz.ntmps130
 go_wp2_with (first | (go_at_call 174;refine (qc9 z HZ.out _ HT.out).mono ?_;rintro e w1 ⟨s,rfl,hs,hb1⟩;have HC1:=hid (HC.out.keeps hb1 nl))|(go_at_call 78;refine (qav _ _ k d _ HC1.out).mono ?_;rintro e w2 ⟨e',rfl,hch,hb2⟩))
 go_ret
 exact ⟨_,rfl,hch,hb1.trans (hb2.mono hb1.size)⟩
theorem qbL (z:Int) (e:Value) (k:Int) (d:Nat) (w:World) (hz:I64 z) (hT:Tab w) (hc:Chain w k d e) :
  Calls Tryz.prog 136 #[.int .i64 z,e] w fun ev w'=>∃e',ev=.returned e'∧Chain w' k (d+1) e'∧Below w.heap.size w w':=by
 obtain ⟨te,ve,rfl⟩:=hc.shape
 have HC:=hid hc
 have HT:=hid hT
 have HZ:=hid hz
 clear hc hT hz
 go_enter Tryz.func136,Tryz.ntmps136
 go_wp2_with (first | (go_at_call 174;refine (qc9 z HZ.out _ HT.out).mono ?_;rintro e w1 ⟨s,rfl,hs,hb1⟩;have HC1:=hid (HC.out.keeps hb1 nl))|(go_at_call 78;refine (qav _ _ k d _ HC1.out).mono ?_;rintro e w2 ⟨e',rfl,hch,hb2⟩))
 go_ret
 exact ⟨_,rfl,hch,hb1.trans (hb2.mono hb1.size)⟩
def Fits (m t l n:Int):Prop:=1≤t∧t≤n∧1≤l∧(m=0∧t+l≤n+1∨m=1∧l=1)
theorem Fits.plan {m t l n:Int} (h:Fits m t l n) (h1:1≤n) (h8:n≤8):∃mode T L N:Nat,m=mode∧t=T∧l=L∧n=N∧qaj mode T L N:=by
 obtain ⟨a1,a2,a3,a4⟩:=h
 refine ⟨m.toNat,t.toNat,l.toNat,n.toNat,by omega,by omega,by omega,by omega,by omega,by omega,by omega,by omega,by omega,by omega⟩
theorem qk4 (m t l n:Int) (w:World) (hm:I64 m) (ht:I64 t) (hl:I64 l) (h1:1≤n) (h8:n≤8) (h:¬Fits m t l n) :
  Calls Tryz.prog 190 #[.agg #[.int .i64 m,.int .i64 t,.int .i64 l],.int .i64 n] w fun e w'=>e=.returned (.bool false)∧Below w.heap.size w w':=by
 obtain ⟨hm1,hm2⟩:=hm
 obtain ⟨ht1,ht2⟩:=ht
 obtain ⟨hl1,hl2⟩:=hl
 have hh:t<1∨n<t∨(1≤t∧t≤n)∧(m=0∧(l<1∨1≤l∧n-t<l-1)∨m=1∧l≠1∨m≠0∧m≠1):=by
  unfold Fits at h;omega
 clear h
 have hb:=(Below.refl w.heap.size w).alloc nl (.cells #[.int .i64 m,.int .i64 t,.int .i64 l] 29)
 rcases hh with h | h | ⟨⟨h2,h3⟩,⟨rfl,h | ⟨h,h4⟩⟩|⟨rfl,h⟩|⟨h,h4⟩⟩
 ·go_enter Tryz.func190,Tryz.ntmps190
  go_wp2
  go_ret
  exact ⟨rfl,hb⟩
 ·have h2:1≤t:=by omega
  go_enter Tryz.func190,Tryz.ntmps190
  go_wp2
  go_ret
  exact ⟨rfl,hb⟩
 ·go_enter Tryz.func190,Tryz.ntmps190
  go_wp2
  go_ret
  exact ⟨rfl,hb⟩
 ·go_enter Tryz.func190,Tryz.ntmps190
  go_wp2
  go_ret
  exact ⟨congrArg (fun b=>Ending.returned (.bool b)) (decide_eq_false (by omega)),hb⟩
 ·go_enter Tryz.func190,Tryz.ntmps190
  go_wp2
  go_ret
  exact ⟨congrArg (fun b=>Ending.returned (.bool b)) (beq_eq_false_iff_ne.2 h),hb⟩
 ·go_enter Tryz.func190,Tryz.ntmps190
  go_wp2
  go_ret
  exact ⟨rfl,hb⟩
theorem qfE (m t l n:Int) (w:World) (hm:I64 m) (ht:I64 t) (hl:I64 l) (hn:I64 n) (h:¬(1≤n∧n≤8∧Fits m t l n)) (hT:Tab w) :
  Calls Tryz.prog 142 #[.agg #[.int .i64 m,.int .i64 t,.int .i64 l],.int .i64 n] w fun e w'=>∃ev,e=.returned ev∧Chain w' 3 1 ev∧Below w.heap.size w w':=by
 have hba:=(Below.refl w.heap.size w).alloc nl (.cells #[.int .i64 m,.int .i64 t,.int .i64 l] 29)
 have HT:=hid (hT.keeps hba nl)
 have HN:=hid hn
 have HM:=hid hm
 have HTT:=hid ht
 have HL:=hid hl
 obtain ⟨hn1,hn2⟩:=hn
 clear hm ht hl hT
 rcases show n<1∨8<n∨1≤n∧n≤8 by omega with h1 | h1 | ⟨h1,h2⟩
 ·clear h
  go_enter Tryz.func142,Tryz.ntmps142
  go_wp2_with (go_at_call 130;refine (qa9 n _ _ 3 0 _ HN.out (by decide) HT.out .hit).mono ?_;rintro e w2 ⟨e',rfl,hch,hb2⟩)
  go_ret
  exact ⟨_,rfl,hch,hba.trans (hb2.mono (by simp))⟩
 ·clear h
  have h2:¬n<1:=by omega
  go_enter Tryz.func142,Tryz.ntmps142
  go_wp2_with (go_at_call 130;refine (qa9 n _ _ 3 0 _ HN.out (by decide) HT.out .hit).mono ?_;rintro e w2 ⟨e',rfl,hch,hb2⟩)
  go_ret
  exact ⟨_,rfl,hch,hba.trans (hb2.mono (by simp))⟩
 ·have HF:=hid (show ¬Fits m t l n from fun hf=>h ⟨h1,h2,hf⟩)
  clear h
  go_enter Tryz.func142,Tryz.ntmps142
  go_wp2_with fail
  refine (qk4 m t l n _ HM.out HTT.out HL.out h1 h2 HF.out).mono ?_
  rintro e w1 ⟨rfl,hb1⟩
  have hz1:w.heap.size<w1.heap.size:=by have:=hb1.size;simp at this;omega
  have p0:w1.cell? ⟨w.heap.size,0,none⟩=some (.int .i64 m):=(hb1.cell (by simp)).trans (by simp)
  have p1:w1.cell? ⟨w.heap.size,1,none⟩=some (.int .i64 t):=(hb1.cell (by simp)).trans (by simp)
  have p2:w1.cell? ⟨w.heap.size,2,none⟩=some (.int .i64 l):=(hb1.cell (by simp)).trans (by simp)
  have hb01:Below w.heap.size w w1:=hba.trans (hb1.mono (by simp))
  have HT1:=hid (HT.out.keeps hb1 nl)
  clear hb1
  go_wp2_with fail
  go_region_held3 (fun w'=>w'.cell? ⟨w.heap.size,0,none⟩=some (.int .i64 m)∧w'.cell? ⟨w.heap.size,1,none⟩=some (.int .i64 t)∧w'.cell? ⟨w.heap.size,2,none⟩=some (.int .i64 l)) (first | exact ⟨z0,z1,z2⟩|exact ⟨y0,y1,y2⟩|exact ⟨x0,x1,x2⟩|exact ⟨p0,p1,p2⟩|go_keep)
   (first
    | (go_at_call_of 174 (Value.int .i64 m);refine (qc9 m HM.out _ (by exact HT1.out.keeps (Below.refl _ _).drew nl)).mono ?_;rintro e w2 ⟨s2,rfl,hs2,hb2⟩;have qa:¬9223372036854775807<5+s2.size:=(by omega);have qb:¬9223372036854775807<5+s2.size+4:=(by omega);have hb12:Below w1.heap.size w1 w2:=((Below.refl _ _).drew).trans hb2;have hz2:=hb12.size;have x0:w2.cell? ⟨w.heap.size,0,none⟩=some (.int .i64 m):=(hb12.cell (by exact hz1)).trans p0;have x1:w2.cell? ⟨w.heap.size,1,none⟩=some (.int .i64 t):=(hb12.cell (by exact hz1)).trans p1;have x2:w2.cell? ⟨w.heap.size,2,none⟩=some (.int .i64 l):=(hb12.cell (by exact hz1)).trans p2)
    | (go_at_call_of 174 (Value.int .i64 t);refine (qc9 t HTT.out _ (by exact HT1.out.keeps hb12 nl)).mono ?_;rintro e w3 ⟨s3,rfl,hs3,hb3⟩;have qc:¬9223372036854775807<5+s2.size+4+s3.size:=(by omega);have qd:¬9223372036854775807<5+s2.size+4+s3.size+4:=(by omega);have hb13:Below w1.heap.size w1 w3:=hb12.trans (hb3.mono hz2);have hz3:=hb13.size;have y0:w3.cell? ⟨w.heap.size,0,none⟩=some (.int .i64 m):=(hb13.cell (by exact hz1)).trans p0;have y1:w3.cell? ⟨w.heap.size,1,none⟩=some (.int .i64 t):=(hb13.cell (by exact hz1)).trans p1;have y2:w3.cell? ⟨w.heap.size,2,none⟩=some (.int .i64 l):=(hb13.cell (by exact hz1)).trans p2)
    | (go_at_call_of 174 (Value.int .i64 l);refine (qc9 l HL.out _ (by exact HT1.out.keeps hb13 nl)).mono ?_;rintro e w4 ⟨s4,rfl,hs4,hb4⟩;have qe:¬9223372036854775807<5+s2.size+4+s3.size+4+s4.size:=(by omega);have hb14:Below w1.heap.size w1 w4:=hb13.trans (hb4.mono hz3);have hz4:=hb14.size;have z0:w4.cell? ⟨w.heap.size,0,none⟩=some (.int .i64 m):=(hb14.cell (by exact hz1)).trans p0;have z1:w4.cell? ⟨w.heap.size,1,none⟩=some (.int .i64 t):=(hb14.cell (by exact hz1)).trans p1;have z2:w4.cell? ⟨w.heap.size,2,none⟩=some (.int .i64 l):=(hb14.cell (by exact hz1)).trans p2))
  go_wp2_with (go_at_call 78;refine (qav _ _ 3 0 _ .hit).mono ?_;rintro e w5 ⟨e',rfl,hch,hb5⟩)
  go_ret
  exact ⟨_,rfl,hch,(hb01.trans (hb14.mono (by omega))).trans (hb5.mono (by omega))⟩
end Go.Proofs.YtcegdgmbponapaaGreatDoor
namespace Go.Proofs.YtcegdgmbponapaaGreatDoor
open Go.ChangeShapes Go.WideShapes Go.ChangeAt Go.RowKit Go.Joins
theorem Tryz.etL:Tryz.prog.globalNamed "errors.errorType" = some 0:=by kernel_rfl
theorem Tryz.rtL:(Tryz.prog.cutTypes.find? (·.1 == "internal/reflectlite.rtype")).map (·.2)=some 269:=by kernel_rfl
theorem Tryz.oneRowL:((List.range Tryz.prog.types.size).filter fun t=>Tryz.prog.rowNamed t [101,114,114,111,114])=[97]:=by kernel_rfl
theorem Tryz.pow10:Tryz.prog.globalNamed "internal/strconv.uint64pow10" = some 2:=by kernel_rfl
theorem qfk {W:World} (h:laidMetH Tryz.prog [("math/bits.deBruijn32tab",Rows.laid_math_bits_deBruijn32tab),("math/bits.deBruijn64tab",Rows.laid_math_bits_deBruijn64tab),("internal/strconv.uint64pow10",Rows.laid_internal_strconv_uint64pow10),("errors.errorType",Rows.laid_errors_errorType)] W):laidMet Tryz.prog [("math/bits.deBruijn32tab",Rows.laid_math_bits_deBruijn32tab),("math/bits.deBruijn64tab",Rows.laid_math_bits_deBruijn64tab),("internal/strconv.uint64pow10",Rows.laid_internal_strconv_uint64pow10)] W∧handlesMet Tryz.prog [("errors.errorType",Rows.laid_errors_errorType)] W:=h
theorem qgB {W:World} (h:laidMetH Tryz.prog [("math/bits.deBruijn32tab",Rows.laid_math_bits_deBruijn32tab),("math/bits.deBruijn64tab",Rows.laid_math_bits_deBruijn64tab),("internal/strconv.uint64pow10",Rows.laid_internal_strconv_uint64pow10),("errors.errorType",Rows.laid_errors_errorType)] W):qaJ W:=by
 obtain ⟨name,u,ty,e1,e2,e3,e4,e5⟩:=(qfk h).2 _ (List.mem_singleton.2 rfl)
 have en:name=[101,114,114,111,114]:=(Option.some.inj e1).symm
 subst en
 obtain rfl:=Option.some.inj (Tryz.rtL.symm.trans e2)
 have hm:ty∈(List.range Tryz.prog.types.size).filter fun t=>Tryz.prog.rowNamed t [101,114,114,111,114]:=List.mem_filter.2 ⟨List.mem_range.2 e3,e4⟩
 rw [Tryz.oneRowL] at hm
 obtain rfl:=List.mem_singleton.1 hm
 have hh:typeHandle Tryz.prog 97=.pointer (some ⟨5,97,none⟩):=by kernel_rfl
 rw [hh] at e5
 have hc:W.cell? ⟨0,0,none⟩=some (.iface 269 (.agg #[.pointer (some ⟨5,97,none⟩)])):=by simpa using World.var?_cell Tryz.etL e5 0
 exact ⟨hc,World.block_lt_of_cell? W _ hc⟩
theorem qkO {W:World} (h:laidMetH Tryz.prog [("math/bits.deBruijn32tab",Rows.laid_math_bits_deBruijn32tab),("math/bits.deBruijn64tab",Rows.laid_math_bits_deBruijn64tab),("internal/strconv.uint64pow10",Rows.laid_internal_strconv_uint64pow10),("errors.errorType",Rows.laid_errors_errorType)] W):Tab W:=by
 have h1:Lib.TabIs Tryz.prog W "internal/strconv.uint64pow10" .u64 Lib.pow10Tab :=
  Lib.tabIs_of_head Tryz.pow10 (t:=367) (e:=22) (n:=20) (by kernel_rfl) Tryz.underlying367 Tryz.underlying22 (by kernel_rfl) (by kernel_rfl) (laidMet.tail (laidMet.tail (qfk h).1))
 exact ⟨h1,World.block_lt_of_cell? W _ (h1.cell Tryz.pow10 0 (by simp [Lib.pow10Tab]))⟩
end Go.Proofs.YtcegdgmbponapaaGreatDoor
namespace Go.Proofs.YtcegdgmbponapaaGreatDoor
open Go.ChangeShapes Go.WideShapes Go.ChangeAt Go.RowKit Go.Joins
open Go.ChangeMaps (open_string shut_string)
theorem Tryz.cellsText:Tryz.prog.cellsOf 9=1:=by kernel_rfl
end Go.Proofs.YtcegdgmbponapaaGreatDoor
namespace Go.Proofs.YtcegdgmbponapaaGreatDoor
open Go.RowKit
theorem growB (n:Nat) (w:World) (hn:n≤1000) :
  Calls Tryz.prog 199 #[.slice none 0 0,.int .i64 n] w fun e w'=>∃v,e=.returned v∧w'.ownsRow w.heap.size 5 1 v 0 []∧Below w.heap.size w w':=by
 obtain ⟨i0,hi,hz0,hz1,hz2⟩:=info_parts Tryz.info5
 by_cases h0:n=0
 ·subst h0
  go_enter Tryz.func199,Tryz.ntmps199
  go_wp2
  go_ret
  exact ⟨_,rfl,World.ownsRow_nil _ _ _ _,bl⟩
 ·have hrun:∀ty,(Builtin.append_ #[50,3] ty #[.slice none 0 0,.int .i64 n]).run Tryz.prog w=_:=fun ty=>Lib.run_append_nil_zeros w 50 3 ty 5 i0 (Value.int .u8 0) .i64 .i64 Tryz.underlying50 Tryz.underlying3 hi hz0 n (by omega) (by omega) (by omega) (by rw [hz2];omega)
  have hg:=grownCap_ge w n 0 5
  have hm:=grownCap_le_maxLen w n 0 5 (by unfold maxLen;omega)
  have HO:=hid (qcE w 5 (Value.int .u8 0) n (grownCap w n 0 5) rfl hg hm)
  have HB:=hid (((Below.refl w.heap.size w).drew).alloc nl (.cells (Builtin.zeroCells (Value.int .u8 0).cells n++Builtin.zeroCells (Value.int .u8 0).cells (grownCap w n 0 5-n)) 5))
  generalize grownCap w n 0 5=cap at *
  generalize (w.drew.alloc (.cells (Builtin.zeroCells (Value.int .u8 0).cells n++Builtin.zeroCells (Value.int .u8 0).cells (cap-n)) 5))=w1 at *
  have HR:=hid hrun
  clear hrun
  unfold maxLen at hm
  go_enter Tryz.func199,Tryz.ntmps199
  go_wp2_with (first | (at_builtin;refine Lib.wpList_append_run _ rfl (.tmp 20) (.tmp 21) _ _ rfl _ _ rfl rfl _ _ (HR.out _) ?_)|fail)
  go_ret
  exact ⟨_,rfl,HO.out,HB.out⟩
def flat (X:Nat→List UInt8) (k:Nat):List UInt8:=(List.range k).flatMap X
theorem qgy (X:Nat→List UInt8):flat X 0=[]:=by simp [flat]
theorem qbG (X:Nat→List UInt8) (k:Nat):flat X (k+1)=flat X k++X k:=by
 unfold flat;rw [List.range_succ,List.flatMap_append];simp
theorem qhK (X:Nat→List UInt8) (M B:Nat) (h:∀k,k<M→(X k).length≤B):∀k,k≤M→(flat X k).length≤k*B:=by
 intro k
 induction k with
 | zero=>intro _;simp [flat]
 | succ k ih =>
  intro hk
  rw [qbG,List.length_append,Nat.succ_mul]
  exact Nat.add_le_add (ih (by omega)) (h k (by omega))
theorem qlJ (b M c:Nat) (A:Nat→Option Addr) (N C:Nat→Nat) (X:Nat→List UInt8) (w:World) (hbs:b<w.heap.size) (hM:M≤10)
  (hc:∀k,k<M→w.cell? ⟨b,k,none⟩=some (.slice (A k) (N k) (C k))∧Rd w (A k) (bs (X k))∧(X k).length=N k∧N k≤70∧(A k=none→C k=0)) :
  Calls Tryz.prog 157 #[.slice (some ⟨b,0,none⟩) M c] w fun e w'=>∃v,e=.returned v∧w'.ownsRow w.heap.size 5 1 v (flat X M).length (bs (flat X M))∧Below w.heap.size w w':=by
 obtain ⟨i0,hi,hz0,hz1,hz2⟩:=info_parts Tryz.info5
 have HC:=hid hc
 have hfl:=qhK X M 70 (fun k hk=>by obtain ⟨_,_,h3,h4,_⟩:=hc k hk;omega)
 have HFL:=hid hfl
 clear hc hfl
 go_enter Tryz.func157,Tryz.ntmps157
 go_wp2
 go_loopw [3,11] (fun s i wr=>∃k:Nat,k≤M∧i=.int .i64 k∧s=.int .i64 ((flat X k).length:Nat)∧wr=w) (fun _ i _=>M-(intOf i).toNat)
 case atStart=>exact ⟨0,Nat.zero_le _,rfl,by simp [flat],rfl⟩
 case round =>
  obtain ⟨k,hk,rfl,rfl,rfl⟩:=hrel
  by_cases hlt:k<M
  ·obtain ⟨h1,h2,h3,h4,h5⟩:=HC.out k hlt
   have HL:=hid (show (flat X (k+1)).length=(flat X k).length+N k by rw [qbG,List.length_append,h3])
   have hb:=HFL.out k hk
   have hq:k*70≤10*70:=Nat.mul_le_mul_right _ (by omega)
   generalize (flat X k).length=s at *
   generalize N k=n at *
   generalize A k=a at *
   generalize C k=cc at *
   have hlt':(k:Int)<(M:Int):=by omega
   clear h2 h3 h5
   go_wp2
   go_roundw
   case rel=>exact ⟨k+1,by omega,by go_num,by rw [HL.out];simp,trivial⟩
   case measure=>simp [intOf];omega
  ·have hkn:k=M:=by omega
   subst hkn
   have hb:=HFL.out k nl
   have hq:k*70≤10*70:=Nat.mul_le_mul_right _ (by omega)
   obtain ⟨S,hS⟩:∃S,S=(flat X k).length:=⟨_,rfl⟩
   have HS:=hid hS
   rw [←hS] at hb
   rw [←hS]
   clear hS
   obtain ⟨w0,hw0⟩:∃w0,w0=wr:=⟨_,rfl⟩
   obtain ⟨M,hMM⟩:∃M,M=k:=⟨_,rfl⟩
   subst hw0 hMM
   go_wp2_with fail
   refine (growB S _ (by omega)).mono ?_
   rintro e w1 ⟨v1,rfl,hown1,hb1⟩
   have HO1:=hid hown1
   have hzw:=hb1.size
   clear hown1
   go_wp2
   go_loopw [6,27] (fun v i wr=>∃k:Nat,k≤M∧i=.int .i64 k∧wr.ownsRow w0.heap.size 5 1 v (flat X k).length (bs (flat X k))∧Below w0.heap.size w0 wr) (fun _ i _=>M-(intOf i).toNat)
   case atStart=>exact ⟨0,Nat.zero_le _,rfl,by rw [qgy];exact HO1.out,hb1⟩
   case round =>
    obtain ⟨k,hk,rfl,hown,hbel⟩:=hrel
    have hzb:=hbel.size
    by_cases hlt:k<M
    ·obtain ⟨h1,h2,h3,h4,h5⟩:=HC.out k hlt
     have c1:wr.cell? ⟨b,k,none⟩=some (.slice (A k) (N k) (C k)):=(hbel.cell (by exact hbs)).trans h1
     have HR:=hid (h2.below hbel nl)
     have HL:=hid (show (flat X (k+1)).length=(flat X k).length+N k by rw [qbG,List.length_append,h3])
     have HF:=hid (show bs (flat X (k+1))=bs (flat X k)++bs (X k) by rw [qbG];simp [bs])
     have H3:=hid (show (bs (X k)).length=N k by rw [qag,h3])
     have H1:=hid (fun u hu=>qcJ (X k) u hu)
     have hbk:=HFL.out k hk
     have hqk:k*70≤10*70:=Nat.mul_le_mul_right _ (by omega)
     have HO:=hid hown
     generalize (flat X k).length=s at *
     generalize bs (flat X k)=fl at *
     generalize bs (X k)=xk at *
     generalize N k=n at *
     generalize A k=a at *
     generalize C k=cc at *
     have H5:=hid h5
     have hlt':(k:Int)<(M:Int):=by omega
     clear h1 h2 h3 h5 hown
     go_wp2_with (first | (at_builtin;refine qbk _ rfl (.tmp 31) (.tmp 32) 50 rfl w0.heap.size 5 i0 (Value.int .u8 0) 1 Tryz.underlying50 hi hz0 hz1 hz2 rfl _ s fl rfl HO.out a n cc xk rfl H3.out HR.out H5.out H1.out (by omega) (by omega) hzb ?_;intro v2 w2 hown2 hgrow2;have hb2:Below w0.heap.size w0 w2:=hbel.grown hgrow2 hzb (fun k hk=>(HO.out.lt k hk).1);have HO2:=hid hown2;clear hown2 hgrow2)|fail)
     go_roundw
     case rel=>exact ⟨k+1,by omega,by go_num,by rw [HL.out,HF.out];exact HO2.out,hb2⟩
     case measure=>simp [intOf];omega
    ·have hkn:k=M:=by omega
     subst hkn
     go_wp2
     go_ret
     exact ⟨_,rfl,hown,hbel⟩
theorem qlv (n:Nat) (w:World) (hn:n≤100000) :
  Calls Tryz.prog 199 #[.slice none 0 0,.int .i64 n] w fun e w'=>∃v,e=.returned v∧w'.ownsRow w.heap.size 5 1 v 0 []∧Below w.heap.size w w':=by
 obtain ⟨i0,hi,hz0,hz1,hz2⟩:=info_parts Tryz.info5
 by_cases h0:n=0
 ·subst h0
  go_enter Tryz.func199,Tryz.ntmps199
  go_wp2
  go_ret
  exact ⟨_,rfl,World.ownsRow_nil _ _ _ _,bl⟩
 ·have hrun:∀ty,(Builtin.append_ #[50,3] ty #[.slice none 0 0,.int .i64 n]).run Tryz.prog w=_:=fun ty=>Lib.run_append_nil_zeros w 50 3 ty 5 i0 (Value.int .u8 0) .i64 .i64 Tryz.underlying50 Tryz.underlying3 hi hz0 n (by omega) (by omega) (by omega) (by rw [hz2];omega)
  have hg:=grownCap_ge w n 0 5
  have hm:=grownCap_le_maxLen w n 0 5 (by unfold maxLen;omega)
  have HO:=hid (qcE w 5 (Value.int .u8 0) n (grownCap w n 0 5) rfl hg hm)
  have HB:=hid (((Below.refl w.heap.size w).drew).alloc nl (.cells (Builtin.zeroCells (Value.int .u8 0).cells n++Builtin.zeroCells (Value.int .u8 0).cells (grownCap w n 0 5-n)) 5))
  generalize grownCap w n 0 5=cap at *
  generalize (w.drew.alloc (.cells (Builtin.zeroCells (Value.int .u8 0).cells n++Builtin.zeroCells (Value.int .u8 0).cells (cap-n)) 5))=w1 at *
  have HR:=hid hrun
  clear hrun
  unfold maxLen at hm
  go_enter Tryz.func199,Tryz.ntmps199
  go_wp2_with (first | (at_builtin;refine Lib.wpList_append_run _ rfl (.tmp 20) (.tmp 21) _ _ rfl _ _ rfl rfl _ _ (HR.out _) ?_)|fail)
  go_ret
  exact ⟨_,rfl,HO.out,HB.out⟩
theorem qj1 (b M c:Nat) (A:Nat→Option Addr) (N C:Nat→Nat) (X:Nat→List UInt8) (w:World) (hbs:b<w.heap.size) (hM:M≤10)
  (hc:∀k,k<M→w.cell? ⟨b,k,none⟩=some (.slice (A k) (N k) (C k))∧Rd w (A k) (bs (X k))∧(X k).length=N k∧N k≤5000∧(A k=none→C k=0)) :
  Calls Tryz.prog 157 #[.slice (some ⟨b,0,none⟩) M c] w fun e w'=>∃v,e=.returned v∧w'.ownsRow w.heap.size 5 1 v (flat X M).length (bs (flat X M))∧Below w.heap.size w w':=by
 obtain ⟨i0,hi,hz0,hz1,hz2⟩:=info_parts Tryz.info5
 have HC:=hid hc
 have hfl:=qhK X M 5000 (fun k hk=>by obtain ⟨_,_,h3,h4,_⟩:=hc k hk;omega)
 have HFL:=hid hfl
 clear hc hfl
 go_enter Tryz.func157,Tryz.ntmps157
 go_wp2
 go_loopw [3,11] (fun s i wr=>∃k:Nat,k≤M∧i=.int .i64 k∧s=.int .i64 ((flat X k).length:Nat)∧wr=w) (fun _ i _=>M-(intOf i).toNat)
 case atStart=>exact ⟨0,Nat.zero_le _,rfl,by simp [flat],rfl⟩
 case round =>
  obtain ⟨k,hk,rfl,rfl,rfl⟩:=hrel
  by_cases hlt:k<M
  ·obtain ⟨h1,h2,h3,h4,h5⟩:=HC.out k hlt
   have HL:=hid (show (flat X (k+1)).length=(flat X k).length+N k by rw [qbG,List.length_append,h3])
   have hb:=HFL.out k hk
   have hq:k*5000≤10*5000:=Nat.mul_le_mul_right _ (by omega)
   generalize (flat X k).length=s at *
   generalize N k=n at *
   generalize A k=a at *
   generalize C k=cc at *
   have hlt':(k:Int)<(M:Int):=by omega
   clear h2 h3 h5
   go_wp2
   go_roundw
   case rel=>exact ⟨k+1,by omega,by go_num,by rw [HL.out];simp,trivial⟩
   case measure=>simp [intOf];omega
  ·have hkn:k=M:=by omega
   subst hkn
   have hb:=HFL.out k nl
   have hq:k*5000≤10*5000:=Nat.mul_le_mul_right _ (by omega)
   obtain ⟨S,hS⟩:∃S,S=(flat X k).length:=⟨_,rfl⟩
   have HS:=hid hS
   rw [←hS] at hb
   rw [←hS]
   clear hS
   obtain ⟨w0,hw0⟩:∃w0,w0=wr:=⟨_,rfl⟩
   obtain ⟨M,hMM⟩:∃M,M=k:=⟨_,rfl⟩
   subst hw0 hMM
   go_wp2_with fail
   refine (qlv S _ (by omega)).mono ?_
   rintro e w1 ⟨v1,rfl,hown1,hb1⟩
   have HO1:=hid hown1
   have hzw:=hb1.size
   clear hown1
   go_wp2
   go_loopw [6,27] (fun v i wr=>∃k:Nat,k≤M∧i=.int .i64 k∧wr.ownsRow w0.heap.size 5 1 v (flat X k).length (bs (flat X k))∧Below w0.heap.size w0 wr) (fun _ i _=>M-(intOf i).toNat)
   case atStart=>exact ⟨0,Nat.zero_le _,rfl,by rw [qgy];exact HO1.out,hb1⟩
   case round =>
    obtain ⟨k,hk,rfl,hown,hbel⟩:=hrel
    have hzb:=hbel.size
    by_cases hlt:k<M
    ·obtain ⟨h1,h2,h3,h4,h5⟩:=HC.out k hlt
     have c1:wr.cell? ⟨b,k,none⟩=some (.slice (A k) (N k) (C k)):=(hbel.cell (by exact hbs)).trans h1
     have HR:=hid (h2.below hbel nl)
     have HL:=hid (show (flat X (k+1)).length=(flat X k).length+N k by rw [qbG,List.length_append,h3])
     have HF:=hid (show bs (flat X (k+1))=bs (flat X k)++bs (X k) by rw [qbG];simp [bs])
     have H3:=hid (show (bs (X k)).length=N k by rw [qag,h3])
     have H1:=hid (fun u hu=>qcJ (X k) u hu)
     have hbk:=HFL.out k hk
     have hqk:k*5000≤10*5000:=Nat.mul_le_mul_right _ (by omega)
     have HO:=hid hown
     generalize (flat X k).length=s at *
     generalize bs (flat X k)=fl at *
     generalize bs (X k)=xk at *
     generalize N k=n at *
     generalize A k=a at *
     generalize C k=cc at *
     have H5:=hid h5
     have hlt':(k:Int)<(M:Int):=by omega
     clear h1 h2 h3 h5 hown
     go_wp2_with (first | (at_builtin;refine qbk _ rfl (.tmp 31) (.tmp 32) 50 rfl w0.heap.size 5 i0 (Value.int .u8 0) 1 Tryz.underlying50 hi hz0 hz1 hz2 rfl _ s fl rfl HO.out a n cc xk rfl H3.out HR.out H5.out H1.out (by omega) (by omega) hzb ?_;intro v2 w2 hown2 hgrow2;have hb2:Below w0.heap.size w0 w2:=hbel.grown hgrow2 hzb (fun k hk=>(HO.out.lt k hk).1);have HO2:=hid hown2;clear hown2 hgrow2)|fail)
     go_roundw
     case rel=>exact ⟨k+1,by omega,by go_num,by rw [HL.out,HF.out];exact HO2.out,hb2⟩
     case measure=>simp [intOf];omega
    ·have hkn:k=M:=by omega
     subst hkn
     go_wp2
     go_ret
     exact ⟨_,rfl,hown,hbel⟩
end Go.Proofs.YtcegdgmbponapaaGreatDoor