import Derived.Test.YtcegdgmbponapaaGreatDoorItoa
import Derived.Test.YtcegdgmbponapaaGreatDoorPart04
import Derived.Lib.AppendIntMem
import Derived.Lib.ItoaLen
import Derived.Stop.LaidErr
import Derived.Lib.Bytealg
namespace Go.Proofs.YtcegdgmbponapaaGreatDoor
open Go.RowKit
attribute [local go_sem ↓] Go.wp_at_zero Go.wp_at_succ
def Tab (w:World):Prop:=Lib.TabIs Tryz.prog w "internal/strconv.uint64pow10" .u64 Lib.pow10Tab∧2<w.heap.size
theorem Tab.keeps {B:Nat} {w w':World} (h:Tab w) (hb:Below B w w') (hB:w.heap.size≤B):Tab w':=by
 refine ⟨?_,Nat.lt_of_lt_of_le h.2 hb.size⟩
 have h1:=h.1
 have hg:Tryz.prog.globalNamed "internal/strconv.uint64pow10" = some 2:=by kernel_rfl
 unfold Lib.TabIs World.var? at h1 ⊢
 rw [hg] at h1 ⊢
 simp only [Option.bind_some] at h1 ⊢
 rw [hb.block _ (Nat.lt_of_lt_of_le h.2 hB)]
 exact h1
theorem itoa_any (z:Int) (hz:I64 z) (w:World) (hT:Tab w) :
  Calls Tryz.prog 174 #[.int .i64 z] w fun e w'=>∃s:ByteArray,e=.returned (.string s)∧s.size≤21∧Below w.heap.size w w':=by
 refine (Tryz.strconv_Itoa z hz.1 hz.2 w hT.1).mono ?_
 rintro e w' ⟨rfl,k,os,rfl⟩
 exact ⟨_,rfl,by show (Lib.itoa z).toArray.size≤21;simpa using Lib.itoa_length_le z hz.1 hz.2,Lib.below_grow _ w (Nat.le_refl _) k os⟩
set_option maxRecDepth 100000 in
theorem atCount_any (z:Int) (what:ByteArray) (e:Value) (k:Int) (d:Nat) (w:World) (hz:I64 z) (hw:what.size≤100) (hT:Tab w) (hc:Chain w k d e) :
  Calls Tryz.prog 130 #[.int .i64 z,.string what,e] w fun ev w'=>∃e',ev=.returned e'∧Chain w' k (d+1) e'∧Below w.heap.size w w':=by
 obtain ⟨te,ve,rfl⟩:=hc.shape
 have HC:=hid hc
 have HT:=hid hT
 have HZ:=hid hz
 clear hc hT hz
 go_enter Tryz.func130,Tryz.ntmps130
 go_wp2_with (first | (go_at_call 174;refine (itoa_any z HZ.out _ HT.out).mono ?_;rintro e w1 ⟨s,rfl,hs,hb1⟩;have HC1:=hid (HC.out.keeps hb1 (Nat.le_refl _)))|(go_at_call 78;refine (at_chain _ _ k d _ HC1.out).mono ?_;rintro e w2 ⟨e',rfl,hch,hb2⟩))
 go_ret
 exact ⟨_,rfl,hch,hb1.trans (hb2.mono hb1.size)⟩
set_option maxRecDepth 100000 in
theorem atStore_any (z:Int) (e:Value) (k:Int) (d:Nat) (w:World) (hz:I64 z) (hT:Tab w) (hc:Chain w k d e) :
  Calls Tryz.prog 136 #[.int .i64 z,e] w fun ev w'=>∃e',ev=.returned e'∧Chain w' k (d+1) e'∧Below w.heap.size w w':=by
 obtain ⟨te,ve,rfl⟩:=hc.shape
 have HC:=hid hc
 have HT:=hid hT
 have HZ:=hid hz
 clear hc hT hz
 go_enter Tryz.func136,Tryz.ntmps136
 go_wp2_with (first | (go_at_call 174;refine (itoa_any z HZ.out _ HT.out).mono ?_;rintro e w1 ⟨s,rfl,hs,hb1⟩;have HC1:=hid (HC.out.keeps hb1 (Nat.le_refl _)))|(go_at_call 78;refine (at_chain _ _ k d _ HC1.out).mono ?_;rintro e w2 ⟨e',rfl,hch,hb2⟩))
 go_ret
 exact ⟨_,rfl,hch,hb1.trans (hb2.mono hb1.size)⟩
def Fits (m t l n:Int):Prop:=1≤t∧t≤n∧1≤l∧(m=0∧t+l≤n+1∨m=1∧l=1)
set_option maxRecDepth 100000 in
set_option maxHeartbeats 1000000 in
theorem fits_bad (m t l n:Int) (w:World) (hm:I64 m) (ht:I64 t) (hl:I64 l) (h1:1≤n) (h8:n≤8) (h:¬Fits m t l n) :
  Calls Tryz.prog 190 #[.agg #[.int .i64 m,.int .i64 t,.int .i64 l],.int .i64 n] w fun e w'=>e=.returned (.bool false)∧Below w.heap.size w w':=by
 obtain ⟨hm1,hm2⟩:=hm
 obtain ⟨ht1,ht2⟩:=ht
 obtain ⟨hl1,hl2⟩:=hl
 have hh:t<1∨n<t∨(1≤t∧t≤n)∧(m=0∧(l<1∨1≤l∧n-t<l-1)∨m=1∧l≠1∨m≠0∧m≠1):=by
  unfold Fits at h;omega
 clear h
 have hb:=(Below.refl w.heap.size w).alloc (Nat.le_refl _) (.cells #[.int .i64 m,.int .i64 t,.int .i64 l] 29)
 rcases hh with h | h | ⟨⟨h2,h3⟩,⟨rfl,h | ⟨h,h4⟩⟩|⟨rfl,h⟩|⟨h,h4⟩⟩
 ·go_enter Tryz.func190,Tryz.ntmps190
  go_wp2
  go_ret
  exact ⟨rfl,hb⟩
 ·have h2:1≤t:=by omega
  go_enter Tryz.func190,Tryz.ntmps190
  go_wp2
  go_ret
  exact ⟨rfl,hb⟩
 ·go_enter Tryz.func190,Tryz.ntmps190
  go_wp2
  go_ret
  exact ⟨rfl,hb⟩
 ·go_enter Tryz.func190,Tryz.ntmps190
  go_wp2
  go_ret
  exact ⟨congrArg (fun b=>Ending.returned (.bool b)) (decide_eq_false (by omega)),hb⟩
 ·go_enter Tryz.func190,Tryz.ntmps190
  go_wp2
  go_ret
  exact ⟨congrArg (fun b=>Ending.returned (.bool b)) (beq_eq_false_iff_ne.2 h),hb⟩
 ·go_enter Tryz.func190,Tryz.ntmps190
  go_wp2
  go_ret
  exact ⟨rfl,hb⟩
set_option maxRecDepth 100000 in
set_option maxHeartbeats 1000000 in
theorem checkPlan_bad (m t l n:Int) (w:World) (hm:I64 m) (ht:I64 t) (hl:I64 l) (hn:I64 n) (h:¬(1≤n∧n≤8∧Fits m t l n)) (hT:Tab w) :
  Calls Tryz.prog 142 #[.agg #[.int .i64 m,.int .i64 t,.int .i64 l],.int .i64 n] w fun e w'=>∃ev,e=.returned ev∧Chain w' 3 1 ev∧Below w.heap.size w w':=by
 have hba:=(Below.refl w.heap.size w).alloc (Nat.le_refl _) (.cells #[.int .i64 m,.int .i64 t,.int .i64 l] 29)
 have HT:=hid (hT.keeps hba (Nat.le_refl _))
 have HN:=hid hn
 have HM:=hid hm
 have HTT:=hid ht
 have HL:=hid hl
 obtain ⟨hn1,hn2⟩:=hn
 clear hm ht hl hT
 rcases show n<1∨8<n∨1≤n∧n≤8 by omega with h1 | h1 | ⟨h1,h2⟩
 ·clear h
  go_enter Tryz.func142,Tryz.ntmps142
  go_wp2_with (go_at_call 130;refine (atCount_any n _ _ 3 0 _ HN.out (by decide) HT.out .hit).mono ?_;rintro e w2 ⟨e',rfl,hch,hb2⟩)
  go_ret
  exact ⟨_,rfl,hch,hba.trans (hb2.mono (by simp))⟩
 ·clear h
  have h2:¬n<1:=by omega
  go_enter Tryz.func142,Tryz.ntmps142
  go_wp2_with (go_at_call 130;refine (atCount_any n _ _ 3 0 _ HN.out (by decide) HT.out .hit).mono ?_;rintro e w2 ⟨e',rfl,hch,hb2⟩)
  go_ret
  exact ⟨_,rfl,hch,hba.trans (hb2.mono (by simp))⟩
 ·have HF:=hid (show ¬Fits m t l n from fun hf=>h ⟨h1,h2,hf⟩)
  clear h
  go_enter Tryz.func142,Tryz.ntmps142
  go_wp2_with fail
  refine (fits_bad m t l n _ HM.out HTT.out HL.out h1 h2 HF.out).mono ?_
  rintro e w1 ⟨rfl,hb1⟩
  have hz1:w.heap.size<w1.heap.size:=by have:=hb1.size;simp at this;omega
  have p0:w1.cell? ⟨w.heap.size,0,none⟩=some (.int .i64 m):=(hb1.cell (by simp)).trans (by simp)
  have p1:w1.cell? ⟨w.heap.size,1,none⟩=some (.int .i64 t):=(hb1.cell (by simp)).trans (by simp)
  have p2:w1.cell? ⟨w.heap.size,2,none⟩=some (.int .i64 l):=(hb1.cell (by simp)).trans (by simp)
  have hb01:Below w.heap.size w w1:=hba.trans (hb1.mono (by simp))
  have HT1:=hid (HT.out.keeps hb1 (Nat.le_refl _))
  clear hb1
  go_wp2_with fail
  go_region_held3 (fun w'=>w'.cell? ⟨w.heap.size,0,none⟩=some (.int .i64 m)∧w'.cell? ⟨w.heap.size,1,none⟩=some (.int .i64 t)∧w'.cell? ⟨w.heap.size,2,none⟩=some (.int .i64 l)) (first | exact ⟨z0,z1,z2⟩|exact ⟨y0,y1,y2⟩|exact ⟨x0,x1,x2⟩|exact ⟨p0,p1,p2⟩|go_keep)
   (first
    | (go_at_call_of 174 (Value.int .i64 m);refine (itoa_any m HM.out _ (by exact HT1.out.keeps (Below.refl _ _).drew (Nat.le_refl _))).mono ?_;rintro e w2 ⟨s2,rfl,hs2,hb2⟩;have qa:¬9223372036854775807<5+s2.size:=(by omega);have qb:¬9223372036854775807<5+s2.size+4:=(by omega);have hb12:Below w1.heap.size w1 w2:=((Below.refl _ _).drew).trans hb2;have hz2:=hb12.size;have x0:w2.cell? ⟨w.heap.size,0,none⟩=some (.int .i64 m):=(hb12.cell (by exact hz1)).trans p0;have x1:w2.cell? ⟨w.heap.size,1,none⟩=some (.int .i64 t):=(hb12.cell (by exact hz1)).trans p1;have x2:w2.cell? ⟨w.heap.size,2,none⟩=some (.int .i64 l):=(hb12.cell (by exact hz1)).trans p2)
    | (go_at_call_of 174 (Value.int .i64 t);refine (itoa_any t HTT.out _ (by exact HT1.out.keeps hb12 (Nat.le_refl _))).mono ?_;rintro e w3 ⟨s3,rfl,hs3,hb3⟩;have qc:¬9223372036854775807<5+s2.size+4+s3.size:=(by omega);have qd:¬9223372036854775807<5+s2.size+4+s3.size+4:=(by omega);have hb13:Below w1.heap.size w1 w3:=hb12.trans (hb3.mono hz2);have hz3:=hb13.size;have y0:w3.cell? ⟨w.heap.size,0,none⟩=some (.int .i64 m):=(hb13.cell (by exact hz1)).trans p0;have y1:w3.cell? ⟨w.heap.size,1,none⟩=some (.int .i64 t):=(hb13.cell (by exact hz1)).trans p1;have y2:w3.cell? ⟨w.heap.size,2,none⟩=some (.int .i64 l):=(hb13.cell (by exact hz1)).trans p2)
    | (go_at_call_of 174 (Value.int .i64 l);refine (itoa_any l HL.out _ (by exact HT1.out.keeps hb13 (Nat.le_refl _))).mono ?_;rintro e w4 ⟨s4,rfl,hs4,hb4⟩;have qe:¬9223372036854775807<5+s2.size+4+s3.size+4+s4.size:=(by omega);have hb14:Below w1.heap.size w1 w4:=hb13.trans (hb4.mono hz3);have hz4:=hb14.size;have z0:w4.cell? ⟨w.heap.size,0,none⟩=some (.int .i64 m):=(hb14.cell (by exact hz1)).trans p0;have z1:w4.cell? ⟨w.heap.size,1,none⟩=some (.int .i64 t):=(hb14.cell (by exact hz1)).trans p1;have z2:w4.cell? ⟨w.heap.size,2,none⟩=some (.int .i64 l):=(hb14.cell (by exact hz1)).trans p2))
  go_wp2_with (go_at_call 78;refine (at_chain _ _ 3 0 _ .hit).mono ?_;rintro e w5 ⟨e',rfl,hch,hb5⟩)
  go_ret
  exact ⟨_,rfl,hch,(hb01.trans (hb14.mono (by omega))).trans (hb5.mono (by omega))⟩
end Go.Proofs.YtcegdgmbponapaaGreatDoor
namespace Go.Proofs.YtcegdgmbponapaaGreatDoor
open Go.ChangeShapes Go.WideShapes Go.ChangeAt Go.RowKit Go.Joins
theorem Tryz.etL:Tryz.prog.globalNamed "errors.errorType" = some 0:=by kernel_rfl
theorem Tryz.rtL:(Tryz.prog.cutTypes.find? (·.1 == "internal/reflectlite.rtype")).map (·.2)=some 269:=by kernel_rfl
theorem Tryz.oneRowL:((List.range Tryz.prog.types.size).filter fun t=>Tryz.prog.rowNamed t [101,114,114,111,114])=[97]:=by kernel_rfl
theorem Tryz.pow10:Tryz.prog.globalNamed "internal/strconv.uint64pow10" = some 2:=by kernel_rfl
theorem laid_parts {W:World} (h:laidMetH Tryz.prog [("math/bits.deBruijn32tab",Rows.laid_math_bits_deBruijn32tab),("math/bits.deBruijn64tab",Rows.laid_math_bits_deBruijn64tab),("internal/strconv.uint64pow10",Rows.laid_internal_strconv_uint64pow10),("errors.errorType",Rows.laid_errors_errorType)] W):laidMet Tryz.prog [("math/bits.deBruijn32tab",Rows.laid_math_bits_deBruijn32tab),("math/bits.deBruijn64tab",Rows.laid_math_bits_deBruijn64tab),("internal/strconv.uint64pow10",Rows.laid_internal_strconv_uint64pow10)] W∧handlesMet Tryz.prog [("errors.errorType",Rows.laid_errors_errorType)] W:=h
theorem errType_laid {W:World} (h:laidMetH Tryz.prog [("math/bits.deBruijn32tab",Rows.laid_math_bits_deBruijn32tab),("math/bits.deBruijn64tab",Rows.laid_math_bits_deBruijn64tab),("internal/strconv.uint64pow10",Rows.laid_internal_strconv_uint64pow10),("errors.errorType",Rows.laid_errors_errorType)] W):ErrType W:=by
 obtain ⟨name,u,ty,e1,e2,e3,e4,e5⟩:=(laid_parts h).2 _ (List.mem_singleton.2 rfl)
 have en:name=[101,114,114,111,114]:=(Option.some.inj e1).symm
 subst en
 obtain rfl:=Option.some.inj (Tryz.rtL.symm.trans e2)
 have hm:ty∈(List.range Tryz.prog.types.size).filter fun t=>Tryz.prog.rowNamed t [101,114,114,111,114]:=List.mem_filter.2 ⟨List.mem_range.2 e3,e4⟩
 rw [Tryz.oneRowL] at hm
 obtain rfl:=List.mem_singleton.1 hm
 have hh:typeHandle Tryz.prog 97=.pointer (some ⟨5,97,none⟩):=by kernel_rfl
 rw [hh] at e5
 have hc:W.cell? ⟨0,0,none⟩=some (.iface 269 (.agg #[.pointer (some ⟨5,97,none⟩)])):=by simpa using World.var?_cell Tryz.etL e5 0
 exact ⟨hc,World.block_lt_of_cell? W _ hc⟩
theorem tab_laid {W:World} (h:laidMetH Tryz.prog [("math/bits.deBruijn32tab",Rows.laid_math_bits_deBruijn32tab),("math/bits.deBruijn64tab",Rows.laid_math_bits_deBruijn64tab),("internal/strconv.uint64pow10",Rows.laid_internal_strconv_uint64pow10),("errors.errorType",Rows.laid_errors_errorType)] W):Tab W:=by
 have h1:Lib.TabIs Tryz.prog W "internal/strconv.uint64pow10" .u64 Lib.pow10Tab :=
  Lib.tabIs_of_head Tryz.pow10 (t:=367) (e:=22) (n:=20) (by kernel_rfl) Tryz.underlying367 Tryz.underlying22 (by kernel_rfl) (by kernel_rfl) (laidMet.tail (laidMet.tail (laid_parts h).1))
 exact ⟨h1,World.block_lt_of_cell? W _ (h1.cell Tryz.pow10 0 (by simp [Lib.pow10Tab]))⟩
end Go.Proofs.YtcegdgmbponapaaGreatDoor
namespace Go.Proofs.YtcegdgmbponapaaGreatDoor
open Go.ChangeShapes Go.WideShapes Go.ChangeAt Go.RowKit Go.Joins
open Go.ChangeMaps (open_string shut_string)
theorem Tryz.cellsText:Tryz.prog.cellsOf 9=1:=by kernel_rfl
end Go.Proofs.YtcegdgmbponapaaGreatDoor
namespace Go.Proofs.YtcegdgmbponapaaGreatDoor
open Go.RowKit
abbrev cmpB (a b:ByteArray):Int:=Lib.compareBytes a.data.toList b.data.toList
theorem cmpL_zero:∀a b:List UInt8,Lib.compareBytes a b=0↔a=b
 | [],[]=>by simp [Lib.compareBytes]
 | [],_ :: _=>by simp [Lib.compareBytes]
 | _ :: _,[]=>by simp [Lib.compareBytes]
 | a :: ar,b :: br=>by
  simp only [Lib.compareBytes,List.cons.injEq]
  have ih:=cmpL_zero ar br
  split
  ·rename_i h
   refine ⟨fun e=>by simp at e,fun e=>?_⟩
   rw [e.1] at h
   exact absurd h (UInt8.lt_irrefl _)
  ·split
   ·rename_i h1 h2
    refine ⟨fun e=>by simp at e,fun e=>?_⟩
    rw [e.1] at h2
    exact absurd h2 (UInt8.lt_irrefl _)
   ·rename_i h1 h2
    have:a=b:=UInt8.le_antisymm (UInt8.not_lt.1 h2) (UInt8.not_lt.1 h1)
    rw [ih]
    exact ⟨fun e=>⟨this,e⟩,fun e=>e.2⟩
theorem cmpL_trans:∀a b c:List UInt8,Lib.compareBytes a b<0→Lib.compareBytes b c<0→Lib.compareBytes a c<0
 | [],[],c,h,_=>by simp [Lib.compareBytes] at h
 | [],_ :: _,[],_,h=>by simp [Lib.compareBytes] at h
 | [],_ :: _,_ :: _,_,_=>by simp [Lib.compareBytes]
 | _ :: _,[],_,h,_=>by simp [Lib.compareBytes] at h
 | _ :: _,_ :: _,[],_,h=>by simp [Lib.compareBytes] at h
 | a :: ar,b :: br,c :: cs,h1,h2=>by
  simp only [Lib.compareBytes] at h1 h2 ⊢
  have ih:=cmpL_trans ar br cs
  split at h1
  ·rename_i hab
   split at h2
   ·rename_i hbc
    rw [if_pos (UInt8.lt_trans hab hbc)];decide
   ·rename_i hbc
    split at h2
    ·simp at h2
    ·rename_i hcb
     have:b=c:=UInt8.le_antisymm (UInt8.not_lt.1 hcb) (UInt8.not_lt.1 hbc)
     rw [if_pos (this ▸ hab)];decide
  ·rename_i hab
   split at h1
   ·simp at h1
   ·rename_i hba
    have e:a=b:=UInt8.le_antisymm (UInt8.not_lt.1 hba) (UInt8.not_lt.1 hab)
    subst e
    split at h2
    ·rename_i hbc
     rw [if_pos hbc];decide
    ·rename_i hbc
     split at h2
     ·simp at h2
     ·rename_i hcb
      rw [if_neg hbc,if_neg hcb]
      exact ih h1 h2
theorem cmpL_flip:∀a b:List UInt8,Lib.compareBytes a b=- Lib.compareBytes b a
 | [],[]=>by simp [Lib.compareBytes]
 | [],_ :: _=>by simp [Lib.compareBytes]
 | _ :: _,[]=>by simp [Lib.compareBytes]
 | a :: ar,b :: br=>by
  simp only [Lib.compareBytes]
  have ih:=cmpL_flip ar br
  by_cases h1:a<b
  ·have h2:¬b<a:=fun h=>UInt8.lt_irrefl _ (UInt8.lt_trans h1 h)
   simp [h1,h2]
  ·by_cases h2:b<a
   ·simp [h1,h2]
   ·simp [h1,h2,ih]
theorem ba_ext {a b:ByteArray} (h:a.data.toList=b.data.toList):a=b:=by
 cases a;cases b;simp at h;rw [h]
theorem cmpB_zero {a b:ByteArray}:cmpB a b=0↔a=b:=by
 unfold cmpB
 rw [cmpL_zero]
 exact ⟨ba_ext,fun h=>by rw [h]⟩
theorem cmpB_trans {a b c:ByteArray} (h1:cmpB a b<0) (h2:cmpB b c<0):cmpB a c<0:=cmpL_trans _ _ _ h1 h2
theorem cmpB_flip (a b:ByteArray):cmpB a b=- cmpB b a:=cmpL_flip _ _
structure RecV where
 name:ByteArray
 mode:Nat
 t:Nat
 l:Nat
 size:Nat
 epoch:Nat
 sa:Option Addr
 sn:Nat
 sc:Nat
 na:Option Addr
 nn:Nat
 nc:Nat
instance : Inhabited RecV:=⟨⟨ByteArray.empty,0,0,0,0,0,none,0,0,none,0,0⟩⟩
def RecV.cells (r:RecV):List Value:=[.string r.name,.int .i64 r.mode,.int .i64 r.t,.int .i64 r.l,.int .i64 r.size,.int .i64 r.epoch,.slice r.sa r.sn r.sc,.slice r.na r.nn r.nc]
def RecV.val (r:RecV):Value:=.agg #[.string r.name,.int .i64 r.mode,.int .i64 r.t,.int .i64 r.l,.int .i64 r.size,.int .i64 r.epoch,.slice r.sa r.sn r.sc,.slice r.na r.nn r.nc]
def recs (rs:List RecV):List Value:=rs.flatMap RecV.cells
theorem recs_length (rs:List RecV):(recs rs).length=rs.length*8:=by
 induction rs with
 | nil=>rfl
 | cons r rs ih=>simp only [recs,List.flatMap_cons,List.length_append] at ih ⊢;rw [ih];simp [RecV.cells];omega
theorem recs_at (rs:List RecV) (k j:Nat) (hk:k<rs.length) (hj:j<8):(recs rs)[k*8+j]?=(rs[k]).cells[j]?:=by
 induction rs generalizing k with
 | nil=>simp at hk
 | cons r rs ih =>
  cases k with
  | zero =>
   simp only [recs,List.flatMap_cons,List.getElem_cons_zero,Nat.zero_mul,Nat.zero_add]
   rw [List.getElem?_append_left (by simp [RecV.cells];exact hj)]
  | succ k =>
   have:=ih k (by simpa using hk)
   simp only [recs,List.flatMap_cons,List.getElem_cons_succ] at this ⊢
   rw [←this,List.getElem?_append_right (by simp [RecV.cells];omega),show (k+1)*8+j-r.cells.length=k*8+j by simp [RecV.cells];omega]
def Sorted (rs:List RecV):Prop:=∀i j,i<j→j<rs.length→cmpB (rs[i]!).name (rs[j]!).name<0
theorem Sorted.mono {rs:List RecV} (h:Sorted rs) (nm:ByteArray) (i j:Nat) (hij:i≤j) (hj:j<rs.length) (hc:cmpB (rs[j]!).name nm<0):cmpB (rs[i]!).name nm<0:=by
 rcases Nat.eq_or_lt_of_le hij with rfl | hlt
 ·exact hc
 ·exact cmpB_trans (h i j hlt hj) hc
def posOf (rs:List RecV) (nm:ByteArray):Nat:=rs.countP fun r=>decide (cmpB r.name nm<0)
theorem posOf_eq (rs:List RecV) (nm:ByteArray):∀(i:Nat),i≤rs.length→(∀k,k<i→cmpB (rs[k]!).name nm<0)→(∀k,i≤k→k<rs.length→¬cmpB (rs[k]!).name nm<0)→posOf rs nm=i:=by
 induction rs with
 | nil=>intro i hi _ _;simp at hi;simp [posOf,hi]
 | cons r rs ih =>
  intro i hi h1 h2
  cases i with
  | zero =>
   unfold posOf
   rw [List.countP_eq_zero]
   intro x hx
   obtain ⟨k,hk,rfl⟩:=List.getElem_of_mem hx
   have:=h2 k (Nat.zero_le _) hk
   rw [getElem!_pos (r :: rs) k hk] at this
   simpa using this
  | succ i =>
   have ha:cmpB r.name nm<0:=by simpa using h1 0 (Nat.succ_pos _)
   have:=ih i (by simpa using hi) (fun k hk=>by simpa using h1 (k+1) (by omega)) (fun k h3 h4=>by simpa using h2 (k+1) (by omega) (by simpa using h4))
   unfold posOf at this ⊢
   rw [List.countP_cons_of_pos (by simpa using ha),this]
theorem posOf_le (rs:List RecV) (nm:ByteArray):posOf rs nm≤rs.length:=List.countP_le_length ..
def hasName (rs:List RecV) (nm:ByteArray):Bool:=decide (posOf rs nm<rs.length) && decide (cmpB (rs[posOf rs nm]!).name nm=0)
end Go.Proofs.YtcegdgmbponapaaGreatDoor