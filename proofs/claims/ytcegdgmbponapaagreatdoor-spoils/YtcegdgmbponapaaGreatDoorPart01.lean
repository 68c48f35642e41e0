import Derived.Test.YtcegdgmbponapaaGreatDoorPart00
import Derived.Lib.AppendZeros
import Derived.Deep.DrawnRows
import Derived.Deep.RegionHeld3
import Derived.Deep.AppendLies
set_option maxRecDepth 100000
set_option maxHeartbeats 4000000
namespace Go.Proofs.YtcegdgmbponapaaGreatDoor
open Go.RowKit
theorem u8_of (n:Nat) (h:n<256):((UInt8.ofNat n).toNat:Int)=n:=by simp [Nat.mod_eq_of_lt h]
theorem qlf (start count:Nat):qaO (fun i=>UInt8.ofNat (start+i)) (List.replicate count 0) count count=Cof.run start count:=by
 rw [qdt];rfl
theorem run_any (start count:Nat) (w:World) (hc:start+count≤256) :
  Calls Tryz.prog 98 #[.int .i64 start,.int .i64 count] w fun e w' =>
   ∃g,e=.returned (.slice (some ⟨g,0,none⟩) count count)∧Rd w' (some ⟨g,0,none⟩) (bs (Cof.run start count))∧Below w.heap.size w w'∧w.heap.size≤g:=by
 obtain ⟨i0,hi,hz0,hz1,hz2⟩:=info_parts Tryz.infoE
 go_enter Tryz.func98,Tryz.ntmps98
 go_wp2_with (first | (at_make;refine wpList_make_full _ rfl (.tmp 7) (.tmp 7) 163 rfl w.heap.size 170 i0 (.int .u8 0) 1 Tryz.underlying163 hi hz0 hz1 .i64 .i64 _ _ count rfl rfl rfl rfl (by rw [hz2];omega) (by unfold maxLen;omega) nl ?_;intro w1 hown1 hgrow1;have hb1:=grown_below hgrow1;have HO1:=hid (qcm hown1);clear hown1 hgrow1)|fail)
 go_loopw [11] (fun i wr=>∃k:Nat,k≤count∧i=.int .i64 k∧wr.ownsRow w.heap.size 170 1 (.slice (some ⟨w.heap.size,0,none⟩) count count) count (bs (qaO (fun i=>UInt8.ofNat (start+i)) (List.replicate count 0) count k))∧Below w.heap.size w wr)
  (fun i _=>count-(intOf i).toNat)
 case atStart =>
  refine ⟨0,Nat.zero_le _,rfl,?_,hb1⟩
  rw [qbg _ _ _ (by simp)]
  exact HO1.out
 case round =>
  obtain ⟨k,hk,rfl,hown,hbel⟩:=hrel
  by_cases hlt:k<count
  ·have hs:=hown.frozenAt k
   have hn:=row_next hown hlt
   have HST:=hid (qbu (u:=UInt8.ofNat (start+k)) hown rfl)
   rw [u8_of _ (by omega)] at HST
   clear hown
   go_wp2
   go_roundw
   case rel=>exact ⟨k+1,by omega,by go_num,HST.out,hbel.setCell nl _⟩
   case measure=>simp [intOf];omega
  ·have hkn:k=count:=by omega
   subst hkn
   rw [qlf] at hown
   have HO:=hid (qaC hown)
   clear hown
   go_wp2
   go_ret
   exact ⟨_,rfl,HO.out,hbel,Nat.le_refl _⟩
theorem Tryz.infoRow:(Tryz.prog.info? 50).map (fun i=>(i.zero,i.size,i.bytes))=some (some (.slice none 0 0),1,24):=by kernel_rfl
theorem qcE (w:World) (e:TypeId) (z:Value) (n cap:Nat) (hz:z.cells.size=1) (hc:n≤cap) (hm:cap≤maxLen) :
  (w.drew.alloc (.cells (Builtin.zeroCells z.cells n++Builtin.zeroCells z.cells (cap-n)) e)).ownsRow w.heap.size e 1 (.slice (some ⟨w.heap.size,0,none⟩) 0 cap) 0 []:=by
 have:=World.ownsRow_made (base:=w.heap.size) (e:=e) (size:=1) w.drew (Builtin.zeroCells z.cells n++Builtin.zeroCells z.cells (cap-n)) cap nl hm (by simp [size_zeroCells,hz];omega)
 exact this
theorem growE (n:Nat) (w:World) (hn:n≤1000) :
  Calls Tryz.prog 144 #[.slice none 0 0,.int .i64 n] w fun e w'=>∃v,e=.returned v∧w'.ownsRow w.heap.size 170 1 v 0 []∧Below w.heap.size w w':=by
 obtain ⟨i0,hi,hz0,hz1,hz2⟩:=info_parts Tryz.infoE
 by_cases h0:n=0
 ·subst h0
  go_enter Tryz.func144,Tryz.ntmps144
  go_wp2
  go_ret
  exact ⟨_,rfl,World.ownsRow_nil _ _ _ _,bl⟩
 ·have hrun:∀ty,(Builtin.append_ #[163,3] ty #[.slice none 0 0,.int .i64 n]).run Tryz.prog w=_:=fun ty=>Lib.run_append_nil_zeros w 163 3 ty 170 i0 (Value.int .u8 0) .i64 .i64 Tryz.underlying163 Tryz.underlying3 hi hz0 n (by omega) (by omega) (by omega) (by rw [hz2];omega)
  have hg:=grownCap_ge w n 0 170
  have hm:=grownCap_le_maxLen w n 0 170 (by unfold maxLen;omega)
  have HO:=hid (qcE w 170 (Value.int .u8 0) n (grownCap w n 0 170) rfl hg hm)
  have HB:=hid (((Below.refl w.heap.size w).drew).alloc nl (.cells (Builtin.zeroCells (Value.int .u8 0).cells n++Builtin.zeroCells (Value.int .u8 0).cells (grownCap w n 0 170-n)) 170))
  generalize grownCap w n 0 170=cap at *
  generalize (w.drew.alloc (.cells (Builtin.zeroCells (Value.int .u8 0).cells n++Builtin.zeroCells (Value.int .u8 0).cells (cap-n)) 170))=w1 at *
  have HR:=hid hrun
  clear hrun
  unfold maxLen at hm
  go_enter Tryz.func144,Tryz.ntmps144
  go_wp2_with (first | (at_builtin;refine Lib.wpList_append_run _ rfl (.tmp 20) (.tmp 21) _ _ rfl _ _ rfl rfl _ _ (HR.out _) ?_)|fail)
  go_ret
  exact ⟨_,rfl,HO.out,HB.out⟩
theorem growR (n:Nat) (w:World) (hn:n≤1000) :
  Calls Tryz.prog 145 #[.slice none 0 0,.int .i64 n] w fun e w'=>∃v,e=.returned v∧w'.ownsRow w.heap.size 50 1 v 0 []∧Below w.heap.size w w':=by
 obtain ⟨i0,hi,hz0,hz1,hz2⟩:=info_parts Tryz.infoRow
 by_cases h0:n=0
 ·subst h0
  go_enter Tryz.func145,Tryz.ntmps145
  go_wp2
  go_ret
  exact ⟨_,rfl,World.ownsRow_nil _ _ _ _,bl⟩
 ·have hrun:∀ty,(Builtin.append_ #[109,3] ty #[.slice none 0 0,.int .i64 n]).run Tryz.prog w=_:=fun ty=>Lib.run_append_nil_zeros w 109 3 ty 50 i0 (Value.slice none 0 0) .i64 .i64 Tryz.underlying109 Tryz.underlying3 hi hz0 n (by omega) (by omega) (by omega) (by rw [hz2];omega)
  have hg:=grownCap_ge w n 0 50
  have hm:=grownCap_le_maxLen w n 0 50 (by unfold maxLen;omega)
  have HO:=hid (qcE w 50 (Value.slice none 0 0) n (grownCap w n 0 50) rfl hg hm)
  have HB:=hid (((Below.refl w.heap.size w).drew).alloc nl (.cells (Builtin.zeroCells (Value.slice none 0 0).cells n++Builtin.zeroCells (Value.slice none 0 0).cells (grownCap w n 0 50-n)) 50))
  generalize grownCap w n 0 50=cap at *
  generalize (w.drew.alloc (.cells (Builtin.zeroCells (Value.slice none 0 0).cells n++Builtin.zeroCells (Value.slice none 0 0).cells (cap-n)) 50))=w1 at *
  have HR:=hid hrun
  clear hrun
  unfold maxLen at hm
  go_enter Tryz.func145,Tryz.ntmps145
  go_wp2_with (first | (at_builtin;refine Lib.wpList_append_run _ rfl (.tmp 20) (.tmp 21) _ _ rfl _ _ rfl rfl _ _ (HR.out _) ?_)|fail)
  go_ret
  exact ⟨_,rfl,HO.out,HB.out⟩
theorem qlQ (b n1 c1 n2 c2:Nat) (a1 a2:Option Addr) (X1 X2:List Value) (w:World) (hbs:b<w.heap.size)
  (k0:w.cell? ⟨b,0,none⟩=some (.slice a1 n1 c1)) (k1:w.cell? ⟨b,1,none⟩=some (.slice a2 n2 c2))
  (r1:Rd w a1 X1) (r2:Rd w a2 X2) (l1:X1.length=n1) (l2:X2.length=n2) (z1:a1=none→c1=0) (z2:a2=none→c2=0)
  (o1:∀u∈X1,u.oneCell'=true) (o2:∀u∈X2,u.oneCell'=true) (hn1:n1≤400) (hn2:n2≤400) :
  Calls Tryz.prog 94 #[.slice (some ⟨b,0,none⟩) 2 2] w fun e w'=>∃v,e=.returned v∧w'.ownsRow w.heap.size 170 1 v (n1+n2) (X1++X2)∧Below w.heap.size w w':=by
 obtain ⟨i0,hi,hz0,hz1,hz2⟩:=info_parts Tryz.infoE
 have L1:=hid l1
 have L2:=hid l2
 clear l1 l2
 go_enter Tryz.func94,Tryz.ntmps94
 go_wp2
 refine wp_loop_rounds 3 ?_
 rw [rounds_succ]
 go_wp2
 rw [rounds_succ]
 go_wp2
 rw [rounds_succ]
 go_wp2_with fail
 refine (growE (n1+n2) _ (by omega)).mono ?_
 rintro e w1 ⟨v1,rfl,hown1,hb1⟩
 have HO1:=hid hown1
 clear hown1
 have j0:w1.cell? ⟨b,0,none⟩=some (.slice a1 n1 c1):=(hb1.cell (by exact hbs)).trans k0
 go_wp2
 refine wp_loop_rounds 3 ?_
 rw [rounds_succ]
 go_wp2_with (first | (at_builtin;refine qbk _ rfl (.tmp 31) (.tmp 32) 163 rfl w.heap.size 170 i0 (Value.int .u8 0) 1 Tryz.underlying163 hi hz0 hz1 hz2 rfl _ 0 [] rfl HO1.out a1 n1 c1 X1 rfl L1.out (r1.below hb1 nl) z1 o1 (by omega) (by omega) hb1.size ?_;intro v2 w2 hown2 hgrow2;rw [Nat.zero_add,List.nil_append] at hown2;have hb2:Below w.heap.size w w2:=hb1.grown hgrow2 hb1.size (fun k hk=>(HO1.out.lt k hk).1);have HO2:=hid hown2;clear hown2 hgrow2;have j1:w2.cell? ⟨b,1,none⟩=some (.slice a2 n2 c2):=(hb2.cell (by exact hbs)).trans k1)|fail)
 rw [rounds_succ]
 go_wp2_with (first | (at_builtin;refine qbk _ rfl (.tmp 31) (.tmp 32) 163 rfl w.heap.size 170 i0 (Value.int .u8 0) 1 Tryz.underlying163 hi hz0 hz1 hz2 rfl _ n1 X1 rfl HO2.out a2 n2 c2 X2 rfl L2.out (r2.below hb2 nl) z2 o2 (by omega) (by omega) hb2.size ?_;intro v3 w3 hown3 hgrow3;have hb3:Below w.heap.size w w3:=hb2.grown hgrow3 hb2.size (fun k hk=>(HO2.out.lt k hk).1);have HO3:=hid hown3;clear hown3 hgrow3)|fail)
 rw [rounds_succ]
 go_wp2
 go_ret
 exact ⟨_,rfl,HO3.out,hb3⟩
theorem qlw (b n1 c1 n2 c2:Nat) (a1 a2:Option Addr) (X1 X2:List Value) (w:World) (hbs:b<w.heap.size)
  (k0:w.cell? ⟨b,0,none⟩=some (.slice a1 n1 c1)) (k1:w.cell? ⟨b,1,none⟩=some (.slice a2 n2 c2))
  (r1:Rd w a1 X1) (r2:Rd w a2 X2) (l1:X1.length=n1) (l2:X2.length=n2) (z1:a1=none→c1=0) (z2:a2=none→c2=0)
  (o1:∀u∈X1,u.oneCell'=true) (o2:∀u∈X2,u.oneCell'=true) (hn1:n1≤400) (hn2:n2≤400) :
  Calls Tryz.prog 95 #[.slice (some ⟨b,0,none⟩) 2 2] w fun e w'=>∃v,e=.returned v∧w'.ownsRow w.heap.size 50 1 v (n1+n2) (X1++X2)∧Below w.heap.size w w':=by
 obtain ⟨i0,hi,hz0,hz1,hz2⟩:=info_parts Tryz.infoRow
 have L1:=hid l1
 have L2:=hid l2
 clear l1 l2
 go_enter Tryz.func95,Tryz.ntmps95
 go_wp2
 refine wp_loop_rounds 3 ?_
 rw [rounds_succ]
 go_wp2
 rw [rounds_succ]
 go_wp2
 rw [rounds_succ]
 go_wp2_with fail
 refine (growR (n1+n2) _ (by omega)).mono ?_
 rintro e w1 ⟨v1,rfl,hown1,hb1⟩
 have HO1:=hid hown1
 clear hown1
 have j0:w1.cell? ⟨b,0,none⟩=some (.slice a1 n1 c1):=(hb1.cell (by exact hbs)).trans k0
 go_wp2
 refine wp_loop_rounds 3 ?_
 rw [rounds_succ]
 go_wp2_with (first | (at_builtin;refine qbk _ rfl (.tmp 31) (.tmp 32) 109 rfl w.heap.size 50 i0 (Value.slice none 0 0) 24 Tryz.underlying109 hi hz0 hz1 hz2 rfl _ 0 [] rfl HO1.out a1 n1 c1 X1 rfl L1.out (r1.below hb1 nl) z1 o1 (by omega) (by omega) hb1.size ?_;intro v2 w2 hown2 hgrow2;rw [Nat.zero_add,List.nil_append] at hown2;have hb2:Below w.heap.size w w2:=hb1.grown hgrow2 hb1.size (fun k hk=>(HO1.out.lt k hk).1);have HO2:=hid hown2;clear hown2 hgrow2;have j1:w2.cell? ⟨b,1,none⟩=some (.slice a2 n2 c2):=(hb2.cell (by exact hbs)).trans k1)|fail)
 rw [rounds_succ]
 go_wp2_with (first | (at_builtin;refine qbk _ rfl (.tmp 31) (.tmp 32) 109 rfl w.heap.size 50 i0 (Value.slice none 0 0) 24 Tryz.underlying109 hi hz0 hz1 hz2 rfl _ n1 X1 rfl HO2.out a2 n2 c2 X2 rfl L2.out (r2.below hb2 nl) z2 o2 (by omega) (by omega) hb2.size ?_;intro v3 w3 hown3 hgrow3;have hb3:Below w.heap.size w w3:=hb2.grown hgrow3 hb2.size (fun k hk=>(HO2.out.lt k hk).1);have HO3:=hid hown3;clear hown3 hgrow3)|fail)
 rw [rounds_succ]
 go_wp2
 go_ret
 exact ⟨_,rfl,HO3.out,hb3⟩
structure qaj (mode t l n:Nat):Prop where
 n1:1≤n
 n8:n≤8
 t1:1≤t
 tn:t≤n
 l1:1≤l
 md:mode=0∧t+l≤n+1∨mode=1∧l=1
theorem ql7 (mode t l n:Nat) (w:World) (h:qaj mode t l n) :
  Calls Tryz.prog 190 #[.agg #[.int .i64 mode,.int .i64 t,.int .i64 l],.int .i64 n] w fun e w'=>e=.returned (.bool true)∧Below w.heap.size w w':=by
 obtain ⟨h1,h2,h3,h4,h5,h6⟩:=h
 rcases h6 with ⟨rfl,h6⟩|⟨rfl,rfl⟩
 ·go_enter Tryz.func190,Tryz.ntmps190
  go_wp2
  go_ret
  refine ⟨?_,(Below.refl _ _).alloc nl _⟩
  simp
  omega
 ·go_enter Tryz.func190,Tryz.ntmps190
  go_wp2
  go_ret
  exact ⟨rfl,(Below.refl _ _).alloc nl _⟩
theorem qct (mode t l n:Nat) (w:World) (h:qaj mode t l n) :
  Calls Tryz.prog 142 #[.agg #[.int .i64 mode,.int .i64 t,.int .i64 l],.int .i64 n] w fun e w'=>e=.returned .nilIface∧Below w.heap.size w w':=by
 have h1:=h.n1
 have h2:=h.n8
 go_enter Tryz.func142,Tryz.ntmps142
 go_wp2_with (go_at_call 190;refine (ql7 mode t l n _ h).mono ?_;rintro e w1 ⟨rfl,hb1⟩)
 go_ret
 exact ⟨rfl,((Below.refl _ _).alloc nl _).trans (hb1.mono (by simp))⟩
attribute [local go_sem ↓] Go.wp_at_zero Go.wp_at_succ
theorem qeB (t l:Nat) (w:World) (ht:t≤8) :
  Calls Tryz.prog 143 #[.agg #[.int .i64 1,.int .i64 t,.int .i64 l]] w fun e w' =>
   ∃g,e=.returned (.tuple #[.slice (some ⟨g,0,none⟩) t t,.slice none 0 0])∧Rd w' (some ⟨g,0,none⟩) (bs (Cof.run 1 t))∧Below w.heap.size w w'∧w.heap.size≤g:=by
 go_enter Tryz.func143,Tryz.ntmps143
 go_wp2_with (go_at_call 98;refine (run_any 1 t _ (by omega)).mono ?_;rintro e w1 ⟨g,rfl,hrd,hb1,hg1⟩)
 go_ret2
 exact ⟨_,rfl,hrd,((Below.refl _ _).alloc nl _).trans (hb1.mono (by simp)),by simp at hg1;omega⟩
theorem qhh (u l:Nat) (w:World) (ht:u≤7) (hl:l≤8) :
  Calls Tryz.prog 143 #[.agg #[.int .i64 0,.int .i64 ((u:Int)+1),.int .i64 l]] w fun e w' =>
   ∃g1 g2,e=.returned (.tuple #[.slice (some ⟨g1,0,none⟩) l l,.slice (some ⟨g2,0,none⟩) u u])∧Rd w' (some ⟨g1,0,none⟩) (bs (Cof.run 128 l))∧Rd w' (some ⟨g2,0,none⟩) (bs (Cof.run 192 u))∧Below w.heap.size w w'∧w.heap.size≤g1∧w.heap.size≤g2:=by
 have hw:IntKind.i64.wrap (u:Int)=u:=by rw [IntKind.wrap_i64];omega
 go_enter Tryz.func143,Tryz.ntmps143
 go_wp2
 go_region_held3 (fun w'=>w'.cell? ⟨w.heap.size,1,none⟩=some (.int .i64 ((u:Int)+1))∧w'.cell? ⟨w.heap.size,2,none⟩=some (.int .i64 l)) (first | exact ⟨s3,s4⟩|exact ⟨s1,s2⟩|go_keep)
  (first
   | (go_at_call_of 98 (Value.int .i64 128);refine (run_any 128 l _ (by omega)).mono ?_;rintro e w1 ⟨g1,rfl,hrd1,hb1,hg1⟩;have s1:w1.cell? ⟨w.heap.size,1,none⟩=some (.int .i64 ((u:Int)+1)):=(hb1.cell (by simp)).trans (by simp);have s2:w1.cell? ⟨w.heap.size,2,none⟩=some (.int .i64 l):=(hb1.cell (by simp)).trans (by simp))
   | (go_at_call_of 98 (Value.int .i64 192);refine (run_any 192 u _ (by omega)).mono ?_;rintro e w2 ⟨g2,rfl,hrd2,hb2,hg2⟩;have s3:w2.cell? ⟨w.heap.size,1,none⟩=some (.int .i64 ((u:Int)+1)):=(hb2.cell (by have:=hb1.size;simp at this;show w.heap.size<w1.heap.size;omega)).trans s1;have s4:w2.cell? ⟨w.heap.size,2,none⟩=some (.int .i64 l):=(hb2.cell (by have:=hb1.size;simp at this;show w.heap.size<w1.heap.size;omega)).trans s2))
 go_wp2
 go_ret2
 have hz:=hb1.size
 simp at hz hg1
 exact ⟨g1,g2,rfl,hrd1.below hb2 nl,hrd2,((((Below.refl _ _).alloc nl _).drew).trans (hb1.mono (by simp))).trans (hb2.mono (by omega)),by omega,by omega⟩
structure Lay (w:World) (mode t l base:Nat) (ag:Option Addr) (cg:Nat) (at':Option Addr) (ct:Nat):Prop where
 g:Rd w ag (bs (Cof.groupAt mode t l))
 t:Rd w at' (bs (Cof.tapeAt mode t))
 gz:ag=none→cg=0
 tz:at'=none→ct=0
 gf:∀ad,ag=some ad→base≤ad.block
 tf:∀ad,at'=some ad→base≤ad.block
theorem Lay.below {B:Nat} {w w':World} {mode t l base:Nat} {ag:Option Addr} {cg:Nat} {at':Option Addr} {ct:Nat} (h:Lay w mode t l base ag cg at' ct) (hb:Below B w w') (hB:w.heap.size≤B):Lay w' mode t l base ag cg at' ct :=
 ⟨h.g.below hb hB,h.t.below hb hB,h.gz,h.tz,h.gf,h.tf⟩
theorem Lay.setCell {w:World} {mode t l base g k:Nat} {ag:Option Addr} {cg:Nat} {at':Option Addr} {ct:Nat} (h:Lay w mode t l base ag cg at' ct) (hg:g<base) (u:Value):Lay (w.setCell ⟨g,k,none⟩ u) mode t l base ag cg at' ct :=
 ⟨h.g.setCell_far (fun ad e=>by have:=h.gf ad e;omega) u,h.t.setCell_far (fun ad e=>by have:=h.tf ad e;omega) u,h.gz,h.tz,h.gf,h.tf⟩
theorem Lay.mono {w:World} {mode t l base base':Nat} {ag:Option Addr} {cg:Nat} {at':Option Addr} {ct:Nat} (h:Lay w mode t l base ag cg at' ct) (hb:base'≤base):Lay w mode t l base' ag cg at' ct :=
 ⟨h.g,h.t,h.gz,h.tz,fun ad e=>Nat.le_trans hb (h.gf ad e),fun ad e=>Nat.le_trans hb (h.tf ad e)⟩
theorem qkV (mode t l n:Nat) (w:World) (h:qaj mode t l n) :
  Calls Tryz.prog 143 #[.agg #[.int .i64 mode,.int .i64 t,.int .i64 l]] w fun e w' =>
   ∃ag cg at' ct,e=.returned (.tuple #[.slice ag (Cof.gsize mode t l) cg,.slice at' (Cof.tsize mode t) ct])∧Lay w' mode t l w.heap.size ag cg at' ct∧Below w.heap.size w w':=by
 obtain ⟨h1,h2,h3,h4,h5,h6⟩:=h
 rcases h6 with ⟨rfl,h6⟩|⟨rfl,rfl⟩
 ·obtain ⟨u,rfl⟩:∃u,t=u+1:=⟨t-1,by omega⟩
  refine (qhh u l w (by omega) (by omega)).mono ?_
  rintro e w' ⟨g1,g2,rfl,r1,r2,hb,f1,f2⟩
  exact ⟨some ⟨g1,0,none⟩,l,some ⟨g2,0,none⟩,u,rfl,⟨r1,r2,(fun h=>by cases h),(fun h=>by cases h),(fun ad h=>by cases h;exact f1),(fun ad h=>by cases h;exact f2)⟩,hb⟩
 ·refine (qeB t 1 w (by omega)).mono ?_
  rintro e w' ⟨g1,rfl,r1,hb,f1⟩
  exact ⟨some ⟨g1,0,none⟩,t,none,0,rfl,⟨r1,Rd.nil _ _,(fun h=>by cases h),(fun _=>rfl),(fun ad h=>by cases h;exact f1),(fun ad h=>by cases h)⟩,hb⟩
theorem qbx (mode t l n size:Nat) (w:World) (h:qaj mode t l n) (hs:size≤60) :
  Calls Tryz.prog 91 #[.agg #[.int .i64 mode,.int .i64 t,.int .i64 l],.int .i64 n,.int .i64 size] w fun e w' =>
   ∃ag cg at' ct,e=.returned (.tuple #[.agg #[.slice ag (Cof.gsize mode t l) cg,.slice at' (Cof.tsize mode t) ct,.int .i64 (Cof.ngroups mode t l size)],.nilIface])∧Lay w' mode t l w.heap.size ag cg at' ct∧Below w.heap.size w w':=by
 have hg1:1≤Cof.gsize mode t l:=by have:=h.t1;have:=h.l1;unfold Cof.gsize;split<;>omega
 have hg2:Cof.gsize mode t l≤8:=by obtain ⟨_,_,_,_,_,h6⟩:=h;unfold Cof.gsize;split<;>omega
 have HN:Hid (Cof.ngroups mode t l size=(size+Cof.gsize mode t l-1) / Cof.gsize mode t l):=rfl
 go_enter Tryz.func91,Tryz.ntmps91
 go_wp2_with fail
 refine (qct mode t l n _ h).mono ?_
 rintro e w1 ⟨rfl,hb1⟩
 obtain ⟨hc1,hf1⟩:=qbM hb1
 go_wp2_with fail
 refine (qkV mode t l n _ h).mono ?_
 rintro e w2 ⟨ag,cg,at',ct,rfl,hlay,hb2⟩
 obtain ⟨hc2,hf2⟩:=qbM hb2
 have hz1:w.heap.size+1<w1.heap.size:=by have:=hb1.size;simp at this;omega
 generalize hgs:Cof.gsize mode t l=gs at *
 generalize hts:Cof.tsize mode t=ts at *
 have HG:=hid hgs
 have HT:=hid hts
 clear hgs hts
 go_wp2
 have hd:((size:Int)+gs-1) / gs=(Cof.ngroups mode t l size:Int):=by
  rw [HN.out];have:((size+gs-1:Nat):Int)=(size:Int)+gs-1:=by omega
  rw [Int.natCast_ediv,this]
 rw [hd]
 refine bodyPost_ret (v:=.tuple #[.agg #[.slice ag gs cg,.slice at' ts ct,.int .i64 (Cof.ngroups mode t l size)],.nilIface]) ?_ rfl ⟨ag,cg,at',ct,by rw [HG.out,HT.out],?_,?_⟩
 ·simp [results,Tryz.results91,go_sem,hc2,hc1,hz1]
 ·exact (((hlay.setCell (g:=w.heap.size+1) (k:=0) hz1 _).setCell (g:=w.heap.size+1) hz1 _).setCell (g:=w.heap.size+1) hz1 _).mono (by omega)
 ·exact ((((((Below.refl _ _).alloc nl _).alloc (by simp) _).trans (hb1.mono (by simp;omega))).trans (hb2.mono (by omega))).setCell (by simp) _ |>.setCell (by simp) _).setCell (by simp) _
theorem qcr (ag at':Option Addr) (gs cg ts ct ng:Nat) (w:World) (h1:ts≤8) (h2:ng≤60) :
  Calls Tryz.prog 93 #[.agg #[.slice ag gs cg,.slice at' ts ct,.int .i64 ng]] w fun e w'=>e=.returned (.int .i64 ((ts*ng:Nat):Int))∧Below w.heap.size w w':=by
 have hm:ts*ng≤8*60:=Nat.mul_le_mul h1 h2
 go_enter Tryz.func93,Tryz.ntmps93
 go_wp2
 go_ret
 exact ⟨qbo (by simp),(Below.refl _ _).alloc nl _⟩
theorem qie (ag at':Option Addr) (gs cg ts ct ng need:Nat) (w:World) (h1:ts≤8) (h2:ng≤60) (hq:ts*ng=need) :
  Calls Tryz.prog 93 #[.agg #[.slice ag gs cg,.slice at' ts ct,.int .i64 ng]] w fun e w'=>e=.returned (.int .i64 (need:Int))∧Below w.heap.size w w':=by
 subst hq;exact qcr ag at' gs cg ts ct ng w h1 h2
theorem qgz (s:ByteArray) (need:Nat) (w:World) (h:need≤s.size) :
  Calls Tryz.prog 92 #[.string s,.int .i64 need] w fun e w'=>e=.returned .nilIface∧w'=w:=by
 go_enter Tryz.func92,Tryz.ntmps92
 go_wp2
 go_ret
 exact ⟨rfl,rfl⟩
theorem qeP (w:World) (s:ByteArray):∃cap w',(convert 9 50 (.string s)).run Tryz.prog w=.ok (.slice (some ⟨w.heap.size,0,none⟩) s.size cap) w'∧Rd w' (some ⟨w.heap.size,0,none⟩) (bs s.data.toList)∧Below w.heap.size w w'∧w'.heap.size=w.heap.size+1:=by
 refine ⟨_,_,run_bytes_of_string w 9 50 5 s Tryz.underlying9 Tryz.underlying50 Tryz.underlying5,?_,?_,?_⟩
 ·intro k v hk
  have hkl:k<s.data.size:=by
   rcases Nat.lt_or_ge k s.data.size with h | h
   ·exact h
   ·rw [List.getElem?_eq_none (by simpa [bs] using h)] at hk;simp at hk
  refine ⟨w.heap.size,0,rfl,by simp,?_⟩
  rw [Nat.zero_add]
  have:=World.cell?_alloc_mark w.drew (bytesRow s (grownCap w s.size 0 5)) 5 ((bytesRow s (grownCap w s.size 0 5)).size,(bytesRow s (grownCap w s.size 0 5)).size+1) k
  rw [show w.drew.heap.size=w.heap.size from rfl,bytesRow_at s _ k hkl] at this
  rw [this]
  simp only [bs,List.getElem?_map,Array.getElem?_toList,Array.getElem?_eq_getElem hkl,Option.map_some] at hk
  exact hk
 ·exact ((Below.refl _ _).drew).alloc nl _
 ·simp
theorem qa6 (w:World) (a:Option Addr) (cap n:Nat) (xs:List UInt8) (en:n=xs.length) (hr:Rd w a (bs xs)):(convert 50 9 (.slice a n cap)).run Tryz.prog w=.ok (.string ⟨xs.toArray⟩) w:=by
 subst en
 cases a with
 | none =>
  have:xs=[]:=by
   cases xs with
   | nil=>rfl
   | cons x r=>obtain ⟨b,o,h,_⟩:=hr 0 _ rfl;cases h
  subst this
  rw [run_convert_bytes_string w 50 9 5 none _ cap Tryz.underlying50 Tryz.underlying5 Tryz.underlying9]
  rfl
 | some ad =>
  refine run_convert_bytes_back w 50 9 5 ad cap xs Tryz.underlying50 Tryz.underlying5 Tryz.underlying9 ?_
  intro j hj
  obtain ⟨b,o,h1,h2,h3⟩:=hr j _ (qaX xs j hj)
  cases h1
  rw [qaW,h3]
  simp [hj]
theorem qae {B:Nat} {w W:World} {base n:Nat} {e:TypeId} {v:Value} {xs:List Value} (h:w.ownsRow base e 1 v n xs) (hb:Below B w W) (hB:w.heap.size≤B):W.ownsRow base e 1 v n xs:=by
 obtain ⟨h1,h2⟩:=h
 refine ⟨h1,?_⟩
 rcases h2 with h2 | ⟨g,cap,cur,e1,e2,e3,e4⟩
 ·exact .inl h2
 ·have hg:g<w.heap.size:=by
   rcases Nat.lt_or_ge g w.heap.size with h | h
   ·exact h
   ·rw [Array.getElem?_eq_none h] at e3;cases e3
  exact .inr ⟨g,cap,cur,e1,e2,by rw [hb.block g (by omega)];exact e3,e4⟩
structure Deal (w:World) (base g0 width B2:Nat) (rows:Nat→List UInt8) (vs:List Value):Prop where
 own:w.ownsRow base 50 1 (.slice (some ⟨g0,0,none⟩) width width) width vs
 row:∀(j:Nat) (v:Value),vs[j]?=some v→w.ownsRow B2 5 1 v (rows j).length (bs (rows j))
 apart:∀(i j:Nat) (vi vj:Value),i≠j→vs[i]?=some vi→vs[j]?=some vj→vi.ownBlock=none∨vi.ownBlock≠vj.ownBlock
 lt:g0<B2
 le:B2≤w.heap.size
theorem Deal.step {w W w1:World} {base g0 width B2 r g cap:Nat} {rows rows':Nat→List UInt8} {vs:List Value} {v:Value} {x:UInt8} (h:Deal w base g0 width B2 rows vs) (hr:vs[r]?=some v)
  (hbW:Below w.heap.size w W) (hown:w1.ownsRow B2 5 1 (.slice (some ⟨g,0,none⟩) ((rows r).length+1) cap) ((rows r).length+1) (bs (rows r)++[.int .u8 x.toNat]))
  (hgrow:W.grownBy w1 v.ownBlock) (hat:v.ownBlock=some g∨g=W.heap.size) (e1:rows' r=rows r++[x]) (e2:∀j,j≠r→rows' j=rows j) :
  Deal (w1.setCell ⟨g0,r,none⟩ (.slice (some ⟨g,0,none⟩) ((rows r).length+1) cap)) base g0 width B2 rows' (vs.set r (.slice (some ⟨g,0,none⟩) ((rows r).length+1) cap)):=by
 have hrl:r<vs.length:=(List.getElem?_eq_some_iff.1 hr).1
 have hv:=h.row r v hr
 have hg0:g0<w.heap.size:=(h.own.lt g0 rfl).2
 have hvb:∀k,v.ownBlock=some k→B2≤k:=fun k hk=>(hv.lt k hk).1
 have hlt:=h.lt
 refine ⟨?_,?_,?_,h.lt,?_⟩
 ·have hk:w1.ownsRow base 50 1 (.slice (some ⟨g0,0,none⟩) width width) width vs:=by
   refine (qae h.own hbW nl).kept hgrow (.inr ?_)
   intro hc
   have:=hvb g0 (by rw [←hc];rfl)
   omega
  exact (hk.stored r _).1
 ·intro j u hj
  rw [List.getElem?_set] at hj
  split at hj
  ·rename_i hrj
   subst hrj
   simp at hj
   subst hj
   rw [e1]
   have:bs (rows r++[x])=bs (rows r)++[.int .u8 x.toNat]:=by simp [bs]
   rw [this,List.length_append]
   exact ownsRow_setCell_below hown (by exact hlt) _
  ·rename_i hrj
   rw [e2 j (fun h=>hrj h.symm)]
   refine ownsRow_setCell_below ((qae (h.row j u hj) hbW nl).kept hgrow ?_) (by exact hlt) _
   exact h.apart j r u v (fun h=>hrj h.symm) hj hr
 ·have key:∀j u,j≠r→vs[j]?=some u→u.ownBlock=none∨u.ownBlock≠some g:=by
   intro j u hjr hj
   rcases hat with hat | hat
   ·have:=h.apart j r u v hjr hj hr
    rw [hat] at this
    exact this
   ·refine .inr ?_
    intro hc
    have:=((h.row j u hj).lt g hc).2
    have:=hbW.size
    omega
  intro i j vi vj hij hi hj
  rw [List.getElem?_set] at hi hj
  split at hi
  ·rename_i hri
   subst hri
   rw [if_neg (by omega)] at hj
   simp at hi
   subst hi
   rcases key j vj (by omega) hj with h' | h'
   ·exact .inr (by rw [h'];simp [Value.ownBlock])
   ·exact .inr (fun hc=>h' (by rw [←hc];rfl))
  ·rename_i hri
   split at hj
   ·rename_i hrj
    subst hrj
    simp at hj
    subst hj
    exact key i vi (by omega) hi
   ·exact h.apart i j vi vj hij hi hj
 ·have:=hgrow.size
  have:=hbW.size
  have:=h.le
  have e:(w1.setCell ⟨g0,r,none⟩ (.slice (some ⟨g,0,none⟩) ((rows r).length+1) cap)).heap.size=w1.heap.size:=by simp
  rw [e];omega
theorem Deal.others {w W w1:World} {base g0 width B2 r:Nat} {rows:Nat→List UInt8} {vs:List Value} {v u:Value} (h:Deal w base g0 width B2 rows vs) (hr:vs[r]?=some v)
  (hbW:Below w.heap.size w W) (hgrow:W.grownBy w1 v.ownBlock) (k:Nat) (hk:k<B2) (hne:k≠g0):(w1.setCell ⟨g0,r,none⟩ u).heap[k]?=w.heap[k]?:=by
 have hv:=h.row r v hr
 have hle:=h.le
 rw [Below.heap_setCell _ _ _ _ (by exact hne),hgrow.block k (by have:=hbW.size;omega) ?_,hbW.block k (by omega)]
 intro hc
 have:=(hv.lt k hc.symm).1
 omega
theorem Deal.cell {w:World} {base g0 width B2 r:Nat} {rows:Nat→List UInt8} {vs:List Value} (h:Deal w base g0 width B2 rows vs) (hr:r<width):∃v,vs[r]?=some v∧w.cell? ⟨g0,r,none⟩=some v∧w.frozen? ⟨g0,r,none⟩=false∧w.ownsRow B2 5 1 v (rows r).length (bs (rows r)):=by
 have hl:=(qap h.own).2.2
 obtain ⟨v,hv⟩:∃v,vs[r]?=some v:=⟨_,List.getElem?_eq_getElem (by omega)⟩
 exact ⟨v,hv,by rw [h.own.cellAt r (by omega)];exact hv,h.own.frozenAt r,h.row r v hv⟩
theorem Deal.full {w:World} {base g0 width B2:Nat} {rows:Nat→List UInt8} {vs:List Value} (h:Deal w base g0 width B2 rows vs):qaE w (some ⟨g0,0,none⟩) ((List.range width).map rows):=by
 have hl:=(qap h.own).2.2
 refine ⟨vs,by simp [hl],qaC h.own,fun k v hv=>?_⟩
 have hk:k<width:=by
  rcases Nat.lt_or_ge k width with h' | h'
  ·exact h'
  ·rw [List.getElem?_eq_none (by omega)] at hv;simp at hv
 obtain ⟨a,cap,h1,h2⟩:=qaw (h.row k v hv)
 exact ⟨a,cap,by simpa [hk] using h1,by simpa [hk] using h2⟩
theorem Deal.start {w:World} {base g0 width B2:Nat} (h:w.ownsRow base 50 1 (.slice (some ⟨g0,0,none⟩) width width) width (List.replicate width (.slice none 0 0))) (h1:g0<B2) (h2:B2≤w.heap.size) :
  Deal w base g0 width B2 (fun _=>[]) (List.replicate width (.slice none 0 0)):=by
 refine ⟨h,?_,?_,h1,h2⟩
 ·intro j v hj
  rw [List.getElem?_replicate] at hj
  split at hj
  ·simp at hj;subst hj;exact World.ownsRow_nil _ _ _ _
  ·cases hj
 ·intro i j vi vj _ hi _
  rw [List.getElem?_replicate] at hi
  split at hi
  ·simp at hi;subst hi;exact .inl rfl
  ·cases hi
attribute [local go_sem ↓] Go.wp_at_zero Go.wp_at_succ
theorem qd6 (text:List UInt8) (width j k:Nat):Cof.dealRow text width j (k+1)=if k % width=j then Cof.dealRow text width j k++[text.getD k 0] else Cof.dealRow text width j k:=by
 unfold Cof.dealRow
 rw [List.range_succ,List.filter_append,List.map_append]
 split
 ·rename_i h;simp [h]
 ·rename_i h;simp [h]
theorem qdw (text:List UInt8) (width j k:Nat):(Cof.dealRow text width j k).length≤k:=by
 unfold Cof.dealRow
 rw [List.length_map]
 exact Nat.le_trans (List.length_filter_le _ _) (by simp)
theorem qfL (s:ByteArray) (width groups:Nat) (w:World) (hw:width≤8) (hg:groups≤60) :
  Calls Tryz.prog 96 #[.string s,.int .i64 width,.int .i64 groups] w fun e w' =>
   ∃g,e=.returned (.slice (some ⟨g,0,none⟩) width width)∧qaE w' (some ⟨g,0,none⟩) (Cof.deal s.data.toList width groups)∧Below w.heap.size w w':=by
 obtain ⟨i0,hi,hz0,hz1,hz2⟩:=info_parts Tryz.infoRow
 obtain ⟨i5,hi5,hy0,hy1,hy2⟩:=info_parts Tryz.info5
 have hm:width*groups≤8*60:=Nat.mul_le_mul hw hg
 have hmi:(width:Int)*(groups:Int)=((width*groups:Nat):Int):=by simp
 have hmb:(width:Int)*(groups:Int)≤480:=by rw [hmi];omega
 have hma:(0:Int)≤(width:Int)*(groups:Int):=by rw [hmi];omega
 have HM:=hid hmi
 clear hmi
 go_enter Tryz.func96,Tryz.ntmps96
 go_wp2_with (first | (at_make;refine wpList_make_full _ rfl (.tmp 10) (.tmp 10) 109 rfl w.heap.size 50 i0 (.slice none 0 0) 1 Tryz.underlying109 hi hz0 hz1 .i64 .i64 _ _ width rfl rfl rfl rfl (by rw [hz2];omega) (by unfold maxLen;omega) nl ?_;intro w1 hown1 hgrow1;have hb1:=grown_below hgrow1;have HO1:=hid (qdX (fun _=>[]) hown1).own;clear hown1 hgrow1;obtain ⟨cap1,w2,hconv,hrd2,hb2,hs2⟩:=qeP w1 s;have HS2:=hid hs2;clear hs2)|fail)
 rw [HM.out]
 generalize hN:width*groups=N at *
 have HN:=hid hN
 clear hN hmb hma
 refine (qhp _ _ s.data.toList N _ (by exact hrd2) (by omega)).mono ?_
 rintro e w3 ⟨f,rfl,hown3,hb3⟩
 have hg0:w.heap.size<w1.heap.size:=(HO1.out.lt _ rfl).2
 have hf0:w2.heap.size≤f∧f<w3.heap.size:=hown3.lt f rfl
 have hz12:w1.heap.size<w2.heap.size:=by rw [HS2.out];omega
 have hb23:Below w1.heap.size w1 w3:=hb2.trans (hb3.mono (by omega))
 have HF:=hid (qaC hown3)
 have HD:=hid (Deal.start (qae HO1.out hb23 nl) (show w.heap.size<w3.heap.size by have:=hb23.size;omega) nl)
 have hb:Below w.heap.size w w3:=hb1.trans (hb23.mono (by omega))
 clear hown3 hconv hrd2 hb1 hb2 hb3 hb23
 go_wp2
 go_loopw [19] (fun i wr=>∃(k:Nat) (vs:List Value),k≤N∧i=.int .i64 k∧Deal wr w.heap.size w.heap.size width w3.heap.size (fun j=>Cof.dealRow s.data.toList width j k) vs∧wr.heap[f]?=w3.heap[f]?∧Below w.heap.size w wr)
  (fun i _=>N-(intOf i).toNat)
 case atStart=>exact ⟨0,_,Nat.zero_le _,rfl,HD.out,rfl,hb⟩
 case round =>
  obtain ⟨k,vs,hk,rfl,hdeal,hkept,hbel⟩:=hrel
  have HK:=hid hkept
  clear hkept
  by_cases hlt:k<N
  ·have hw0:0<width:=by
    rcases Nat.eq_zero_or_pos width with h | h
    ·have:=HN.out;rw [h] at this;omega
    ·exact h
   obtain ⟨r,hr⟩:∃r,r=k % width:=⟨_,rfl⟩
   have hrw:r<width:=by rw [hr];exact Nat.mod_lt _ hw0
   have hri:(k:Int) % (width:Int)=(r:Int):=by rw [hr];simp
   have hrt:(k:Int).tmod (width:Int)=(r:Int):=by rw [Int.tmod_eq_emod_of_nonneg (by omega)];exact hri
   have hwr:IntKind.i64.wrap (r:Int)=r:=by rw [IntKind.wrap_i64];omega
   have hw1:((width:Int) == 0)=false:=by rw [beq_eq_false_iff_ne];omega
   have hw2:width≠0:=by omega
   have hr0:(0:Int)≤(r:Int):=by omega
   have hr1:(r:Int)<(width:Int):=by omega
   have HR:=hid hr
   clear hr
   obtain ⟨v,hv,hcell,hfr,hown⟩:=hdeal.cell hrw
   obtain ⟨x,hx⟩:∃x,x=s.data.toList.getD k 0:=⟨_,rfl⟩
   have hsrc:wr.cell? ⟨f,k,none⟩=some (.int .u8 x.toNat):=by
    rw [World.cell?_of_block (a:=⟨f,k,none⟩) HK.out]
    obtain ⟨b,o,e1,_,e3⟩:=HF.out k (.int .u8 x.toNat) (by rw [qaX _ _ (by rw [Cof.length_fillRow];exact hlt),qdU _ _ _ hlt,hx])
    cases e1
    rw [Nat.zero_add] at e3
    exact e3
   have HX:=hid hx
   have HDL:=hid hdeal
   have HV:=hid hv
   have hle:=qdw s.data.toList width r k
   have hB2:w3.heap.size≤wr.heap.size:=hdeal.le
   have HOWN:=hid hown
   clear hx hdeal hv hown
   have hfar:∀c,(wr.alloc (.cells c 5)).cell? ⟨w.heap.size,r,none⟩=some v∧(wr.alloc (.cells c 5)).frozen? ⟨w.heap.size,r,none⟩=false:=fun c=>by
    have hb':=(Below.refl wr.heap.size wr).alloc nl (.cells c 5)
    have hg1:w.heap.size<wr.heap.size:=by omega
    exact ⟨(hb'.cell (by exact hg1)).trans hcell,(hb'.frozen (by exact hg1)).trans hfr⟩
   have HFAR:=hid hfar
   have hfar1:∀c,(wr.alloc (.cells c 5)).cell? ⟨w.heap.size,r,none⟩=some v:=fun c=>(hfar c).1
   have hvb:v.ownBlock≠some w.heap.size:=by
    intro hc
    have:=(HOWN.out.lt _ hc).1
    omega
   clear hfar
   go_wp2_with fail
   go_region_law ((refine step_append_lies _ (by rfl) _ _ _ (by rfl) w3.heap.size 5 i5 (.int .u8 0) 1 1 Tryz.underlying50 hi5 hy0 hy1 hy2 rfl (by omega) v _ _ (by rfl) ((HOWN.out.alloc _).drew) ⟨wr.heap.size,0,none⟩ 1 1 [.int .u8 x.toNat] (by rfl) (by rfl) (World.news_of_block (cs:=#[.int .u8 x.toNat]) (t:=5) (fr:=(0,0)) (heap_alloc_new wr _)) (by simp [Value.oneCell']) (by omega) (by unfold maxLen;omega) (by omega) (by simp;omega) (wr.heap.size+1) (by simp) ?_;intro g cap w4 hown4 hgrow4 hat4 hlt4;have c1:w4.cell? ⟨w.heap.size,r,none⟩=some v:=(hgrow4.cell_far _ (by simp;omega) (Ne.symm hvb)).trans (HFAR.out _).1;have f1:w4.frozen? ⟨w.heap.size,r,none⟩=false:=(hgrow4.frozen_far _ (by simp;omega) (Ne.symm hvb)).trans (HFAR.out _).2))
   all_goals
    have hbW:Below wr.heap.size wr (wr.alloc (.cells #[.int .u8 x.toNat] 5)).drew:=((Below.refl wr.heap.size wr).alloc nl _).drew
    have HST:=hid (HDL.out.step (rows':=fun j=>Cof.dealRow s.data.toList width j (k+1)) HV.out hbW hown4 hgrow4 (by simpa using hat4) (by show Cof.dealRow _ _ _ _=_;rw [qd6,if_pos HR.out.symm,HX.out]) (fun j hj=>by show Cof.dealRow _ _ _ _=_;rw [qd6,if_neg (by rw [←HR.out];omega)]))
    have HKP:=hid ((HDL.out.others (u:=.slice (some ⟨g,0,none⟩) ((Cof.dealRow s.data.toList width r k).length+1) cap) HV.out hbW hgrow4 f hf0.2 (by omega)).trans HK.out)
    have hbf:Below w.heap.size w w4:=((hbel.trans (hbW.mono hbel.size)).grown hgrow4 (by have:=hbel.size;simp;omega) (fun k hk=>Nat.le_trans (by omega) (HOWN.out.lt k hk).1))
    clear hown4 hgrow4 hat4 hlt4
    go_wp2
    go_roundw
    case rel=>exact ⟨k+1,_,by omega,by go_num,HST.out,HKP.out,hbf.setCell nl _⟩
    case measure=>simp [intOf];omega
  ·have hkn:k=N:=by omega
   subst hkn
   have HF2:=hid hdeal.full
   clear hdeal
   go_wp2
   go_ret
   exact ⟨_,rfl,by rw [←HN.out] at HF2;exact HF2.out,hbel⟩
theorem qiq (frm:List UInt8) (rows:List (List UInt8)) (x:UInt8) (R:Nat) (h:∀k,(rows.getD k []).length≤R) (k:Nat):(Cof.carryTo frm rows x k).length≤R:=by
 induction k with
 | zero=>simp [Cof.carryTo]
 | succ k ih=>rw [Cof.carryTo,Cof.length_sumRow,Cof.length_scaleRow];exact Nat.max_le.2 ⟨ih,h k⟩
theorem qkU (xs:List UInt8) (k:Nat):(Cof.basis xs k).length≤xs.length+1:=by
 rw [Cof.basis,Cof.length_scaleRow];exact (qcL xs k xs.length).2
theorem qk9 (xs:List UInt8) (k:Nat) (h:k<xs.length):(Cof.bases xs).getD k []=Cof.basis xs k:=by simp [Cof.bases,h]
theorem qaf {w:World} {base base' n size:Nat} {e:TypeId} {v:Value} {L:List Value} (h:w.ownsRow base e size v n L) (hb:base'≤base):w.ownsRow base' e size v n L:=by
 obtain ⟨h1,h2⟩:=h
 refine ⟨h1,?_⟩
 rcases h2 with h2 | ⟨g,cap,cur,h3,h4,h5⟩
 ·exact .inl h2
 ·exact .inr ⟨g,cap,cur,h3,by omega,h5⟩
theorem qep (af ar at':Option Addr) (nf cf nr cr nt ct:Nat) (frm to:List UInt8) (rows:List (List UInt8)) (w:World) (ef:nf=frm.length) (er:nr=rows.length) (et:nt=to.length)
  (hf:Rd w af (bs frm)) (hr:qaE w ar rows) (ht:Rd w at' (bs to)) (hn:nf≤100) (hrf:nr≤nf) (hnt:nt≤100) (hlen:∀k,(rows.getD k []).length≤500) :
  Calls Tryz.prog 97 #[.slice af nf cf,.slice ar nr cr,.slice at' nt ct] w fun e w' =>
   ∃g,e=.returned (.slice (some ⟨g,0,none⟩) nt nt)∧qaE w' (some ⟨g,0,none⟩) (Cof.carry frm rows to)∧Below w.heap.size w w'∧OwnR w' w.heap.size g nt 50:=by
 obtain ⟨i0,hi,hz0,hz1,hz2⟩:=info_parts Tryz.infoRow
 have HEF:=hid ef
 have HER:=hid er
 have HET:=hid et
 clear ef er et
 go_enter Tryz.func97,Tryz.ntmps97
 go_wp2_with (first | (go_at_call 147;refine (qjh _ _ _ frm _ HEF.out hf (by omega)).mono ?_;rintro e w1 ⟨gb,rfl,hbases,hb1⟩)|(at_make;refine wpList_make_full _ rfl (.tmp 16) (.tmp 16) 109 rfl w1.heap.size 50 i0 (.slice none 0 0) 1 Tryz.underlying109 hi hz0 hz1 .i64 .i64 _ _ nt rfl rfl rfl rfl (by rw [hz2];omega) (by unfold maxLen;omega) nl ?_;intro w2 hown2 hgrow2;have hb2:=grown_below hgrow2;have HO2:=hid (qdX (fun i=>Cof.carryTo frm rows (to.getD i 0) rows.length) hown2);clear hown2 hgrow2))
 go_loopw [20] (fun i wr=>∃(k:Nat) (vs:List Value),k≤nt∧i=.int .i64 k∧Rows wr w1.heap.size w1.heap.size nt k 50 (fun i=>Cof.carryTo frm rows (to.getD i 0) rows.length) vs∧(∀(j:Nat) (v:Value),k≤j→vs[j]?=some v→v=.slice none 0 0)∧Below w1.heap.size w1 wr)
  (fun i _=>nt-(intOf i).toNat)
 case atStart =>
  refine ⟨0,_,Nat.zero_le _,rfl,HO2.out,?_,hb2⟩
  intro j v _ hv
  rw [List.getElem?_replicate] at hv
  split at hv
  ·simp at hv;exact hv.symm
  ·cases hv
 case round =>
  obtain ⟨i,vs,hi',rfl,hrows,hrest,hbel⟩:=hrel
  by_cases hlt:i<nt
  ·have hltl:i<to.length:=by rw [←HET.out];exact hlt
   obtain ⟨bt,ot,rfl,hbts,hcellt⟩:=ht.pos (by rw [qag];omega)
   obtain ⟨x,hx⟩:∃x,x=to.getD i 0:=⟨_,rfl⟩
   have hct:wr.cell? ⟨bt,ot+i,none⟩=some (.int .u8 x.toNat):=by rw [hbel.cell (by show bt<w1.heap.size;have:=hb1.size;omega),hb1.cell (by exact hbts)];exact hcellt i _ (by rw [qaX _ _ hltl,hx])
   have HX:=hid hx
   have HRW:=hid hrows
   have HRS:=hid hrest
   clear hcellt hx hrows hrest
   go_wp2
   go_loopw [27] (fun c wr=>∃(k:Nat) (vs:List Value) (a:Option Addr) (l cap:Nat),k≤nr∧c=.int .i64 k∧Rows wr w1.heap.size w1.heap.size nt i 50 (fun i=>Cof.carryTo frm rows (to.getD i 0) rows.length) vs∧vs[i]?=some (.slice a l cap)∧l=(Cof.carryTo frm rows x k).length∧Rd wr a (bs (Cof.carryTo frm rows x k))∧(∀(j:Nat) (v:Value),i<j→vs[j]?=some v→v=.slice none 0 0)∧Below w1.heap.size w1 wr)
    (fun c _=>nr-(intOf c).toNat)
   case atStart =>
    obtain ⟨v,hv⟩:∃v,vs[i]?=some v:=⟨_,List.getElem?_eq_getElem (by have:=(qap HRW.out.own).2.2;omega)⟩
    have:=HRS.out i v nl hv
    subst this
    exact ⟨0,vs,none,0,0,Nat.zero_le _,rfl,HRW.out,hv,rfl,Rd.nil _ _,fun j v hj=>HRS.out j v (by omega),hbel⟩
   case round =>
    obtain ⟨k,vq,a,l,cap,hk,rfl,hrows,hvi,hl,hrd,hrest,hbq⟩:=hrel
    have hsz:=hb1.size
    have hsq:=hbq.size
    by_cases hkr:k<nr
    ·have hkl:k<rows.length:=by rw [←HER.out];exact hkr
     have hkf:k<frm.length:=by rw [←HEF.out];omega
     obtain ⟨br,orr,ak,ck,rfl,hbr,hcr,hrk⟩:=((hr.below hb1 nl).below hbq nl).at k hkl
     obtain ⟨bb,ob,ab,cb,hgb,hbb,hcb,hrb⟩:=(hbases.below hbq nl).at k (by simpa [Cof.bases] using hkf)
     cases hgb
     rw [qk9 _ _ hkf] at hcb hrb
     rw [Nat.zero_add] at hcb
     have hbl:=qkU frm k
     rw [←HEF.out] at hbl
     obtain ⟨m,hm⟩:∃m,m=(rows.getD k []).length:=⟨_,rfl⟩
     have hm2:m≤500:=by rw [hm];exact hlen k
     obtain ⟨p,hp⟩:∃p,p=(Cof.basis frm k).length:=⟨_,rfl⟩
     rw [←hm] at hcr
     rw [←hp] at hcb hbl
     have hl2:l≤500:=by rw [hl];exact qiq frm rows x 500 hlen k
     have hca:wr.cell? ⟨w1.heap.size,i,none⟩=some (.slice a l cap):=by rw [hrows.own.cellAt i (by omega)];exact hvi
     have hfa:=hrows.own.frozenAt i
     have hg1:=(hrows.own.lt _ rfl).2
     have HM:=hid hm
     have HP:=hid hp
     have HL:=hid hl
     have HRW2:=hid hrows
     have HVI:=hid hvi
     have HRE:=hid hrest
     clear hm hp hl hrows hvi hrest hlen
     go_wp2_with fail
     go_region_with (first
      | (go_at_call 149;refine (at_n _ _ _ (Cof.basis frm k) x _ HP.out (by exact hrb.below ((Below.refl _ _).drew) nl) (by omega)).mono ?_;rintro e w3 ⟨rfl,hb3⟩;have z3:wr.heap.size≤w3.heap.size:=hb3.size;have c3:w3.cell? ⟨w1.heap.size,i,none⟩=some (.slice a l cap):=(hb3.cell (by exact hg1)).trans hca;have f3:w3.frozen? ⟨w1.heap.size,i,none⟩=false:=(hb3.frozen (by exact hg1)).trans hfa)
      | (go_at_call 148;refine (scaleB _ _ _ (rows.getD k []) _ _ HM.out (by exact (hrk.below ((Below.refl _ _).drew) nl).below hb3 nl) (by omega)).mono ?_;rintro e w4 ⟨g4,rfl,hrd4,hb4⟩;have z4:w3.heap.size≤w4.heap.size:=hb4.size;have c4:w4.cell? ⟨w1.heap.size,i,none⟩=some (.slice a l cap):=(hb4.cell (by show w1.heap.size<w3.heap.size;omega)).trans c3;have f4:w4.frozen? ⟨w1.heap.size,i,none⟩=false:=(hb4.frozen (by show w1.heap.size<w3.heap.size;omega)).trans f3)
      | (go_at_call 133;refine (sumB _ _ _ _ _ _ (Cof.carryTo frm rows x k) (Cof.scaleRow (rows.getD k []) (Cof.polyAt (Cof.basis frm k) x)) _ HL.out (by rw [Cof.length_scaleRow];exact HM.out) (by exact ((hrd.below ((Below.refl _ _).drew) nl).below hb3 nl).below hb4 nl) (by exact hrd4) (by omega) (by omega)).mono ?_;rintro e w5 ⟨g5,l5,rfl,hl5,hrd5,hb5⟩;have HL5:=hid hl5;clear hl5;have z5:w4.heap.size≤w5.heap.size:=hb5.size;have c5:w5.cell? ⟨w1.heap.size,i,none⟩=some (.slice a l cap):=(hb5.cell (by show w1.heap.size<w4.heap.size;omega)).trans c4;have f5:w5.frozen? ⟨w1.heap.size,i,none⟩=false:=(hb5.frozen (by show w1.heap.size<w4.heap.size;omega)).trans f4))
     all_goals
      have hbd:Below wr.heap.size wr w5:=(((Below.refl _ _).drew).trans (hb3.mono nl)).trans ((hb4.mono z3).trans (hb5.mono (by omega)))
      have hr5:=HRW2.out.kept hbd nl
      have HPUT:=hid (hr5.put (some ⟨g5,0,none⟩) l5 l5)
      have HRD:=hid (hrd5.setCell_other (qap hr5.own).1 hr5.shape (g:=w1.heap.size) (k:=i) (.slice (some ⟨g5,0,none⟩) l5 l5))
      have hvl:i<vq.length:=by have:=(qap hr5.own).2.2;omega
      clear hr5 hrd5
      go_wp2
      go_roundw
      case rel =>
       refine ⟨k+1,vq.set i (.slice (some ⟨g5,0,none⟩) l5 l5),some ⟨g5,0,none⟩,l5,l5,by omega,by go_num,HPUT.out,by simp [hvl],HL5.out,HRD.out,?_,(hbq.trans (hbd.mono hsq)).setCell nl _⟩
       intro j v hj hv
       rw [List.getElem?_set,if_neg (by omega)] at hv
       exact HRE.out j v hj hv
      case measure=>simp [intOf];omega
    ·have hkn:k=nr:=by omega
     have HKN:=hid hkn
     have HL:=hid hl
     have HONE:=hid (hrows.one hvi (by rw [hl,hkn,HER.out,HX.out]) (by rw [hkn,HER.out,HX.out] at hrd;exact hrd))
     have HRE:=hid hrest
     clear hkn hl hrows hvi hrest
     go_wp2
     go_roundw
     case rel=>exact ⟨i+1,vq,by omega,by go_num,HONE.out,fun j v hj=>HRE.out j v (by omega),hbq⟩
     case measure=>simp [intOf];omega
  ·have hkn:i=nt:=by omega
   subst hkn
   have HF:=hid hrows.full
   have HOW:=hid hrows.own
   clear hrows
   go_wp2
   go_ret
   refine ⟨_,rfl,?_,hb1.trans (hbel.mono hb1.size),_,qaf HOW.out hb1.size⟩
   have e:Cof.carry frm rows to=(List.range i).map (fun i=>Cof.carryTo frm rows (to.getD i 0) rows.length):=by
    rw [HET.out]
    apply List.ext_getElem
    ·simp [Cof.carry]
    ·intro j h1 h2
     simp [Cof.carry] at h1 ⊢
     simp [h1]
   rw [e]
   exact HF.out
end Go.Proofs.YtcegdgmbponapaaGreatDoor