/-
  The walks of package polynomial: At, withRoot, basis, Bases.
  The walks of package cutting, and of what it takes of slices: run, known, Grow, Concat.
  The walks of package cutting on a plan that fits: fits, checkPlan, known, layoutFor, tapeNeed, checkTape.
  Conversions between strings and bytes; rows that are dealt out one byte at a time.
-/
import Derived.Test.YtcegdgmbponapabGreatDoorPart00
import Derived.BigQuiet
import Derived.Lib.AppendZeros
import Derived.Deep.DrawnRows
import Derived.Deep.RegionHeld3
import Derived.Deep.AppendLies
namespace Go.Proofs.YtcegdgmbponapabGreatDoor
open Go.RowKit
theorem below_drewN {B:Nat} {w w':World} (h:Below B w w') (n:Nat):Below B w (w'.drewN n):=by
 induction n with
 | zero=>exact h
 | succ n ih=>exact ih.drew
theorem polyAt_drop (p:List UInt8) (x:UInt8) (k:Nat) (h:k<p.length):Cof.polyAt (p.drop k) x=Cof.mul (Cof.polyAt (p.drop (k+1)) x) x^^^p[k]:=by
 rw [List.drop_eq_getElem_cons h];rfl
set_option maxRecDepth 100000 in
set_option maxHeartbeats 400000 in
theorem at_any (a:Option Addr) (cap:Nat) (p:List UInt8) (x:UInt8) (w:World) (hr:Rd w a (bs p)) (hn:p.length≤1000) :
  Calls Tryz.prog 144 #[.slice a p.length cap,.int .u8 x.toNat] w fun e w'=>e=.returned (.int .u8 (Cof.polyAt p x).toNat)∧Below w.heap.size w w':=by
 go_enter Tryz.func144,Tryz.ntmps144
 go_wp2
 go_loopw [5,6] (fun v i wr=>∃k:Nat,k≤p.length∧i=.int .i64 ((k:Int)-1)∧v=.int .u8 (Cof.polyAt (p.drop k) x).toNat∧Below w.heap.size w wr)
  (fun _ i _=>(intOf i+1).toNat)
 case atStart =>
  refine ⟨p.length,Nat.le_refl _,rfl,?_,Below.refl _ _⟩
  simp [Cof.polyAt]
 case round =>
  obtain ⟨k,hk,rfl,rfl,hbel⟩:=hrel
  by_cases h0:k=0
  ·subst h0
   go_wp2
   go_ret
   exact ⟨by simp,hbel⟩
  ·obtain ⟨j,rfl⟩:∃j,k=j+1:=⟨k-1,by omega⟩
   obtain ⟨b,o,rfl,hbs,hcell⟩:=hr.pos (by rw [bs_length];omega)
   have hlt:j<p.length:=by omega
   have hc:wr.cell? ⟨b,o+j,none⟩=some (.int .u8 p[j].toNat):=by rw [hbel.cell (by exact hbs)];exact hcell j _ (by rw [bs_get _ _ hlt];simp [hlt])
   have HP:=hid (polyAt_drop p x j hlt)
   clear hcell h0
   generalize Cof.polyAt (p.drop (j+1)) x=q at HP ⊢
   go_wp2
   go_quiet ((go_at_call 172;exact Calls.quiet_of_same (times_any _ _ _)))
   go_wp2
   go_roundw
   case rel=>exact ⟨j,by omega,rfl,by rw [bits_xor,HP.out],below_drewN hbel _⟩
   case measure=>simp [intOf]
theorem buildOne (w:World) (v:Value) (e:TypeId) (B:Nat) (hB:B≤w.heap.size):(w.alloc (.cells #[v] e)).ownsRow B e 1 (.slice (some ⟨w.heap.size,0,none⟩) 1 1) 1 [v] :=
 World.ownsRow_lit w #[v] 1 hB (by unfold maxLen;omega) rfl
set_option maxRecDepth 100000 in
set_option maxHeartbeats 400000 in
theorem withRoot_any (a:Option Addr) (cap n0:Nat) (p:List UInt8) (x:UInt8) (w:World) (en:n0=p.length) (hr:Rd w a (bs p)) (hn:n0≤900) (h0:0<n0) :
  Calls Tryz.prog 184 #[.slice a n0 cap,.int .u8 x.toNat] w fun e w' =>
   ∃a' n cap',e=.returned (.slice a' n cap')∧n=(Cof.withRoot p x).length∧Rd w' a' (bs (Cof.withRoot p x))∧Below w.heap.size w w':=by
 subst en
 obtain ⟨i0,hi,hz0,hz1,hz2⟩:=info_parts Tryz.infoE
 obtain ⟨b,o,rfl,hbs,hcell⟩:=hr.pos (by rw [bs_length];omega)
 have hnews:∀(j:Nat) (u:Value),(bs p)[j]?=some u→(w.alloc (.cells #[.int .u8 0] 188)).cell? ((⟨b,o,none⟩:Addr).add j)=some u:=by
  intro j u hj
  rw [add_at,(((Below.refl w.heap.size w).alloc (Nat.le_refl _) (.cells #[.int .u8 0] 188)).cell (p:=⟨b,o+j,none⟩) (by exact hbs))]
  exact hcell j u hj
 have HN:=hid hnews
 clear hnews hcell
 have HO:=hid (buildOne w (.int .u8 0) 188 w.heap.size (Nat.le_refl _))
 have hlen:(bs p).length=p.length*1:=by rw [bs_length];omega
 have HL:=hid hlen
 clear hlen
 go_enter Tryz.func184,Tryz.ntmps184
 go_wp2_with (first | (at_builtin;refine wpList_append_own _ rfl (.tmp 6) (.tmp 7) 241 rfl w.heap.size 188 i0 (.int .u8 0) 1 1 Tryz.underlying241 hi hz0 hz1 hz2 rfl (by decide) _ _ _ rfl HO.out ⟨b,o,none⟩ p.length cap (bs p) rfl HL.out HN.out (bs_one _) (by unfold maxLen;omega) (by omega) (by simp) ?_;intro v1 w1 hown1 hgrow1 _;rw [Nat.add_comm 1 p.length] at hown1;obtain ⟨a1,cap1,rfl,hrd1⟩:=owns_any_rd hown1;have hb1:Below w.heap.size w w1:=((Below.refl w.heap.size w).alloc (Nat.le_refl _) (.cells #[.int .u8 0] 188)).grown hgrow1 (by simp) (fun k hk=>(HO.out.lt k hk).1);clear hown1 hgrow1)|fail)
 refine (scaleP _ _ _ p x _ rfl (hr.below hb1 (Nat.le_refl _)) (by omega)).mono ?_
 rintro e w2 ⟨g2,rfl,hrd2,hb2⟩
 go_wp2_with fail
 refine (sumP _ _ _ _ _ _ (0 :: p) (Cof.scaleRow p x) _ rfl (by rw [Cof.length_scaleRow]) (hrd1.below hb2 (Nat.le_refl _)) hrd2 (by simp;omega) (by omega)).mono ?_
 rintro e w3 ⟨g3,l3,rfl,hl3,hrd3,hb3⟩
 have HL3:=hid hl3
 clear hl3
 go_wp2
 go_ret
 exact ⟨_,_,_,rfl,HL3.out,hrd3,hb1.trans ((hb2.mono hb1.size).trans (hb3.mono (Nat.le_trans hb1.size hb2.size)))⟩
theorem at_n (a:Option Addr) (cap n:Nat) (p:List UInt8) (x:UInt8) (w:World) (en:n=p.length) (hr:Rd w a (bs p)) (hn:n≤1000) :
  Calls Tryz.prog 144 #[.slice a n cap,.int .u8 x.toNat] w fun e w'=>e=.returned (.int .u8 (Cof.polyAt p x).toNat)∧Below w.heap.size w w':=by
 subst en;exact at_any a cap p x w hr hn
theorem basisTo_bounds (xs:List UInt8) (one k:Nat):0<(Cof.basisTo xs one k).length∧(Cof.basisTo xs one k).length≤k+1:=by
 induction k with
 | zero=>simp [Cof.basisTo]
 | succ k ih =>
  simp only [Cof.basisTo]
  split
  ·omega
  ·rw [Cof.length_withRoot];omega
set_option maxRecDepth 100000 in
set_option maxHeartbeats 400000 in
theorem basis_any (a:Option Addr) (cap n:Nat) (xs:List UInt8) (one:Nat) (w:World) (en:n=xs.length) (hr:Rd w a (bs xs)) (hn:n≤800) (ho:one<n) :
  Calls Tryz.prog 171 #[.slice a n cap,.int .i64 one] w fun e w' =>
   ∃a' l cap',e=.returned (.slice a' l cap')∧l=(Cof.basis xs one).length∧Rd w' a' (bs (Cof.basis xs one))∧Below w.heap.size w w':=by
 subst en
 obtain ⟨b,o,rfl,hbs,hcell⟩:=hr.pos (by rw [bs_length];omega)
 have HC:=hid hcell
 clear hcell
 go_enter Tryz.func171,Tryz.ntmps171
 go_wp2_with fail
 go_loopw [5,11] (fun v i wr=>∃(k:Nat) (a':Option Addr) (l cap':Nat),k≤xs.length∧i=.int .i64 k∧v=.slice a' l cap'∧l=(Cof.basisTo xs one k).length∧Rd wr a' (bs (Cof.basisTo xs one k))∧Below w.heap.size w wr)
  (fun _ i _=>xs.length-(intOf i).toNat)
 case atStart =>
  refine ⟨0,_,1,1,Nat.zero_le _,rfl,rfl,rfl,owns_rd (buildOne w (.int .u8 1) 188 w.heap.size (Nat.le_refl _)),(Below.refl _ _).alloc (Nat.le_refl _) _⟩
 case round =>
  obtain ⟨k,a',l,cap',hk,rfl,rfl,hl,hrd,hbel⟩:=hrel
  have hbd:=basisTo_bounds xs one k
  rw [←hl] at hbd
  have HL:=hid hl
  clear hl
  by_cases hlt:k<xs.length
  ·have hc1:wr.cell? ⟨b,o+k,none⟩=some (.int .u8 xs[k].toNat):=by rw [hbel.cell (by exact hbs)];exact HC.out k _ (by rw [bs_get _ _ hlt];simp [hlt])
   by_cases hko:k=one
   ·have hko':((k:Int) != (one:Int))=false:=by simp [hko]
    have HK:=hid hko
    clear hko
    go_wp2_with fail
    go_roundw
    case rel=>exact ⟨k+1,a',l,cap',by omega,by go_num,rfl,by rw [HL.out];simp [Cof.basisTo,HK.out],by simpa [Cof.basisTo,HK.out] using hrd,hbel⟩
    case measure=>simp [intOf];omega
   ·have hko':((k:Int) != (one:Int))=true:=by rw [bne_iff_ne];omega
    have HK:=hid hko
    clear hko
    go_wp2_with (go_at_call 184;refine (withRoot_any _ _ _ (Cof.basisTo xs one k) xs[k] _ HL.out hrd (by omega) (by omega)).mono ?_;rintro e w1 ⟨a1,l1,cap1,rfl,hl1,hrd1,hb1⟩;have HL1:=hid hl1;clear hl1)
    have hbt:Cof.basisTo xs one (k+1)=Cof.withRoot (Cof.basisTo xs one k) xs[k]:=by simp [Cof.basisTo,HK.out,hlt]
    go_roundw
    case rel=>exact ⟨k+1,a1,l1,cap1,by omega,by go_num,rfl,by rw [hbt];exact HL1.out,by rw [hbt];exact hrd1,hbel.trans (hb1.mono hbel.size)⟩
    case measure=>simp [intOf];omega
  ·have hkn:k=xs.length:=by omega
   subst hkn
   have hc1:wr.cell? ⟨b,o+one,none⟩=some (.int .u8 xs[one].toNat):=by rw [hbel.cell (by exact hbs)];exact HC.out one _ (by rw [bs_get _ _ ho];simp [ho])
   have hbt:Cof.basis xs one=Cof.scaleRow (Cof.basisTo xs one xs.length) (Cof.inv (Cof.polyAt (Cof.basisTo xs one xs.length) xs[one])):=by simp [Cof.basis,ho]
   have HB:=hid hbt
   clear hbt
   go_wp2_with fail
   refine (at_n _ _ _ (Cof.basisTo xs one xs.length) xs[one] _ HL.out hrd (by omega)).mono ?_
   rintro e w1 ⟨rfl,hb1⟩
   go_wp2_with fail
   refine (inverse_any _ _).mono ?_
   rintro e w1' ⟨rfl,rfl⟩
   go_wp2_with fail
   refine (scaleP _ _ _ (Cof.basisTo xs one xs.length) _ _ HL.out (hrd.below hb1 (Nat.le_refl _)) (by omega)).mono ?_
   rintro e w2 ⟨g2,rfl,hrd2,hb2⟩
   go_wp2
   go_ret
   exact ⟨_,_,_,rfl,by rw [HB.out,Cof.length_scaleRow];exact HL.out,by rw [HB.out];exact hrd2,hbel.trans ((hb1.mono hbel.size).trans (hb2.mono (Nat.le_trans hbel.size hb1.size)))⟩
theorem Tryz.infoPoly:(Tryz.prog.info? 241).map (fun i=>(i.zero,i.size,i.bytes))=some (some (.slice none 0 0),1,24):=by kernel_rfl
set_option maxRecDepth 100000 in
set_option maxHeartbeats 400000 in
theorem bases_any (a:Option Addr) (cap n:Nat) (xs:List UInt8) (w:World) (en:n=xs.length) (hr:Rd w a (bs xs)) (hn:n≤800) :
  Calls Tryz.prog 142 #[.slice a n cap] w fun e w' =>
   ∃g,e=.returned (.slice (some ⟨g,0,none⟩) n n)∧RdRows w' (some ⟨g,0,none⟩) (Cof.bases xs)∧Below w.heap.size w w':=by
 subst en
 obtain ⟨i0,hi,hz0,hz1,hz2⟩:=info_parts Tryz.infoPoly
 go_enter Tryz.func142,Tryz.ntmps142
 go_wp2_with (first | (at_make;refine wpList_make_full _ rfl (.tmp 6) (.tmp 6) 238 rfl w.heap.size 241 i0 (.slice none 0 0) 1 Tryz.underlying238 hi hz0 hz1 .i64 .i64 _ _ xs.length rfl rfl rfl rfl (by rw [hz2];omega) (by unfold maxLen;omega) (Nat.le_refl _) ?_;intro w1 hown1 hgrow1;have hb1:=grown_below hgrow1;have HO1:=hid (made_rows (Cof.basis xs) hown1);clear hown1 hgrow1)|fail)
 go_loopw [10] (fun i wr=>∃(k:Nat) (vs:List Value),k≤xs.length∧i=.int .i64 k∧Rows wr w.heap.size w.heap.size xs.length k 241 (Cof.basis xs) vs∧Below w.heap.size w wr)
  (fun i _=>xs.length-(intOf i).toNat)
 case atStart=>exact ⟨0,_,Nat.zero_le _,rfl,HO1.out,hb1⟩
 case round =>
  obtain ⟨k,vs,hk,rfl,hrows,hbel⟩:=hrel
  by_cases hlt:k<xs.length
  ·have HR:=hid hrows
   clear hrows
   go_wp2_with fail
   refine (basis_any _ _ _ xs k _ rfl (hr.below hbel (Nat.le_refl _)) (by omega) (by omega)).mono ?_
   rintro e w2 ⟨a2,l2,cap2,rfl,hl2,hrd2,hb2⟩
   have hrows2:=HR.out.kept hb2 (Nat.le_refl _)
   have hfr:=hrows2.own.frozenAt k
   obtain ⟨a3,l3,c3,hc3⟩:=hrows2.cell k hlt
   have HN:=hid (hrows2.next (cap:=cap2) hl2 hrd2)
   clear hrows2 hl2 hrd2
   go_wp2
   go_roundw
   case rel=>exact ⟨k+1,_,by omega,by go_num,HN.out,(hbel.trans (hb2.mono hbel.size)).setCell (Nat.le_refl _) _⟩
   case measure=>simp [intOf];omega
  ·have hkn:k=xs.length:=by omega
   subst hkn
   have HF:=hid hrows.full
   clear hrows
   go_wp2
   go_ret
   exact ⟨_,rfl,HF.out,hbel⟩
theorem u8_of (n:Nat) (h:n<256):((UInt8.ofNat n).toNat:Int)=n:=by simp [Nat.mod_eq_of_lt h]
theorem run_full (start count:Nat):rowTo (fun i=>UInt8.ofNat (start+i)) (List.replicate count 0) count count=Cof.run start count:=by
 rw [rowTo_full];rfl
set_option maxRecDepth 100000 in
set_option maxHeartbeats 400000 in
theorem run_any (start count:Nat) (w:World) (hc:start+count≤256) :
  Calls Tryz.prog 121 #[.int .i64 start,.int .i64 count] w fun e w' =>
   ∃g,e=.returned (.slice (some ⟨g,0,none⟩) count count)∧Rd w' (some ⟨g,0,none⟩) (bs (Cof.run start count))∧Below w.heap.size w w'∧w.heap.size≤g:=by
 obtain ⟨i0,hi,hz0,hz1,hz2⟩:=info_parts Tryz.infoE
 go_enter Tryz.func121,Tryz.ntmps121
 go_wp2_with (first | (at_make;refine wpList_make_full _ rfl (.tmp 7) (.tmp 7) 179 rfl w.heap.size 188 i0 (.int .u8 0) 1 Tryz.underlying179 hi hz0 hz1 .i64 .i64 _ _ count rfl rfl rfl rfl (by rw [hz2];omega) (by unfold maxLen;omega) (Nat.le_refl _) ?_;intro w1 hown1 hgrow1;have hb1:=grown_below hgrow1;have HO1:=hid (made_row hown1);clear hown1 hgrow1)|fail)
 go_loopw [11] (fun i wr=>∃k:Nat,k≤count∧i=.int .i64 k∧wr.ownsRow w.heap.size 188 1 (.slice (some ⟨w.heap.size,0,none⟩) count count) count (bs (rowTo (fun i=>UInt8.ofNat (start+i)) (List.replicate count 0) count k))∧Below w.heap.size w wr)
  (fun i _=>count-(intOf i).toNat)
 case atStart =>
  refine ⟨0,Nat.zero_le _,rfl,?_,hb1⟩
  rw [rowTo_zero _ _ _ (by simp)]
  exact HO1.out
 case round =>
  obtain ⟨k,hk,rfl,hown,hbel⟩:=hrel
  by_cases hlt:k<count
  ·have hs:=hown.frozenAt k
   have hn:=row_next hown hlt
   have HST:=hid (stored_row (u:=UInt8.ofNat (start+k)) hown rfl)
   rw [u8_of _ (by omega)] at HST
   clear hown
   go_wp2
   go_roundw
   case rel=>exact ⟨k+1,by omega,by go_num,HST.out,hbel.setCell (Nat.le_refl _) _⟩
   case measure=>simp [intOf];omega
  ·have hkn:k=count:=by omega
   subst hkn
   rw [run_full] at hown
   have HO:=hid (owns_rd hown)
   clear hown
   go_wp2
   go_ret
   exact ⟨_,rfl,HO.out,hbel,Nat.le_refl _⟩
theorem Tryz.infoRow:(Tryz.prog.info? 44).map (fun i=>(i.zero,i.size,i.bytes))=some (some (.slice none 0 0),1,24):=by kernel_rfl
theorem grown_room (w:World) (e:TypeId) (z:Value) (n cap:Nat) (hz:z.cells.size=1) (hc:n≤cap) (hm:cap≤maxLen) :
  (w.drew.alloc (.cells (Builtin.zeroCells z.cells n++Builtin.zeroCells z.cells (cap-n)) e)).ownsRow w.heap.size e 1 (.slice (some ⟨w.heap.size,0,none⟩) 0 cap) 0 []:=by
 have:=World.ownsRow_made (base:=w.heap.size) (e:=e) (size:=1) w.drew (Builtin.zeroCells z.cells n++Builtin.zeroCells z.cells (cap-n)) cap (Nat.le_refl _) hm (by simp [size_zeroCells,hz];omega)
 exact this
set_option maxRecDepth 100000 in
set_option maxHeartbeats 400000 in
theorem growE (n:Nat) (w:World) (hn:n≤1000) :
  Calls Tryz.prog 157 #[.slice none 0 0,.int .i64 n] w fun e w'=>∃v,e=.returned v∧w'.ownsRow w.heap.size 188 1 v 0 []∧Below w.heap.size w w':=by
 obtain ⟨i0,hi,hz0,hz1,hz2⟩:=info_parts Tryz.infoE
 by_cases h0:n=0
 ·subst h0
  go_enter Tryz.func157,Tryz.ntmps157
  go_wp2
  go_ret
  exact ⟨_,rfl,World.ownsRow_nil _ _ _ _,Below.refl _ _⟩
 ·have hrun:∀ty,(Builtin.append_ #[179,3] ty #[.slice none 0 0,.int .i64 n]).run Tryz.prog w=_:=fun ty=>Lib.run_append_nil_zeros w 179 3 ty 188 i0 (Value.int .u8 0) .i64 .i64 Tryz.underlying179 Tryz.underlying3 hi hz0 n (by omega) (by omega) (by omega) (by rw [hz2];omega)
  have hg:=grownCap_ge w n 0 188
  have hm:=grownCap_le_maxLen w n 0 188 (by unfold maxLen;omega)
  have HO:=hid (grown_room w 188 (Value.int .u8 0) n (grownCap w n 0 188) rfl hg hm)
  have HB:=hid (((Below.refl w.heap.size w).drew).alloc (Nat.le_refl _) (.cells (Builtin.zeroCells (Value.int .u8 0).cells n++Builtin.zeroCells (Value.int .u8 0).cells (grownCap w n 0 188-n)) 188))
  generalize grownCap w n 0 188=cap at *
  generalize (w.drew.alloc (.cells (Builtin.zeroCells (Value.int .u8 0).cells n++Builtin.zeroCells (Value.int .u8 0).cells (cap-n)) 188))=w1 at *
  have HR:=hid hrun
  clear hrun
  unfold maxLen at hm
  go_enter Tryz.func157,Tryz.ntmps157
  go_wp2_with (first | (at_builtin;refine Lib.wpList_append_run _ rfl (.tmp 20) (.tmp 21) _ _ rfl _ _ rfl rfl _ _ (HR.out _) ?_)|fail)
  go_ret
  exact ⟨_,rfl,HO.out,HB.out⟩
set_option maxRecDepth 100000 in
set_option maxHeartbeats 400000 in
theorem growR (n:Nat) (w:World) (hn:n≤1000) :
  Calls Tryz.prog 158 #[.slice none 0 0,.int .i64 n] w fun e w'=>∃v,e=.returned v∧w'.ownsRow w.heap.size 44 1 v 0 []∧Below w.heap.size w w':=by
 obtain ⟨i0,hi,hz0,hz1,hz2⟩:=info_parts Tryz.infoRow
 by_cases h0:n=0
 ·subst h0
  go_enter Tryz.func158,Tryz.ntmps158
  go_wp2
  go_ret
  exact ⟨_,rfl,World.ownsRow_nil _ _ _ _,Below.refl _ _⟩
 ·have hrun:∀ty,(Builtin.append_ #[73,3] ty #[.slice none 0 0,.int .i64 n]).run Tryz.prog w=_:=fun ty=>Lib.run_append_nil_zeros w 73 3 ty 44 i0 (Value.slice none 0 0) .i64 .i64 Tryz.underlying73 Tryz.underlying3 hi hz0 n (by omega) (by omega) (by omega) (by rw [hz2];omega)
  have hg:=grownCap_ge w n 0 44
  have hm:=grownCap_le_maxLen w n 0 44 (by unfold maxLen;omega)
  have HO:=hid (grown_room w 44 (Value.slice none 0 0) n (grownCap w n 0 44) rfl hg hm)
  have HB:=hid (((Below.refl w.heap.size w).drew).alloc (Nat.le_refl _) (.cells (Builtin.zeroCells (Value.slice none 0 0).cells n++Builtin.zeroCells (Value.slice none 0 0).cells (grownCap w n 0 44-n)) 44))
  generalize grownCap w n 0 44=cap at *
  generalize (w.drew.alloc (.cells (Builtin.zeroCells (Value.slice none 0 0).cells n++Builtin.zeroCells (Value.slice none 0 0).cells (cap-n)) 44))=w1 at *
  have HR:=hid hrun
  clear hrun
  unfold maxLen at hm
  go_enter Tryz.func158,Tryz.ntmps158
  go_wp2_with (first | (at_builtin;refine Lib.wpList_append_run _ rfl (.tmp 20) (.tmp 21) _ _ rfl _ _ rfl rfl _ _ (HR.out _) ?_)|fail)
  go_ret
  exact ⟨_,rfl,HO.out,HB.out⟩
set_option maxRecDepth 100000 in
set_option maxHeartbeats 1000000 in
theorem concatE (b n1 c1 n2 c2:Nat) (a1 a2:Option Addr) (X1 X2:List Value) (w:World) (hbs:b<w.heap.size)
  (k0:w.cell? ⟨b,0,none⟩=some (.slice a1 n1 c1)) (k1:w.cell? ⟨b,1,none⟩=some (.slice a2 n2 c2))
  (r1:Rd w a1 X1) (r2:Rd w a2 X2) (l1:X1.length=n1) (l2:X2.length=n2) (z1:a1=none→c1=0) (z2:a2=none→c2=0)
  (o1:∀u∈X1,u.oneCell'=true) (o2:∀u∈X2,u.oneCell'=true) (hn1:n1≤400) (hn2:n2≤400) :
  Calls Tryz.prog 118 #[.slice (some ⟨b,0,none⟩) 2 2] w fun e w'=>∃v,e=.returned v∧w'.ownsRow w.heap.size 188 1 v (n1+n2) (X1++X2)∧Below w.heap.size w w':=by
 obtain ⟨i0,hi,hz0,hz1,hz2⟩:=info_parts Tryz.infoE
 have L1:=hid l1
 have L2:=hid l2
 clear l1 l2
 go_enter Tryz.func118,Tryz.ntmps118
 go_wp2
 refine wp_loop_rounds 3 ?_
 rw [rounds_succ]
 go_wp2
 rw [rounds_succ]
 go_wp2
 rw [rounds_succ]
 go_wp2_with fail
 refine (growE (n1+n2) _ (by omega)).mono ?_
 rintro e w1 ⟨v1,rfl,hown1,hb1⟩
 have HO1:=hid hown1
 clear hown1
 have j0:w1.cell? ⟨b,0,none⟩=some (.slice a1 n1 c1):=(hb1.cell (by exact hbs)).trans k0
 go_wp2
 refine wp_loop_rounds 3 ?_
 rw [rounds_succ]
 go_wp2_with (first | (at_builtin;refine append_src _ rfl (.tmp 31) (.tmp 32) 179 rfl w.heap.size 188 i0 (Value.int .u8 0) 1 Tryz.underlying179 hi hz0 hz1 hz2 rfl _ 0 [] rfl HO1.out a1 n1 c1 X1 rfl L1.out (r1.below hb1 (Nat.le_refl _)) z1 o1 (by omega) (by omega) hb1.size ?_;intro v2 w2 hown2 hgrow2;rw [Nat.zero_add,List.nil_append] at hown2;have hb2:Below w.heap.size w w2:=hb1.grown hgrow2 hb1.size (fun k hk=>(HO1.out.lt k hk).1);have HO2:=hid hown2;clear hown2 hgrow2;have j1:w2.cell? ⟨b,1,none⟩=some (.slice a2 n2 c2):=(hb2.cell (by exact hbs)).trans k1)|fail)
 rw [rounds_succ]
 go_wp2_with (first | (at_builtin;refine append_src _ rfl (.tmp 31) (.tmp 32) 179 rfl w.heap.size 188 i0 (Value.int .u8 0) 1 Tryz.underlying179 hi hz0 hz1 hz2 rfl _ n1 X1 rfl HO2.out a2 n2 c2 X2 rfl L2.out (r2.below hb2 (Nat.le_refl _)) z2 o2 (by omega) (by omega) hb2.size ?_;intro v3 w3 hown3 hgrow3;have hb3:Below w.heap.size w w3:=hb2.grown hgrow3 hb2.size (fun k hk=>(HO2.out.lt k hk).1);have HO3:=hid hown3;clear hown3 hgrow3)|fail)
 rw [rounds_succ]
 go_wp2
 go_ret
 exact ⟨_,rfl,HO3.out,hb3⟩
set_option maxRecDepth 100000 in
set_option maxHeartbeats 1000000 in
theorem concatR (b n1 c1 n2 c2:Nat) (a1 a2:Option Addr) (X1 X2:List Value) (w:World) (hbs:b<w.heap.size)
  (k0:w.cell? ⟨b,0,none⟩=some (.slice a1 n1 c1)) (k1:w.cell? ⟨b,1,none⟩=some (.slice a2 n2 c2))
  (r1:Rd w a1 X1) (r2:Rd w a2 X2) (l1:X1.length=n1) (l2:X2.length=n2) (z1:a1=none→c1=0) (z2:a2=none→c2=0)
  (o1:∀u∈X1,u.oneCell'=true) (o2:∀u∈X2,u.oneCell'=true) (hn1:n1≤400) (hn2:n2≤400) :
  Calls Tryz.prog 119 #[.slice (some ⟨b,0,none⟩) 2 2] w fun e w'=>∃v,e=.returned v∧w'.ownsRow w.heap.size 44 1 v (n1+n2) (X1++X2)∧Below w.heap.size w w':=by
 obtain ⟨i0,hi,hz0,hz1,hz2⟩:=info_parts Tryz.infoRow
 have L1:=hid l1
 have L2:=hid l2
 clear l1 l2
 go_enter Tryz.func119,Tryz.ntmps119
 go_wp2
 refine wp_loop_rounds 3 ?_
 rw [rounds_succ]
 go_wp2
 rw [rounds_succ]
 go_wp2
 rw [rounds_succ]
 go_wp2_with fail
 refine (growR (n1+n2) _ (by omega)).mono ?_
 rintro e w1 ⟨v1,rfl,hown1,hb1⟩
 have HO1:=hid hown1
 clear hown1
 have j0:w1.cell? ⟨b,0,none⟩=some (.slice a1 n1 c1):=(hb1.cell (by exact hbs)).trans k0
 go_wp2
 refine wp_loop_rounds 3 ?_
 rw [rounds_succ]
 go_wp2_with (first | (at_builtin;refine append_src _ rfl (.tmp 31) (.tmp 32) 73 rfl w.heap.size 44 i0 (Value.slice none 0 0) 24 Tryz.underlying73 hi hz0 hz1 hz2 rfl _ 0 [] rfl HO1.out a1 n1 c1 X1 rfl L1.out (r1.below hb1 (Nat.le_refl _)) z1 o1 (by omega) (by omega) hb1.size ?_;intro v2 w2 hown2 hgrow2;rw [Nat.zero_add,List.nil_append] at hown2;have hb2:Below w.heap.size w w2:=hb1.grown hgrow2 hb1.size (fun k hk=>(HO1.out.lt k hk).1);have HO2:=hid hown2;clear hown2 hgrow2;have j1:w2.cell? ⟨b,1,none⟩=some (.slice a2 n2 c2):=(hb2.cell (by exact hbs)).trans k1)|fail)
 rw [rounds_succ]
 go_wp2_with (first | (at_builtin;refine append_src _ rfl (.tmp 31) (.tmp 32) 73 rfl w.heap.size 44 i0 (Value.slice none 0 0) 24 Tryz.underlying73 hi hz0 hz1 hz2 rfl _ n1 X1 rfl HO2.out a2 n2 c2 X2 rfl L2.out (r2.below hb2 (Nat.le_refl _)) z2 o2 (by omega) (by omega) hb2.size ?_;intro v3 w3 hown3 hgrow3;have hb3:Below w.heap.size w w3:=hb2.grown hgrow3 hb2.size (fun k hk=>(HO2.out.lt k hk).1);have HO3:=hid hown3;clear hown3 hgrow3)|fail)
 rw [rounds_succ]
 go_wp2
 go_ret
 exact ⟨_,rfl,HO3.out,hb3⟩
structure IsPlan (mode t l n:Nat):Prop where
 n1:1≤n
 n8:n≤8
 t1:1≤t
 tn:t≤n
 l1:1≤l
 md:mode=0∧t+l≤n+1∨mode=1∧l=1
set_option maxRecDepth 100000 in
set_option maxHeartbeats 400000 in
theorem fits_ok (mode t l n:Nat) (w:World) (h:IsPlan mode t l n) :
  Calls Tryz.prog 170 #[.agg #[.int .i64 mode,.int .i64 t,.int .i64 l],.int .i64 n] w fun e w'=>e=.returned (.bool true)∧Below w.heap.size w w':=by
 obtain ⟨h1,h2,h3,h4,h5,h6⟩:=h
 rcases h6 with ⟨rfl,h6⟩|⟨rfl,rfl⟩
 ·go_enter Tryz.func170,Tryz.ntmps170
  go_wp2
  go_ret
  refine ⟨?_,(Below.refl _ _).alloc (Nat.le_refl _) _⟩
  simp
  omega
 ·go_enter Tryz.func170,Tryz.ntmps170
  go_wp2
  go_ret
  exact ⟨rfl,(Below.refl _ _).alloc (Nat.le_refl _) _⟩
set_option maxRecDepth 100000 in
set_option maxHeartbeats 400000 in
theorem checkPlan_ok (mode t l n:Nat) (w:World) (h:IsPlan mode t l n) :
  Calls Tryz.prog 138 #[.agg #[.int .i64 mode,.int .i64 t,.int .i64 l],.int .i64 n] w fun e w'=>e=.returned .nilIface∧Below w.heap.size w w':=by
 have h1:=h.n1
 have h2:=h.n8
 go_enter Tryz.func138,Tryz.ntmps138
 go_wp2_with (go_at_call 170;refine (fits_ok mode t l n _ h).mono ?_;rintro e w1 ⟨rfl,hb1⟩)
 go_ret
 exact ⟨rfl,((Below.refl _ _).alloc (Nat.le_refl _) _).trans (hb1.mono (by simp))⟩
attribute [local go_sem ↓] Go.wp_at_zero Go.wp_at_succ
set_option maxRecDepth 100000 in
set_option maxHeartbeats 400000 in
theorem known_disperse (t l:Nat) (w:World) (ht:t≤8) :
  Calls Tryz.prog 139 #[.agg #[.int .i64 1,.int .i64 t,.int .i64 l]] w fun e w' =>
   ∃g,e=.returned (.tuple #[.slice (some ⟨g,0,none⟩) t t,.slice none 0 0])∧Rd w' (some ⟨g,0,none⟩) (bs (Cof.run 1 t))∧Below w.heap.size w w'∧w.heap.size≤g:=by
 go_enter Tryz.func139,Tryz.ntmps139
 go_wp2_with (go_at_call 121;refine (run_any 1 t _ (by omega)).mono ?_;rintro e w1 ⟨g,rfl,hrd,hb1,hg1⟩)
 go_ret2
 exact ⟨_,rfl,hrd,((Below.refl _ _).alloc (Nat.le_refl _) _).trans (hb1.mono (by simp)),by simp at hg1;omega⟩
set_option maxRecDepth 100000 in
set_option maxHeartbeats 1000000 in
theorem known_share (u l:Nat) (w:World) (ht:u≤7) (hl:l≤8) :
  Calls Tryz.prog 139 #[.agg #[.int .i64 0,.int .i64 ((u:Int)+1),.int .i64 l]] w fun e w' =>
   ∃g1 g2,e=.returned (.tuple #[.slice (some ⟨g1,0,none⟩) l l,.slice (some ⟨g2,0,none⟩) u u])∧Rd w' (some ⟨g1,0,none⟩) (bs (Cof.run 128 l))∧Rd w' (some ⟨g2,0,none⟩) (bs (Cof.run 192 u))∧Below w.heap.size w w'∧w.heap.size≤g1∧w.heap.size≤g2:=by
 have hw:IntKind.i64.wrap (u:Int)=u:=by rw [IntKind.wrap_i64];omega
 go_enter Tryz.func139,Tryz.ntmps139
 go_wp2
 go_region_held3 (fun w'=>w'.cell? ⟨w.heap.size,1,none⟩=some (.int .i64 ((u:Int)+1))∧w'.cell? ⟨w.heap.size,2,none⟩=some (.int .i64 l)) (first | exact ⟨s3,s4⟩|exact ⟨s1,s2⟩|go_keep)
  (first
   | (go_at_call_of 121 (Value.int .i64 128);refine (run_any 128 l _ (by omega)).mono ?_;rintro e w1 ⟨g1,rfl,hrd1,hb1,hg1⟩;have s1:w1.cell? ⟨w.heap.size,1,none⟩=some (.int .i64 ((u:Int)+1)):=(hb1.cell (by simp)).trans (by simp);have s2:w1.cell? ⟨w.heap.size,2,none⟩=some (.int .i64 l):=(hb1.cell (by simp)).trans (by simp))
   | (go_at_call_of 121 (Value.int .i64 192);refine (run_any 192 u _ (by omega)).mono ?_;rintro e w2 ⟨g2,rfl,hrd2,hb2,hg2⟩;have s3:w2.cell? ⟨w.heap.size,1,none⟩=some (.int .i64 ((u:Int)+1)):=(hb2.cell (by have:=hb1.size;simp at this;show w.heap.size<w1.heap.size;omega)).trans s1;have s4:w2.cell? ⟨w.heap.size,2,none⟩=some (.int .i64 l):=(hb2.cell (by have:=hb1.size;simp at this;show w.heap.size<w1.heap.size;omega)).trans s2))
 go_wp2
 go_ret2
 have hz:=hb1.size
 simp at hz hg1
 exact ⟨g1,g2,rfl,hrd1.below hb2 (Nat.le_refl _),hrd2,((((Below.refl _ _).alloc (Nat.le_refl _) _).drew).trans (hb1.mono (by simp))).trans (hb2.mono (by omega)),by omega,by omega⟩
structure Lay (w:World) (mode t l base:Nat) (ag:Option Addr) (cg:Nat) (at':Option Addr) (ct:Nat):Prop where
 g:Rd w ag (bs (Cof.groupAt mode t l))
 t:Rd w at' (bs (Cof.tapeAt mode t))
 gz:ag=none→cg=0
 tz:at'=none→ct=0
 gf:∀ad,ag=some ad→base≤ad.block
 tf:∀ad,at'=some ad→base≤ad.block
theorem Lay.below {B:Nat} {w w':World} {mode t l base:Nat} {ag:Option Addr} {cg:Nat} {at':Option Addr} {ct:Nat} (h:Lay w mode t l base ag cg at' ct) (hb:Below B w w') (hB:w.heap.size≤B):Lay w' mode t l base ag cg at' ct :=
 ⟨h.g.below hb hB,h.t.below hb hB,h.gz,h.tz,h.gf,h.tf⟩
theorem Lay.setCell {w:World} {mode t l base g k:Nat} {ag:Option Addr} {cg:Nat} {at':Option Addr} {ct:Nat} (h:Lay w mode t l base ag cg at' ct) (hg:g<base) (u:Value):Lay (w.setCell ⟨g,k,none⟩ u) mode t l base ag cg at' ct :=
 ⟨h.g.setCell_far (fun ad e=>by have:=h.gf ad e;omega) u,h.t.setCell_far (fun ad e=>by have:=h.tf ad e;omega) u,h.gz,h.tz,h.gf,h.tf⟩
theorem Lay.mono {w:World} {mode t l base base':Nat} {ag:Option Addr} {cg:Nat} {at':Option Addr} {ct:Nat} (h:Lay w mode t l base ag cg at' ct) (hb:base'≤base):Lay w mode t l base' ag cg at' ct :=
 ⟨h.g,h.t,h.gz,h.tz,fun ad e=>Nat.le_trans hb (h.gf ad e),fun ad e=>Nat.le_trans hb (h.tf ad e)⟩
set_option maxRecDepth 100000 in
set_option maxHeartbeats 1000000 in
theorem known_ok (mode t l n:Nat) (w:World) (h:IsPlan mode t l n) :
  Calls Tryz.prog 139 #[.agg #[.int .i64 mode,.int .i64 t,.int .i64 l]] w fun e w' =>
   ∃ag cg at' ct,e=.returned (.tuple #[.slice ag (Cof.gsize mode t l) cg,.slice at' (Cof.tsize mode t) ct])∧Lay w' mode t l w.heap.size ag cg at' ct∧Below w.heap.size w w':=by
 obtain ⟨h1,h2,h3,h4,h5,h6⟩:=h
 rcases h6 with ⟨rfl,h6⟩|⟨rfl,rfl⟩
 ·obtain ⟨u,rfl⟩:∃u,t=u+1:=⟨t-1,by omega⟩
  refine (known_share u l w (by omega) (by omega)).mono ?_
  rintro e w' ⟨g1,g2,rfl,r1,r2,hb,f1,f2⟩
  exact ⟨some ⟨g1,0,none⟩,l,some ⟨g2,0,none⟩,u,rfl,⟨r1,r2,(fun h=>by cases h),(fun h=>by cases h),(fun ad h=>by cases h;exact f1),(fun ad h=>by cases h;exact f2)⟩,hb⟩
 ·refine (known_disperse t 1 w (by omega)).mono ?_
  rintro e w' ⟨g1,rfl,r1,hb,f1⟩
  exact ⟨some ⟨g1,0,none⟩,t,none,0,rfl,⟨r1,Rd.nil _ _,(fun h=>by cases h),(fun _=>rfl),(fun ad h=>by cases h;exact f1),(fun ad h=>by cases h)⟩,hb⟩
set_option maxRecDepth 100000 in
set_option maxHeartbeats 1000000 in
theorem layoutFor_ok (mode t l n size:Nat) (w:World) (h:IsPlan mode t l n) (hs:size≤60) :
  Calls Tryz.prog 99 #[.agg #[.int .i64 mode,.int .i64 t,.int .i64 l],.int .i64 n,.int .i64 size] w fun e w' =>
   ∃ag cg at' ct,e=.returned (.tuple #[.agg #[.slice ag (Cof.gsize mode t l) cg,.slice at' (Cof.tsize mode t) ct,.int .i64 (Cof.ngroups mode t l size)],.nilIface])∧Lay w' mode t l w.heap.size ag cg at' ct∧Below w.heap.size w w':=by
 have hg1:1≤Cof.gsize mode t l:=by have:=h.t1;have:=h.l1;unfold Cof.gsize;split<;>omega
 have hg2:Cof.gsize mode t l≤8:=by obtain ⟨_,_,_,_,_,h6⟩:=h;unfold Cof.gsize;split<;>omega
 have HN:Hid (Cof.ngroups mode t l size=(size+Cof.gsize mode t l-1) / Cof.gsize mode t l):=rfl
 go_enter Tryz.func99,Tryz.ntmps99
 go_wp2_with fail
 refine (checkPlan_ok mode t l n _ h).mono ?_
 rintro e w1 ⟨rfl,hb1⟩
 obtain ⟨hc1,hf1⟩:=bcell hb1
 go_wp2_with fail
 refine (known_ok mode t l n _ h).mono ?_
 rintro e w2 ⟨ag,cg,at',ct,rfl,hlay,hb2⟩
 obtain ⟨hc2,hf2⟩:=bcell hb2
 have hz1:w.heap.size+1<w1.heap.size:=by have:=hb1.size;simp at this;omega
 generalize hgs:Cof.gsize mode t l=gs at *
 generalize hts:Cof.tsize mode t=ts at *
 have HG:=hid hgs
 have HT:=hid hts
 clear hgs hts
 go_wp2
 have hd:((size:Int)+gs-1) / gs=(Cof.ngroups mode t l size:Int):=by
  rw [HN.out];have:((size+gs-1:Nat):Int)=(size:Int)+gs-1:=by omega
  rw [Int.natCast_ediv,this]
 rw [hd]
 refine bodyPost_ret (v:=.tuple #[.agg #[.slice ag gs cg,.slice at' ts ct,.int .i64 (Cof.ngroups mode t l size)],.nilIface]) ?_ rfl ⟨ag,cg,at',ct,by rw [HG.out,HT.out],?_,?_⟩
 ·simp [results,Tryz.results99,go_sem,hc2,hc1,hz1]
 ·exact (((hlay.setCell (g:=w.heap.size+1) (k:=0) hz1 _).setCell (g:=w.heap.size+1) hz1 _).setCell (g:=w.heap.size+1) hz1 _).mono (by omega)
 ·exact ((((((Below.refl _ _).alloc (Nat.le_refl _) _).alloc (by simp) _).trans (hb1.mono (by simp;omega))).trans (hb2.mono (by omega))).setCell (by simp) _ |>.setCell (by simp) _).setCell (by simp) _
set_option maxRecDepth 100000 in
set_option maxHeartbeats 400000 in
theorem tapeNeed_any (ag at':Option Addr) (gs cg ts ct ng:Nat) (w:World) (h1:ts≤8) (h2:ng≤60) :
  Calls Tryz.prog 117 #[.agg #[.slice ag gs cg,.slice at' ts ct,.int .i64 ng]] w fun e w'=>e=.returned (.int .i64 ((ts*ng:Nat):Int))∧Below w.heap.size w w':=by
 have hm:ts*ng≤8*60:=Nat.mul_le_mul h1 h2
 go_enter Tryz.func117,Tryz.ntmps117
 go_wp2
 go_ret
 exact ⟨ret_int (by simp),(Below.refl _ _).alloc (Nat.le_refl _) _⟩
theorem tapeNeed_n (ag at':Option Addr) (gs cg ts ct ng need:Nat) (w:World) (h1:ts≤8) (h2:ng≤60) (hq:ts*ng=need) :
  Calls Tryz.prog 117 #[.agg #[.slice ag gs cg,.slice at' ts ct,.int .i64 ng]] w fun e w'=>e=.returned (.int .i64 (need:Int))∧Below w.heap.size w w':=by
 subst hq;exact tapeNeed_any ag at' gs cg ts ct ng w h1 h2
set_option maxRecDepth 100000 in
set_option maxHeartbeats 400000 in
theorem checkTape_ok (s:ByteArray) (need:Nat) (w:World) (h:need≤s.size) :
  Calls Tryz.prog 116 #[.string s,.int .i64 need] w fun e w'=>e=.returned .nilIface∧w'=w:=by
 go_enter Tryz.func116,Tryz.ntmps116
 go_wp2
 go_ret
 exact ⟨rfl,rfl⟩
theorem conv_bytes (w:World) (s:ByteArray):∃cap w',(convert 9 44 (.string s)).run Tryz.prog w=.ok (.slice (some ⟨w.heap.size,0,none⟩) s.size cap) w'∧Rd w' (some ⟨w.heap.size,0,none⟩) (bs s.data.toList)∧Below w.heap.size w w'∧w'.heap.size=w.heap.size+1:=by
 refine ⟨_,_,run_bytes_of_string w 9 44 5 s Tryz.underlying9 Tryz.underlying44 Tryz.underlying5,?_,?_,?_⟩
 ·intro k v hk
  have hkl:k<s.data.size:=by
   rcases Nat.lt_or_ge k s.data.size with h | h
   ·exact h
   ·rw [List.getElem?_eq_none (by simpa [bs] using h)] at hk;simp at hk
  refine ⟨w.heap.size,0,rfl,by simp,?_⟩
  rw [Nat.zero_add]
  have:=World.cell?_alloc_mark w.drew (bytesRow s (grownCap w s.size 0 5)) 5 ((bytesRow s (grownCap w s.size 0 5)).size,(bytesRow s (grownCap w s.size 0 5)).size+1) k
  rw [show w.drew.heap.size=w.heap.size from rfl,bytesRow_at s _ k hkl] at this
  rw [this]
  simp only [bs,List.getElem?_map,Array.getElem?_toList,Array.getElem?_eq_getElem hkl,Option.map_some] at hk
  exact hk
 ·exact ((Below.refl _ _).drew).alloc (Nat.le_refl _) _
 ·simp
theorem conv_string (w:World) (a:Option Addr) (cap n:Nat) (xs:List UInt8) (en:n=xs.length) (hr:Rd w a (bs xs)):(convert 44 9 (.slice a n cap)).run Tryz.prog w=.ok (.string ⟨xs.toArray⟩) w:=by
 subst en
 cases a with
 | none =>
  have:xs=[]:=by
   cases xs with
   | nil=>rfl
   | cons x r=>obtain ⟨b,o,h,_⟩:=hr 0 _ rfl;cases h
  subst this
  rw [run_convert_bytes_string w 44 9 5 none _ cap Tryz.underlying44 Tryz.underlying5 Tryz.underlying9]
  rfl
 | some ad =>
  refine run_convert_bytes_back w 44 9 5 ad cap xs Tryz.underlying44 Tryz.underlying5 Tryz.underlying9 ?_
  intro j hj
  obtain ⟨b,o,h1,h2,h3⟩:=hr j _ (bs_get xs j hj)
  cases h1
  rw [add_at,h3]
  simp [hj]
theorem owns_below {B:Nat} {w W:World} {base n:Nat} {e:TypeId} {v:Value} {xs:List Value} (h:w.ownsRow base e 1 v n xs) (hb:Below B w W) (hB:w.heap.size≤B):W.ownsRow base e 1 v n xs:=by
 obtain ⟨h1,h2⟩:=h
 refine ⟨h1,?_⟩
 rcases h2 with h2 | ⟨g,cap,cur,e1,e2,e3,e4⟩
 ·exact .inl h2
 ·have hg:g<w.heap.size:=by
   rcases Nat.lt_or_ge g w.heap.size with h | h
   ·exact h
   ·rw [Array.getElem?_eq_none h] at e3;cases e3
  exact .inr ⟨g,cap,cur,e1,e2,by rw [hb.block g (by omega)];exact e3,e4⟩
structure Deal (w:World) (base g0 width B2:Nat) (rows:Nat→List UInt8) (vs:List Value):Prop where
 own:w.ownsRow base 44 1 (.slice (some ⟨g0,0,none⟩) width width) width vs
 row:∀(j:Nat) (v:Value),vs[j]?=some v→w.ownsRow B2 5 1 v (rows j).length (bs (rows j))
 apart:∀(i j:Nat) (vi vj:Value),i≠j→vs[i]?=some vi→vs[j]?=some vj→vi.ownBlock=none∨vi.ownBlock≠vj.ownBlock
 lt:g0<B2
 le:B2≤w.heap.size
theorem Deal.step {w W w1:World} {base g0 width B2 r g cap:Nat} {rows rows':Nat→List UInt8} {vs:List Value} {v:Value} {x:UInt8} (h:Deal w base g0 width B2 rows vs) (hr:vs[r]?=some v)
  (hbW:Below w.heap.size w W) (hown:w1.ownsRow B2 5 1 (.slice (some ⟨g,0,none⟩) ((rows r).length+1) cap) ((rows r).length+1) (bs (rows r)++[.int .u8 x.toNat]))
  (hgrow:W.grownBy w1 v.ownBlock) (hat:v.ownBlock=some g∨g=W.heap.size) (e1:rows' r=rows r++[x]) (e2:∀j,j≠r→rows' j=rows j) :
  Deal (w1.setCell ⟨g0,r,none⟩ (.slice (some ⟨g,0,none⟩) ((rows r).length+1) cap)) base g0 width B2 rows' (vs.set r (.slice (some ⟨g,0,none⟩) ((rows r).length+1) cap)):=by
 have hrl:r<vs.length:=(List.getElem?_eq_some_iff.1 hr).1
 have hv:=h.row r v hr
 have hg0:g0<w.heap.size:=(h.own.lt g0 rfl).2
 have hvb:∀k,v.ownBlock=some k→B2≤k:=fun k hk=>(hv.lt k hk).1
 have hlt:=h.lt
 refine ⟨?_,?_,?_,h.lt,?_⟩
 ·have hk:w1.ownsRow base 44 1 (.slice (some ⟨g0,0,none⟩) width width) width vs:=by
   refine (owns_below h.own hbW (Nat.le_refl _)).kept hgrow (.inr ?_)
   intro hc
   have:=hvb g0 (by rw [←hc];rfl)
   omega
  exact (hk.stored r _).1
 ·intro j u hj
  rw [List.getElem?_set] at hj
  split at hj
  ·rename_i hrj
   subst hrj
   simp at hj
   subst hj
   rw [e1]
   have:bs (rows r++[x])=bs (rows r)++[.int .u8 x.toNat]:=by simp [bs]
   rw [this,List.length_append]
   exact ownsRow_setCell_below hown (by exact hlt) _
  ·rename_i hrj
   rw [e2 j (fun h=>hrj h.symm)]
   refine ownsRow_setCell_below ((owns_below (h.row j u hj) hbW (Nat.le_refl _)).kept hgrow ?_) (by exact hlt) _
   exact h.apart j r u v (fun h=>hrj h.symm) hj hr
 ·have key:∀j u,j≠r→vs[j]?=some u→u.ownBlock=none∨u.ownBlock≠some g:=by
   intro j u hjr hj
   rcases hat with hat | hat
   ·have:=h.apart j r u v hjr hj hr
    rw [hat] at this
    exact this
   ·refine .inr ?_
    intro hc
    have:=((h.row j u hj).lt g hc).2
    have:=hbW.size
    omega
  intro i j vi vj hij hi hj
  rw [List.getElem?_set] at hi hj
  split at hi
  ·rename_i hri
   subst hri
   rw [if_neg (by omega)] at hj
   simp at hi
   subst hi
   rcases key j vj (by omega) hj with h' | h'
   ·exact .inr (by rw [h'];simp [Value.ownBlock])
   ·exact .inr (fun hc=>h' (by rw [←hc];rfl))
  ·rename_i hri
   split at hj
   ·rename_i hrj
    subst hrj
    simp at hj
    subst hj
    exact key i vi (by omega) hi
   ·exact h.apart i j vi vj hij hi hj
 ·have:=hgrow.size
  have:=hbW.size
  have:=h.le
  have e:(w1.setCell ⟨g0,r,none⟩ (.slice (some ⟨g,0,none⟩) ((rows r).length+1) cap)).heap.size=w1.heap.size:=by simp
  rw [e];omega
theorem Deal.others {w W w1:World} {base g0 width B2 r:Nat} {rows:Nat→List UInt8} {vs:List Value} {v u:Value} (h:Deal w base g0 width B2 rows vs) (hr:vs[r]?=some v)
  (hbW:Below w.heap.size w W) (hgrow:W.grownBy w1 v.ownBlock) (k:Nat) (hk:k<B2) (hne:k≠g0):(w1.setCell ⟨g0,r,none⟩ u).heap[k]?=w.heap[k]?:=by
 have hv:=h.row r v hr
 have hle:=h.le
 rw [Below.heap_setCell _ _ _ _ (by exact hne),hgrow.block k (by have:=hbW.size;omega) ?_,hbW.block k (by omega)]
 intro hc
 have:=(hv.lt k hc.symm).1
 omega
theorem Deal.cell {w:World} {base g0 width B2 r:Nat} {rows:Nat→List UInt8} {vs:List Value} (h:Deal w base g0 width B2 rows vs) (hr:r<width):∃v,vs[r]?=some v∧w.cell? ⟨g0,r,none⟩=some v∧w.frozen? ⟨g0,r,none⟩=false∧w.ownsRow B2 5 1 v (rows r).length (bs (rows r)):=by
 have hl:=(block_of_owns h.own).2.2
 obtain ⟨v,hv⟩:∃v,vs[r]?=some v:=⟨_,List.getElem?_eq_getElem (by omega)⟩
 exact ⟨v,hv,by rw [h.own.cellAt r (by omega)];exact hv,h.own.frozenAt r,h.row r v hv⟩
theorem Deal.full {w:World} {base g0 width B2:Nat} {rows:Nat→List UInt8} {vs:List Value} (h:Deal w base g0 width B2 rows vs):RdRows w (some ⟨g0,0,none⟩) ((List.range width).map rows):=by
 have hl:=(block_of_owns h.own).2.2
 refine ⟨vs,by simp [hl],owns_rd h.own,fun k v hv=>?_⟩
 have hk:k<width:=by
  rcases Nat.lt_or_ge k width with h' | h'
  ·exact h'
  ·rw [List.getElem?_eq_none (by omega)] at hv;simp at hv
 obtain ⟨a,cap,h1,h2⟩:=owns_any_rd (h.row k v hv)
 exact ⟨a,cap,by simpa [hk] using h1,by simpa [hk] using h2⟩
theorem Deal.start {w:World} {base g0 width B2:Nat} (h:w.ownsRow base 44 1 (.slice (some ⟨g0,0,none⟩) width width) width (List.replicate width (.slice none 0 0))) (h1:g0<B2) (h2:B2≤w.heap.size) :
  Deal w base g0 width B2 (fun _=>[]) (List.replicate width (.slice none 0 0)):=by
 refine ⟨h,?_,?_,h1,h2⟩
 ·intro j v hj
  rw [List.getElem?_replicate] at hj
  split at hj
  ·simp at hj;subst hj;exact World.ownsRow_nil _ _ _ _
  ·cases hj
 ·intro i j vi vj _ hi _
  rw [List.getElem?_replicate] at hi
  split at hi
  ·simp at hi;subst hi;exact .inl rfl
  ·cases hi
end Go.Proofs.YtcegdgmbponapabGreatDoor