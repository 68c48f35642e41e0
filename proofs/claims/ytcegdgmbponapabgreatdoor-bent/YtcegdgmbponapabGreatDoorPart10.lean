/-
  A vault that is read: object, store, openStore.
  Package shard: numbers, heads, tags.
  slices.Concat of bytes, of any number of rows.
  The head of a shard.
-/
import Derived.Test.YtcegdgmbponapabGreatDoorPart09
import Derived.Test.YtcegdgmbponapabGreatDoorClone
namespace Go.Proofs.YtcegdgmbponapabGreatDoor
open Go.RowKit
attribute [local go_sem ↓] Go.wp_at_zero Go.wp_at_succ
structure Rdy (w:World) (V key n B bc:Nat) (sp:Nat→Nat):Prop where
 va:Va w V key n B 0 bc sp
 c5:w.cell? ⟨V,5,none⟩=some (.bool false)
 n1:1≤n
 n8:n≤8
theorem Rdy.keeps {B':Nat} {w w':World} {V key n B bc:Nat} {sp:Nat→Nat} (h:Rdy w V key n B bc sp) (hb:Below B' w w') (hB:w.heap.size≤B'):Rdy w' V key n B bc sp :=
 ⟨h.va.keeps hb hB,by rw [hb.cell (by exact Nat.lt_of_lt_of_le h.va.lt hB)];exact h.c5,h.n1,h.n8⟩
theorem Rdy.st {w:World} {V key n B bc:Nat} {sp:Nat→Nat} (h:Rdy w V key n B bc sp) (i:Nat) (hi:i<n):w.cell? ⟨B,i,none⟩=some (.pointer (some ⟨sp i,0,none⟩)):=by
 have:=h.va.st i hi
 rwa [Nat.zero_add] at this
theorem Vt.rdy {w:World} {V key n B bc:Nat} {sp:Nat→Nat} {done:Int} {crashes:Bool} {ahead:Int} (h:Vt w V key n B bc sp done crashes ahead false) (h1:1≤n) (h8:n≤8):Rdy w V key n B bc sp :=
 ⟨h.va,by rw [cells_at h.hp];rfl,h1,h8⟩
set_option maxRecDepth 100000 in
theorem sclone_any (s:ByteArray) (w:World) (h:s.size≤281474976710656) :
  Calls Tryz.prog 57 #[.string s] w fun e w'=>e=.returned (.string s)∧Below w.heap.size w w':=by
 have H:=hid (Tryz.stringslite_Clone s w h)
 go_enter Tryz.func57,Tryz.ntmps57
 go_wp2_with fail
 refine H.out.mono ?_
 rintro e w1 ⟨rfl,hb1⟩
 go_wp2
 go_ret
 exact ⟨rfl,hb1⟩
set_option maxRecDepth 100000 in
set_option maxHeartbeats 1000000 in
theorem object_yes (V key n B bc:Nat) (sp:Nat→Nat) (down:Bool) (a:Option Addr) (c:Nat) (rs:List RecV) (r:RecV) (nm:ByteArray) (w:World) (h:Rdy w V key n B bc sp) (hs:St w (sp 0) down a c rs) (hyes:hasName rs nm=true) (hr:r=rs[posOf rs nm]!) :
  Calls Tryz.prog 61 #[.pointer (some ⟨V,0,none⟩),.string nm] w fun e w' =>
   e=.returned (.tuple #[.agg #[.string r.name,.int .i64 r.mode,.int .i64 r.t,.int .i64 r.l,.int .i64 r.size,.int .i64 r.epoch],.nilIface])∧Below w.heap.size w w':=by
 have hba:=(Below.refl w.heap.size w).alloc (Nat.le_refl _) (.cells #[.string ByteArray.empty,.int .i64 0,.int .i64 0,.int .i64 0,.int .i64 0,.int .i64 0] 65)
 have hR:=h.keeps hba (Nat.le_refl _)
 have c5:=hR.c5
 have c1:=hR.va.c1
 have k0:=hR.st 0 (by have:=h.n1;omega)
 have HC:=hid (check_fine V _ c5)
 have HREC:=hid (record_yes (sp 0) down a c rs r nm _ (hs.keeps hba (Nat.le_refl _)) hyes hr)
 have hn1:(0:Int)<(n:Int):=by have:=h.n1;omega
 have hVlt:¬V=w.heap.size:=by have:=h.va.lt;omega
 clear h hs hyes hr hR
 go_enter Tryz.func61,Tryz.ntmps61
 go_wp2_with (go_at_call 70;refine HC.out.mono ?_;rintro e w0 ⟨rfl,rfl⟩)
 refine HREC.out.mono ?_
 rintro e w1 ⟨rfl,hb1⟩
 have hc1:∀o,w1.cell? ⟨w.heap.size,o,none⟩=_:=fun o=>(bcell hb1).1 w.heap.size o (by simp)
 have hf1:∀o,w1.frozen? ⟨w.heap.size,o,none⟩=_:=fun o=>(bcell hb1).2 w.heap.size o (by simp)
 have hz1:w.heap.size<w1.heap.size:=by have:=hb1.size;simp at this;omega
 have hb01:Below w.heap.size w w1:=hba.trans (hb1.mono (by simp))
 have hz1':¬w.heap.size=w1.heap.size:=by omega
 go_wp2_with fail
 refine bodyPost_ret (v:=.tuple #[.agg #[.string r.name,.int .i64 r.mode,.int .i64 r.t,.int .i64 r.l,.int .i64 r.size,.int .i64 r.epoch],.nilIface]) ?_ rfl ⟨rfl,?_⟩
 ·simp [results,Tryz.results61,go_sem,World.cell?_alloc_lt,hz1,hc1]
 ·exact ((((((hb01.setCell (Nat.le_refl _) _).setCell (Nat.le_refl _) _).setCell (Nat.le_refl _) _).setCell (Nat.le_refl _) _).setCell (Nat.le_refl _) _).setCell (Nat.le_refl _) _).alloc (by simp;omega) _
set_option maxRecDepth 100000 in
set_option maxHeartbeats 1000000 in
theorem object_no (V key n B bc:Nat) (sp:Nat→Nat) (down:Bool) (a:Option Addr) (c:Nat) (rs:List RecV) (nm:ByteArray) (w:World) (h:Rdy w V key n B bc sp) (hs:St w (sp 0) down a c rs) (hno:hasName rs nm=false) :
  Calls Tryz.prog 61 #[.pointer (some ⟨V,0,none⟩),.string nm] w fun e w' =>
   ∃ev,e=.returned (.tuple #[.agg #[.string ByteArray.empty,.int .i64 0,.int .i64 0,.int .i64 0,.int .i64 0,.int .i64 0],ev])∧Chain w' 9 1 ev∧Below w.heap.size w w':=by
 have hba:=(Below.refl w.heap.size w).alloc (Nat.le_refl _) (.cells #[.string ByteArray.empty,.int .i64 0,.int .i64 0,.int .i64 0,.int .i64 0,.int .i64 0] 65)
 have hR:=h.keeps hba (Nat.le_refl _)
 have c5:=hR.c5
 have c1:=hR.va.c1
 have k0:=hR.st 0 (by have:=h.n1;omega)
 have HC:=hid (check_fine V _ c5)
 have HREC:=hid (record_no (sp 0) down a c rs nm _ (hs.keeps hba (Nat.le_refl _)) hno)
 have hn1:(0:Int)<(n:Int):=by have:=h.n1;omega
 have hVlt:¬V=w.heap.size:=by have:=h.va.lt;omega
 clear h hs hno hR
 go_enter Tryz.func61,Tryz.ntmps61
 go_wp2_with (go_at_call 70;refine HC.out.mono ?_;rintro e w0 ⟨rfl,rfl⟩)
 refine HREC.out.mono ?_
 rintro e w1 ⟨ev,rfl,hch,hb1⟩
 have hc1:∀o,w1.cell? ⟨w.heap.size,o,none⟩=_:=fun o=>(bcell hb1).1 w.heap.size o (by simp)
 have hf1:∀o,w1.frozen? ⟨w.heap.size,o,none⟩=_:=fun o=>(bcell hb1).2 w.heap.size o (by simp)
 have hz1:w.heap.size<w1.heap.size:=by have:=hb1.size;simp at this;omega
 have hb01:Below w.heap.size w w1:=hba.trans (hb1.mono (by simp))
 have d1:w1.cell? ⟨w.heap.size,1,none⟩=some (.int .i64 0):=by rw [hc1];simp
 have HCH:=hid hch
 obtain ⟨te,ve,rfl⟩:=hch.shape
 clear hch
 go_wp2_with fail
 refine bodyPost_ret (v:=.tuple #[.agg #[.string ByteArray.empty,.int .i64 0,.int .i64 0,.int .i64 0,.int .i64 0,.int .i64 0],.iface te ve]) ?_ rfl ⟨_,rfl,?_,?_⟩
 ·simp [results,Tryz.results61,go_sem,World.cell?_alloc_lt,hz1,hc1]
 ·refine Chain.keeps ?_ ((Below.refl _ _).alloc (Nat.le_refl _) _) (Nat.le_refl _)
  exact HCH.out.other w.heap.size (by intro t v;rw [d1];simp) (fun b hb=>by simp [Below.heap_setCell,hb]) (by simp)
 ·exact ((((((hb01.setCell (Nat.le_refl _) _).setCell (Nat.le_refl _) _).setCell (Nat.le_refl _) _).setCell (Nat.le_refl _) _).setCell (Nat.le_refl _) _).setCell (Nat.le_refl _) _).alloc (by simp;omega) _
set_option maxRecDepth 100000 in
theorem store_yes (V key n B bc:Nat) (sp:Nat→Nat) (i:Nat) (w:World) (h:Rdy w V key n B bc sp) (hi:i<n) :
  Calls Tryz.prog 65 #[.pointer (some ⟨V,0,none⟩),.int .i64 i] w fun e w'=>e=.returned (.tuple #[.pointer (some ⟨sp i,0,none⟩),.nilIface])∧w'=w:=by
 have c1:=h.va.c1
 have k:=h.st i hi
 have hi':(i:Int)<(n:Int):=by omega
 have hi0:¬(i:Int)<0:=by omega
 clear h
 go_enter Tryz.func65,Tryz.ntmps65
 go_wp2
 go_ret2
 exact ⟨rfl,rfl⟩
set_option maxRecDepth 100000 in
theorem openStore_yes (V key n B bc:Nat) (sp:Nat→Nat) (i:Nat) (w:World) (h:Rdy w V key n B bc sp) (hi:i<n) :
  Calls Tryz.prog 67 #[.pointer (some ⟨V,0,none⟩),.int .i64 i] w fun e w'=>e=.returned (.tuple #[.pointer (some ⟨sp i,0,none⟩),.nilIface])∧w'=w:=by
 have HC:=hid (check_fine V _ h.c5)
 have HS:=hid (store_yes V key n B bc sp i w h hi)
 clear h
 go_enter Tryz.func67,Tryz.ntmps67
 go_wp2_with (first | (go_at_call 70;refine HC.out.mono ?_;rintro e w0 ⟨rfl,rfl⟩)|(go_at_call 65;refine HS.out.mono ?_;rintro e w0 ⟨rfl,rfl⟩))
 go_ret2
 exact ⟨rfl,rfl⟩
end Go.Proofs.YtcegdgmbponapabGreatDoor
namespace Go.Proofs.YtcegdgmbponapabGreatDoor
open Go.RowKit
def Cof.high (x n:Nat):List UInt8:=(List.range n).map fun j=>UInt8.ofNat (x / 256 ^ (n-1-j))
theorem Cof.length_high (x n:Nat):(Cof.high x n).length=n:=by simp [Cof.high]
def Cof.highTo (x n k:Nat):List UInt8:=(List.range n).map fun j=>if n-k≤j then UInt8.ofNat (x / 256 ^ (n-1-j)) else 0
theorem Cof.highTo_zero (x n:Nat):Cof.highTo x n 0=List.replicate n 0:=by
 apply List.ext_getElem
 ·simp [Cof.highTo]
 ·intro i h1 h2
  simp [Cof.highTo] at h1 ⊢
  intro h;omega
theorem Cof.highTo_full (x n:Nat):Cof.highTo x n n=Cof.high x n:=by
 apply List.map_congr_left
 intro i hi
 simp
theorem Cof.length_highTo (x n k:Nat):(Cof.highTo x n k).length=n:=by simp [Cof.highTo]
theorem Cof.highTo_set (x n k:Nat) (h:k<n):(Cof.highTo x n k).set (n-1-k) (UInt8.ofNat (x / 256 ^ k))=Cof.highTo x n (k+1):=by
 apply List.ext_getElem
 ·simp [Cof.highTo]
 ·intro i h1 h2
  simp only [List.getElem_set]
  split
  ·rename_i e;subst e
   simp only [Cof.highTo,List.getElem_map,List.getElem_range]
   rw [if_pos (by omega),show n-1-(n-1-k)=k by omega]
  ·rename_i e
   simp only [Cof.highTo,List.getElem_map,List.getElem_range]
   simp [Cof.highTo] at h1
   by_cases hi:n-k≤i
   ·simp [hi,show n-(k+1)≤i by omega]
   ·simp [hi,show ¬n-(k+1)≤i by omega]
theorem high_byte (x k:Nat):(x:Int) / 2 ^ (8*k) % 256=((UInt8.ofNat (x / 256 ^ k)).toNat:Int):=by
 have h1:(2:Int) ^ (8*k)=((256 ^ k:Nat):Int):=by rw [Int.pow_mul];norm_cast
 rw [h1,UInt8.toNat_ofNat',←Int.natCast_ediv,show (256:Int)=((2 ^ 8:Nat):Int) from rfl,←Int.natCast_emod]
set_option maxRecDepth 100000 in
set_option maxHeartbeats 1000000 in
theorem highFirst_any (x n:Nat) (w:World) (hn:n≤8) :
  Calls Tryz.prog 104 #[.int .u64 x,.int .i64 n] w fun e w' =>
   ∃g,e=.returned (.slice (some ⟨g,0,none⟩) n n)∧w'.ownsRow w.heap.size 5 1 (.slice (some ⟨g,0,none⟩) n n) n (bs (Cof.high x n))∧Below w.heap.size w w':=by
 obtain ⟨i0,hi,hz0,hz1,hz2⟩:=info_parts Tryz.info5
 go_enter Tryz.func104,Tryz.ntmps104
 go_wp2_with (first | (at_make;refine wpList_make_full _ rfl (.tmp 7) (.tmp 7) 44 rfl w.heap.size 5 i0 (.int .u8 0) 1 Tryz.underlying44 hi hz0 hz1 .i64 .i64 _ _ n rfl rfl rfl rfl (by rw [hz2];omega) (by unfold maxLen;omega) (Nat.le_refl _) ?_;intro w1 hown1 hgrow1;have hb1:=grown_below hgrow1;have HO1:=hid (made_row hown1);clear hown1 hgrow1)|fail)
 go_loopw [11] (fun i wr=>∃k:Nat,k≤n∧i=.int .i64 k∧wr.ownsRow w.heap.size 5 1 (.slice (some ⟨w.heap.size,0,none⟩) n n) n (bs (Cof.highTo x n k))∧Below w.heap.size w wr) (fun i _=>n-(intOf i).toNat)
 case atStart =>
  refine ⟨0,Nat.zero_le _,rfl,?_,hb1⟩
  rw [Cof.highTo_zero]
  exact HO1.out
 case round =>
  obtain ⟨k,hk,rfl,hown,hbel⟩:=hrel
  by_cases hlt:k<n
  ·have hs:=hown.frozenAt (n-1-k)
   have hc:=(hown.cellAt (n-1-k) (by omega)).trans (bs_get (Cof.highTo x n k) (n-1-k) (by rw [Cof.length_highTo];omega))
   have HST:=hid (store_any (k:=n-1-k) hown (UInt8.ofNat (x / 256 ^ k)))
   have hlt':(k:Int)<(n:Int):=by omega
   clear hown
   rw [Cof.highTo_set x n k hlt] at HST
   go_wp2
   go_roundw
   case rel=>exact ⟨k+1,by omega,by go_num,by rw [high_byte];exact HST.out,hbel.setCell (Nat.le_refl _) _⟩
   case measure=>simp [intOf];omega
  ·have hkn:k=n:=by omega
   subst hkn
   rw [Cof.highTo_full] at hown
   go_wp2
   go_ret
   exact ⟨_,rfl,hown,hbel⟩
def Cof.tagStep (t:Nat) (b:UInt8):Nat:=(t^^^b.toNat)*1099511628211 % 18446744073709551616
def Cof.tag (key:Nat) (xs:List UInt8):Nat:=xs.foldl Cof.tagStep (14695981039346656037^^^key)
theorem Cof.fold_lt (xs:List UInt8):∀s,s<18446744073709551616→xs.foldl Cof.tagStep s<18446744073709551616:=by
 induction xs with
 | nil=>intro s h;rw [List.foldl_nil];exact h
 | cons x xs ih =>
  intro s _
  rw [List.foldl_cons]
  apply ih
  unfold Cof.tagStep
  exact Nat.mod_lt _ (by decide)
theorem Cof.fold_snoc (s:Nat) (xs:List UInt8) (k:Nat) (h:k<xs.length):(xs.take (k+1)).foldl Cof.tagStep s=Cof.tagStep ((xs.take k).foldl Cof.tagStep s) xs[k]:=by
 rw [List.take_succ_eq_append_getElem h,List.foldl_append,List.foldl_cons,List.foldl_nil]
theorem tag_start_lt (key:Nat) (hk:key<18446744073709551616):14695981039346656037^^^key<18446744073709551616:=by
 have h1:14695981039346656037<2 ^ 64:=by decide
 generalize 14695981039346656037=c at *
 exact Nat.xor_lt_two_pow (n:=64) h1 hk
theorem Cof.tag_lt (key:Nat) (hk:key<18446744073709551616) (xs:List UInt8):Cof.tag key xs<18446744073709551616:=by
 unfold Cof.tag
 exact Cof.fold_lt xs _ (tag_start_lt key hk)
theorem Cof.tag_snoc (key:Nat) (xs:List UInt8) (k:Nat) (h:k<xs.length):Cof.tag key (xs.take (k+1))=Cof.tagStep (Cof.tag key (xs.take k)) xs[k]:=by
 unfold Cof.tag
 rw [Cof.fold_snoc]
theorem tag_step_val (t:Nat) (x:UInt8) (hx:bits .xor .u64 (t:Int) (x.toNat:Int)=((t^^^x.toNat:Nat):Int)):IntKind.u64.wrap (bits .xor .u64 (t:Int) (IntKind.u64.wrap (x.toNat:Int))*1099511628211)=(Cof.tagStep t x:Int):=by
 have h1:IntKind.u64.wrap (x.toNat:Int)=x.toNat:=by rw [IntKind.wrap_u64];have:=x.toNat_lt;omega
 rw [h1,hx,IntKind.wrap_u64]
 unfold Cof.tagStep
 generalize t^^^x.toNat=y
 omega
theorem tag_nil (key:Nat):Cof.tag key []=14695981039346656037^^^key:=by unfold Cof.tag;rw [List.foldl_nil]
theorem tag_xor (t:Nat) (b:UInt8) (ht:t<18446744073709551616):bits .xor .u64 (t:Int) (b.toNat:Int)=((t^^^b.toNat:Nat):Int):=bits_xor_u64_nat _ _ ht (Nat.lt_trans b.toNat_lt (by decide))
theorem tag_start (key:Nat) (hk:key<18446744073709551616):bits .xor .u64 (14695981039346656037:Int) (key:Int)=(Cof.tag key []:Int):=by
 rw [tag_nil]
 exact bits_xor_u64_nat 14695981039346656037 key (by decide) hk
set_option maxRecDepth 100000 in
set_option maxHeartbeats 1000000 in
theorem tagOf_any (a:Option Addr) (m c:Nat) (xs:List UInt8) (key:Nat) (w:World) (em:m=xs.length) (hr:Rd w a (bs xs)) (hm:m≤1000) (hk:key<18446744073709551616) :
  Calls Tryz.prog 126 #[.slice a m c,.int .u64 key] w fun e w' =>
   ∃g,e=.returned (.slice (some ⟨g,0,none⟩) 8 8)∧w'.ownsRow w.heap.size 5 1 (.slice (some ⟨g,0,none⟩) 8 8) 8 (bs (Cof.high (Cof.tag key xs) 8))∧Below w.heap.size w w':=by
 have EM:=hid em
 have h0:=tag_start key hk
 have HK:=hid hk
 clear em hk
 go_enter Tryz.func126,Tryz.ntmps126
 go_wp2
 go_loopw [5,12] (fun t i wr=>∃k:Nat,k≤m∧i=.int .i64 k∧t=.int .u64 (Cof.tag key (xs.take k))∧wr=w) (fun _ i _=>m-(intOf i).toNat)
 case atStart=>exact ⟨0,Nat.zero_le _,rfl,by rw [List.take_zero,←h0],rfl⟩
 case round =>
  obtain ⟨k,hk,rfl,rfl,rfl⟩:=hrel
  by_cases hlt:k<m
  ·have hkl:k<xs.length:=by rw [←EM.out];exact hlt
   obtain ⟨b,o,rfl,hb,hcell⟩:=hr.pos (by rw [bs_length];omega)
   have hc:wr.cell? ⟨b,o+k,none⟩=some (.int .u8 xs[k].toNat):=hcell k _ (by rw [bs_get _ _ hkl];simp [hkl])
   have HT:=hid (Cof.tag_snoc key xs k hkl)
   have hx:=tag_xor (Cof.tag key (xs.take k)) xs[k] (Cof.tag_lt key HK.out _)
   generalize xs[k]=x at *
   generalize Cof.tag key (xs.take k)=t at *
   clear hcell hr
   go_wp2
   go_roundw
   case rel=>exact ⟨k+1,by omega,by go_num,by rw [HT.out,←tag_step_val t x hx],trivial⟩
   case measure=>simp [intOf];omega
  ·have hkn:k=m:=by omega
   subst hkn
   have HTK:=hid (show xs.take k=xs by rw [EM.out];exact List.take_length)
   rw [HTK.out]
   obtain ⟨t,ht⟩:∃t,t=Cof.tag key xs:=⟨_,rfl⟩
   rw [←ht]
   have HV:=hid ht
   clear ht
   go_wp2_with (go_at_call 104;refine (highFirst_any t 8 _ (by decide)).mono ?_;rintro e w1 ⟨g,rfl,hown,hb1⟩)
   go_ret
   rw [←HV.out]
   exact ⟨_,rfl,hown,hb1⟩
set_option maxRecDepth 100000 in
set_option maxHeartbeats 400000 in
theorem growB (n:Nat) (w:World) (hn:n≤1000) :
  Calls Tryz.prog 105 #[.slice none 0 0,.int .i64 n] w fun e w'=>∃v,e=.returned v∧w'.ownsRow w.heap.size 5 1 v 0 []∧Below w.heap.size w w':=by
 obtain ⟨i0,hi,hz0,hz1,hz2⟩:=info_parts Tryz.info5
 by_cases h0:n=0
 ·subst h0
  go_enter Tryz.func105,Tryz.ntmps105
  go_wp2
  go_ret
  exact ⟨_,rfl,World.ownsRow_nil _ _ _ _,Below.refl _ _⟩
 ·have hrun:∀ty,(Builtin.append_ #[44,3] ty #[.slice none 0 0,.int .i64 n]).run Tryz.prog w=_:=fun ty=>Lib.run_append_nil_zeros w 44 3 ty 5 i0 (Value.int .u8 0) .i64 .i64 Tryz.underlying44 Tryz.underlying3 hi hz0 n (by omega) (by omega) (by omega) (by rw [hz2];omega)
  have hg:=grownCap_ge w n 0 5
  have hm:=grownCap_le_maxLen w n 0 5 (by unfold maxLen;omega)
  have HO:=hid (grown_room w 5 (Value.int .u8 0) n (grownCap w n 0 5) rfl hg hm)
  have HB:=hid (((Below.refl w.heap.size w).drew).alloc (Nat.le_refl _) (.cells (Builtin.zeroCells (Value.int .u8 0).cells n++Builtin.zeroCells (Value.int .u8 0).cells (grownCap w n 0 5-n)) 5))
  generalize grownCap w n 0 5=cap at *
  generalize (w.drew.alloc (.cells (Builtin.zeroCells (Value.int .u8 0).cells n++Builtin.zeroCells (Value.int .u8 0).cells (cap-n)) 5))=w1 at *
  have HR:=hid hrun
  clear hrun
  unfold maxLen at hm
  go_enter Tryz.func105,Tryz.ntmps105
  go_wp2_with (first | (at_builtin;refine Lib.wpList_append_run _ rfl (.tmp 20) (.tmp 21) _ _ rfl _ _ rfl rfl _ _ (HR.out _) ?_)|fail)
  go_ret
  exact ⟨_,rfl,HO.out,HB.out⟩
def flat (X:Nat→List UInt8) (k:Nat):List UInt8:=(List.range k).flatMap X
theorem flat_zero (X:Nat→List UInt8):flat X 0=[]:=by simp [flat]
theorem flat_succ (X:Nat→List UInt8) (k:Nat):flat X (k+1)=flat X k++X k:=by
 unfold flat;rw [List.range_succ,List.flatMap_append];simp
theorem flat_len (X:Nat→List UInt8) (M B:Nat) (h:∀k,k<M→(X k).length≤B):∀k,k≤M→(flat X k).length≤k*B:=by
 intro k
 induction k with
 | zero=>intro _;simp [flat]
 | succ k ih =>
  intro hk
  rw [flat_succ,List.length_append,Nat.succ_mul]
  exact Nat.add_le_add (ih (by omega)) (h k (by omega))
set_option maxRecDepth 100000 in
set_option maxHeartbeats 1000000 in
theorem concatB (b M c:Nat) (A:Nat→Option Addr) (N C:Nat→Nat) (X:Nat→List UInt8) (w:World) (hbs:b<w.heap.size) (hM:M≤10)
  (hc:∀k,k<M→w.cell? ⟨b,k,none⟩=some (.slice (A k) (N k) (C k))∧Rd w (A k) (bs (X k))∧(X k).length=N k∧N k≤70∧(A k=none→C k=0)) :
  Calls Tryz.prog 74 #[.slice (some ⟨b,0,none⟩) M c] w fun e w'=>∃v,e=.returned v∧w'.ownsRow w.heap.size 5 1 v (flat X M).length (bs (flat X M))∧Below w.heap.size w w':=by
 obtain ⟨i0,hi,hz0,hz1,hz2⟩:=info_parts Tryz.info5
 have HC:=hid hc
 have hfl:=flat_len X M 70 (fun k hk=>by obtain ⟨_,_,h3,h4,_⟩:=hc k hk;omega)
 have HFL:=hid hfl
 clear hc hfl
 go_enter Tryz.func74,Tryz.ntmps74
 go_wp2
 go_loopw [3,11] (fun s i wr=>∃k:Nat,k≤M∧i=.int .i64 k∧s=.int .i64 ((flat X k).length:Nat)∧wr=w) (fun _ i _=>M-(intOf i).toNat)
 case atStart=>exact ⟨0,Nat.zero_le _,rfl,by simp [flat],rfl⟩
 case round =>
  obtain ⟨k,hk,rfl,rfl,rfl⟩:=hrel
  by_cases hlt:k<M
  ·obtain ⟨h1,h2,h3,h4,h5⟩:=HC.out k hlt
   have HL:=hid (show (flat X (k+1)).length=(flat X k).length+N k by rw [flat_succ,List.length_append,h3])
   have hb:=HFL.out k hk
   have hq:k*70≤10*70:=Nat.mul_le_mul_right _ (by omega)
   generalize (flat X k).length=s at *
   generalize N k=n at *
   generalize A k=a at *
   generalize C k=cc at *
   have hlt':(k:Int)<(M:Int):=by omega
   clear h2 h3 h5
   go_wp2
   go_roundw
   case rel=>exact ⟨k+1,by omega,by go_num,by rw [HL.out];simp,trivial⟩
   case measure=>simp [intOf];omega
  ·have hkn:k=M:=by omega
   subst hkn
   have hb:=HFL.out k (Nat.le_refl _)
   have hq:k*70≤10*70:=Nat.mul_le_mul_right _ (by omega)
   obtain ⟨S,hS⟩:∃S,S=(flat X k).length:=⟨_,rfl⟩
   have HS:=hid hS
   rw [←hS] at hb
   rw [←hS]
   clear hS
   obtain ⟨w0,hw0⟩:∃w0,w0=wr:=⟨_,rfl⟩
   obtain ⟨M,hMM⟩:∃M,M=k:=⟨_,rfl⟩
   subst hw0 hMM
   go_wp2_with fail
   refine (growB S _ (by omega)).mono ?_
   rintro e w1 ⟨v1,rfl,hown1,hb1⟩
   have HO1:=hid hown1
   have hzw:=hb1.size
   clear hown1
   go_wp2
   go_loopw [6,27] (fun v i wr=>∃k:Nat,k≤M∧i=.int .i64 k∧wr.ownsRow w0.heap.size 5 1 v (flat X k).length (bs (flat X k))∧Below w0.heap.size w0 wr) (fun _ i _=>M-(intOf i).toNat)
   case atStart=>exact ⟨0,Nat.zero_le _,rfl,by rw [flat_zero];exact HO1.out,hb1⟩
   case round =>
    obtain ⟨k,hk,rfl,hown,hbel⟩:=hrel
    have hzb:=hbel.size
    by_cases hlt:k<M
    ·obtain ⟨h1,h2,h3,h4,h5⟩:=HC.out k hlt
     have c1:wr.cell? ⟨b,k,none⟩=some (.slice (A k) (N k) (C k)):=(hbel.cell (by exact hbs)).trans h1
     have HR:=hid (h2.below hbel (Nat.le_refl _))
     have HL:=hid (show (flat X (k+1)).length=(flat X k).length+N k by rw [flat_succ,List.length_append,h3])
     have HF:=hid (show bs (flat X (k+1))=bs (flat X k)++bs (X k) by rw [flat_succ];simp [bs])
     have H3:=hid (show (bs (X k)).length=N k by rw [bs_length,h3])
     have H1:=hid (fun u hu=>bs_one (X k) u hu)
     have hbk:=HFL.out k hk
     have hqk:k*70≤10*70:=Nat.mul_le_mul_right _ (by omega)
     have HO:=hid hown
     generalize (flat X k).length=s at *
     generalize bs (flat X k)=fl at *
     generalize bs (X k)=xk at *
     generalize N k=n at *
     generalize A k=a at *
     generalize C k=cc at *
     have H5:=hid h5
     have hlt':(k:Int)<(M:Int):=by omega
     clear h1 h2 h3 h5 hown
     go_wp2_with (first | (at_builtin;refine append_src _ rfl (.tmp 31) (.tmp 32) 44 rfl w0.heap.size 5 i0 (Value.int .u8 0) 1 Tryz.underlying44 hi hz0 hz1 hz2 rfl _ s fl rfl HO.out a n cc xk rfl H3.out HR.out H5.out H1.out (by omega) (by omega) hzb ?_;intro v2 w2 hown2 hgrow2;have hb2:Below w0.heap.size w0 w2:=hbel.grown hgrow2 hzb (fun k hk=>(HO.out.lt k hk).1);have HO2:=hid hown2;clear hown2 hgrow2)|fail)
     go_roundw
     case rel=>exact ⟨k+1,by omega,by go_num,by rw [HL.out,HF.out];exact HO2.out,hb2⟩
     case measure=>simp [intOf];omega
    ·have hkn:k=M:=by omega
     subst hkn
     go_wp2
     go_ret
     exact ⟨_,rfl,hown,hbel⟩
end Go.Proofs.YtcegdgmbponapabGreatDoor
namespace Go.Proofs.YtcegdgmbponapabGreatDoor
open Go.RowKit
attribute [local go_sem ↓] Go.wp_at_zero Go.wp_at_succ
def Cof.head (mode t l n s epoch size:Nat) (name:List UInt8):List UInt8 :=
 [UInt8.ofNat mode,UInt8.ofNat t,UInt8.ofNat l,UInt8.ofNat n,UInt8.ofNat s]++(Cof.high epoch 2++(Cof.high size 2++([UInt8.ofNat name.length]++name)))
theorem Cof.length_head (mode t l n s epoch size:Nat) (name:List UInt8):(Cof.head mode t l n s epoch size name).length=10+name.length:=by
 simp [Cof.head,Cof.length_high];omega
def headX (mode t l n s epoch size:Nat) (name:ByteArray):Nat→List UInt8
 | 0=>[UInt8.ofNat mode,UInt8.ofNat t,UInt8.ofNat l,UInt8.ofNat n,UInt8.ofNat s]
 | 1=>Cof.high epoch 2
 | 2=>Cof.high size 2
 | 3=>[UInt8.ofNat name.size]
 | _=>name.data.toList
def RowV (X:List UInt8) (v:Value) (w:World):Prop:=∃a c,v=.slice a X.length c∧Rd w a (bs X)∧(a=none→c=0)
theorem RowV.keeps {X:List UInt8} {v:Value} {w w':World} (h:RowV X v w) (hb:Below w.heap.size w w'):RowV X v w':=by
 obtain ⟨a,c,h1,h2,h3⟩:=h
 exact ⟨a,c,h1,h2.below hb (Nat.le_refl _),h3⟩
def RowsV (X:Nat→List UInt8) (M:Nat) (v:Value) (w:World):Prop:=∃g,v=.slice (some ⟨g,0,none⟩) M M∧g<w.heap.size∧∀k,k<M→∃u,w.cell? ⟨g,k,none⟩=some u∧RowV (X k) u w
theorem RowsV.keeps {X:Nat→List UInt8} {M:Nat} {v:Value} {w w':World} (h:RowsV X M v w) (hb:Below w.heap.size w w'):RowsV X M v w':=by
 obtain ⟨g,h1,h2,h3⟩:=h
 refine ⟨g,h1,Nat.lt_of_lt_of_le h2 hb.size,fun k hk=>?_⟩
 obtain ⟨u,h4,h5⟩:=h3 k hk
 exact ⟨u,by rw [hb.cell (by exact h2)];exact h4,h5.keeps hb⟩
def headR (B mode t l n s epoch size:Nat) (name:ByteArray):Nat→Value→World→Prop
 | 0,v,_=>v=.pointer (some ⟨B+1,0,none⟩)
 | 1,v,_=>v=.int .i64 mode
 | 2,v,_=>v=.int .u8 mode
 | 3,v,_=>v=.pointer (some ⟨B+1,1,none⟩)
 | 4,v,_=>v=.int .i64 t
 | 5,v,_=>v=.int .u8 t
 | 6,v,_=>v=.pointer (some ⟨B+1,2,none⟩)
 | 7,v,_=>v=.int .i64 l
 | 8,v,_=>v=.int .u8 l
 | 9,v,_=>v=.pointer (some ⟨B,6,none⟩)
 | 10,v,_=>v=.int .i64 n
 | 11,v,_=>v=.int .u8 n
 | 12,v,_=>v=.pointer (some ⟨B,7,none⟩)
 | 13,v,_=>v=.int .i64 s
 | 14,v,_=>v=.int .u8 s
 | 15,v,w=>RowV (headX mode t l n s epoch size name 0) v w
 | 16,v,_=>v=.pointer (some ⟨B,0,none⟩)
 | 17,v,_=>v=.pointer (some ⟨B,5,none⟩)
 | 18,v,_=>v=.int .i64 epoch
 | 19,v,_=>v=.int .u64 epoch
 | 20,v,w=>RowV (headX mode t l n s epoch size name 1) v w
 | 21,v,_=>v=.pointer (some ⟨B,0,none⟩)
 | 22,v,_=>v=.pointer (some ⟨B,4,none⟩)
 | 23,v,_=>v=.int .i64 size
 | 24,v,_=>v=.int .u64 size
 | 25,v,w=>RowV (headX mode t l n s epoch size name 2) v w
 | 26,v,_=>v=.string name
 | 27,v,_=>v=.int .i64 name.size
 | 28,v,_=>v=.int .u8 name.size
 | 29,v,w=>RowV (headX mode t l n s epoch size name 3) v w
 | 30,v,_=>v=.string name
 | 31,v,w=>RowV (headX mode t l n s epoch size name 4) v w
 | 32,v,w=>RowsV (headX mode t l n s epoch size name) 5 v w
 | 33,v,w=>w.ownsRow B 5 1 v (10+name.size) (bs (Cof.head mode t l n s epoch size name.data.toList))
 | 34,v,w=>w.ownsRow B 5 1 v (10+name.size) (bs (Cof.head mode t l n s epoch size name.data.toList))
 | _,_,_=>False
theorem headR_keeps (B mode t l n s epoch size:Nat) (name:ByteArray) (j:Nat) (v:Value) (w w':World) (h:headR B mode t l n s epoch size name j v w) (hb:Below w.heap.size w w'):headR B mode t l n s epoch size name j v w':=by
 unfold headR at h ⊢
 split at h<;>first | exact h | exact RowV.keeps h hb | exact RowsV.keeps h hb | exact owns_below h hb (Nat.le_refl _)|exact False.elim h
theorem alloc_rd (w:World) (e:TypeId) (L:List Value) (h:L.length≤100):Rd (w.alloc (.cells L.toArray e)) (some ⟨w.heap.size,0,none⟩) L :=
 owns_rd (owns_of_block (base:=0) (e:=e) (by show (w.heap.push _)[w.heap.size]?=_;simp) (Nat.zero_le _) rfl (by unfold maxLen;omega))
theorem concatV (X:Nat→List UInt8) (M:Nat) (v:Value) (w:World) (hM:M≤10) (h:RowsV X M v w) (hX:∀k,k<M→(X k).length≤70) :
  Calls Tryz.prog 74 #[v] w fun e w'=>∃v,e=.returned v∧w'.ownsRow w.heap.size 5 1 v (flat X M).length (bs (flat X M))∧Below w.heap.size w w':=by
 obtain ⟨g,rfl,hg,h⟩:=h
 have h':∀k,∃p:Option Addr × Nat,k<M→w.cell? ⟨g,k,none⟩=some (.slice p.1 (X k).length p.2)∧Rd w p.1 (bs (X k))∧(p.1=none→p.2=0):=by
  intro k
  by_cases hk:k<M
  ·obtain ⟨u,h1,a,c,rfl,h2,h3⟩:=h k hk
   exact ⟨(a,c),fun _=>⟨h1,h2,h3⟩⟩
  ·exact ⟨(none,0),fun h=>absurd h hk⟩
 obtain ⟨f,hf⟩:=Classical.skolem.1 h'
 exact concatB g M M (fun k=>(f k).1) (fun k=>(X k).length) (fun k=>(f k).2) X w hg hM fun k hk=>⟨(hf k hk).1,(hf k hk).2.1,rfl,hX k hk,(hf k hk).2.2⟩
theorem wrap8 {n:Nat} (h:n<256):IntKind.u8.wrap (n:Int)=n:=by
 rw [IntKind.wrap_u8]
 omega
set_option maxRecDepth 100000 in
set_option maxHeartbeats 1000000 in
theorem head_any (mode t l n s epoch size:Nat) (name:ByteArray) (w:World) (hp:IsPlan mode t l n) (hs:s<n) (he:epoch≤100) (hz:size≤60) (hnm:name.size≤12) :
  Calls Tryz.prog 73 #[.agg #[.string name,.int .i64 mode,.int .i64 t,.int .i64 l,.int .i64 size,.int .i64 epoch,.int .i64 n,.int .i64 s]] w fun e w'=>∃v,e=.returned v∧w'.ownsRow w.heap.size 5 1 v (10+name.size) (bs (Cof.head mode t l n s epoch size name.data.toList))∧Below w.heap.size w w':=by
 go_enter Tryz.func73,Tryz.ntmps73
 go_wp2_with fail
 go_region
 obtain ⟨w1,hw1⟩:∃w1,w1=((w.alloc (.cells #[.string name,.int .i64 mode,.int .i64 t,.int .i64 l,.int .i64 size,.int .i64 epoch,.int .i64 n,.int .i64 s] 134)).alloc (.cells #[.int .i64 mode,.int .i64 t,.int .i64 l] 29)).drew:=⟨_,rfl⟩
 have hb01:Below w.heap.size w w1:=by rw [hw1];exact (((Below.refl w.heap.size w).alloc (Nat.le_refl _) _).alloc (by simp) _).drew
 have hz1:w1.heap.size=w.heap.size+2:=by rw [hw1];simp
 have k4:w1.cell? ⟨w.heap.size,4,none⟩=some (.int .i64 size):=by rw [hw1];simp
 have k5:w1.cell? ⟨w.heap.size,5,none⟩=some (.int .i64 epoch):=by rw [hw1];simp
 have k6:w1.cell? ⟨w.heap.size,6,none⟩=some (.int .i64 n):=by rw [hw1];simp
 have k7:w1.cell? ⟨w.heap.size,7,none⟩=some (.int .i64 s):=by rw [hw1];simp
 have p0:w1.cell? ⟨w.heap.size+1,0,none⟩=some (.int .i64 mode):=by rw [hw1];simp
 have p1:w1.cell? ⟨w.heap.size+1,1,none⟩=some (.int .i64 t):=by rw [hw1];simp
 have p2:w1.cell? ⟨w.heap.size+1,2,none⟩=some (.int .i64 l):=by rw [hw1];simp
 rw [←hw1]
 clear hw1
 go_wp2_with fail
 have HF:∀a:Act,(∀p∈[((1:Nat),Value.pointer (some ⟨w.heap.size,0,none⟩)),(3,.string name),(4,.pointer (some ⟨w.heap.size+1,0,none⟩))],a.tmps.getD p.1 undef=p.2)→a.tmps[1]?.getD undef=.pointer (some ⟨w.heap.size,0,none⟩)∧a.tmps[3]?.getD undef=.string name∧a.tmps[4]?.getD undef=.pointer (some ⟨w.heap.size+1,0,none⟩):=by
  intro a h
  simpa using h
 have HCELL:∀w':World,Below w1.heap.size { w1 with drawn:=w1.drawn+1 } w'→w'.cell? ⟨w.heap.size,4,none⟩=some (.int .i64 size)∧w'.cell? ⟨w.heap.size,5,none⟩=some (.int .i64 epoch)∧w'.cell? ⟨w.heap.size,6,none⟩=some (.int .i64 n)∧w'.cell? ⟨w.heap.size,7,none⟩=some (.int .i64 s)∧w'.cell? ⟨w.heap.size+1,0,none⟩=some (.int .i64 mode)∧w'.cell? ⟨w.heap.size+1,1,none⟩=some (.int .i64 t)∧w'.cell? ⟨w.heap.size+1,2,none⟩=some (.int .i64 l):=by
  intro w' hb
  exact ⟨(hb.cell (by show w.heap.size<w1.heap.size;omega)).trans k4,(hb.cell (by show w.heap.size<w1.heap.size;omega)).trans k5,(hb.cell (by show w.heap.size<w1.heap.size;omega)).trans k6,(hb.cell (by show w.heap.size<w1.heap.size;omega)).trans k7,(hb.cell (by show w.heap.size+1<w1.heap.size;omega)).trans p0,(hb.cell (by show w.heap.size+1<w1.heap.size;omega)).trans p1,(hb.cell (by show w.heap.size+1<w1.heap.size;omega)).trans p2⟩
 have hp':=hp
 obtain ⟨hn1,hn8,ht1,htn,hl1,hmd⟩:=hp'
 have e0:IntKind.u8.wrap (mode:Int)=mode:=wrap8 (by omega)
 have e1:IntKind.u8.wrap (t:Int)=t:=wrap8 (by omega)
 have e2:IntKind.u8.wrap (l:Int)=l:=wrap8 (by omega)
 have e3:IntKind.u8.wrap (n:Int)=n:=wrap8 (by omega)
 have e4:IntKind.u8.wrap (s:Int)=s:=wrap8 (by omega)
 have e5:IntKind.u8.wrap (name.size:Int)=name.size:=wrap8 (by omega)
 have e6:IntKind.u64.wrap (epoch:Int)=epoch:=by rw [IntKind.wrap_u64];omega
 have e7:IntKind.u64.wrap (size:Int)=size:=by rw [IntKind.wrap_u64];omega
 have HX0:bs (headX mode t l n s epoch size name 0)=[.int .u8 mode,.int .u8 t,.int .u8 l,.int .u8 n,.int .u8 s]:=by
  simp [headX,bs]
  omega
 have HX3:bs (headX mode t l n s epoch size name 3)=[.int .u8 name.size]:=by
  simp [headX,bs]
  omega
 have HL1:(headX mode t l n s epoch size name 1).length=2:=Cof.length_high _ _
 have HL2:(headX mode t l n s epoch size name 2).length=2:=Cof.length_high _ _
 have HL4:(headX mode t l n s epoch size name 4).length=name.size:=by simp [headX]
 have HXL:∀k,k<5→(headX mode t l n s epoch size name k).length≤70:=by
  intro k hk
  rcases show k=0∨k=1∨k=2∨k=3∨k=4 by omega with rfl | rfl | rfl | rfl | rfl<;>first | omega | (simp [headX];done)|(rw [HL4];omega)
 have HFL:flat (headX mode t l n s epoch size name) 5=Cof.head mode t l n s epoch size name.data.toList:=by
  simp [flat,headX,Cof.head,List.range_succ]
 have HLN:(Cof.head mode t l n s epoch size name.data.toList).length=10+name.size:=by rw [Cof.length_head];simp
 clear k4 k5 k6 k7 p0 p1 p2
 refine wp_region_each (by kernel_rfl) (fun i=>if i=34 then 2 else i+11) (headR w.heap.size mode t l n s epoch size name) [(1,.pointer (some ⟨w.heap.size,0,none⟩)),(3,.string name),(4,.pointer (some ⟨w.heap.size+1,0,none⟩))] 45 [1,3,4] (by kernel_rfl) rfl rfl rfl ?_ (headR_keeps w.heap.size mode t l n s epoch size name) ?_ ?_
 ·simp
 ·refine ⟨?_,?_,?_,?_,?_,?_,?_,?_,?_,?_,?_,?_,?_,?_,?_,?_,?_,?_,?_,?_,?_,?_,?_,?_,?_,?_,?_,?_,?_,?_,?_,?_,?_,?_,?_,trivial⟩
  ·intro a w' hb hf hd
   obtain ⟨f1,f3,f4⟩:=HF a hf
   obtain ⟨c4,c5,c6,c7,q0,q1,q2⟩:=HCELL w' hb
   simp [headR] at hd
   exact .inl ⟨.pointer (some ⟨w.heap.size+1,0,none⟩),w',by go_simp,Below.refl _ _,rfl⟩
  ·intro a w' hb hf hd
   obtain ⟨f1,f3,f4⟩:=HF a hf
   obtain ⟨c4,c5,c6,c7,q0,q1,q2⟩:=HCELL w' hb
   simp [headR] at hd
   exact .inl ⟨.int .i64 mode,w',by go_simp,Below.refl _ _,rfl⟩
  ·intro a w' hb hf hd
   obtain ⟨f1,f3,f4⟩:=HF a hf
   obtain ⟨c4,c5,c6,c7,q0,q1,q2⟩:=HCELL w' hb
   simp [headR] at hd
   exact .inl ⟨.int .u8 mode,w',by go_simp,Below.refl _ _,rfl⟩
  ·intro a w' hb hf hd
   obtain ⟨f1,f3,f4⟩:=HF a hf
   obtain ⟨c4,c5,c6,c7,q0,q1,q2⟩:=HCELL w' hb
   simp [headR] at hd
   exact .inl ⟨.pointer (some ⟨w.heap.size+1,1,none⟩),w',by go_simp,Below.refl _ _,rfl⟩
  ·intro a w' hb hf hd
   obtain ⟨f1,f3,f4⟩:=HF a hf
   obtain ⟨c4,c5,c6,c7,q0,q1,q2⟩:=HCELL w' hb
   simp [headR] at hd
   exact .inl ⟨.int .i64 t,w',by go_simp,Below.refl _ _,rfl⟩
  ·intro a w' hb hf hd
   obtain ⟨f1,f3,f4⟩:=HF a hf
   obtain ⟨c4,c5,c6,c7,q0,q1,q2⟩:=HCELL w' hb
   simp [headR] at hd
   exact .inl ⟨.int .u8 t,w',by go_simp,Below.refl _ _,rfl⟩
  ·intro a w' hb hf hd
   obtain ⟨f1,f3,f4⟩:=HF a hf
   obtain ⟨c4,c5,c6,c7,q0,q1,q2⟩:=HCELL w' hb
   simp [headR] at hd
   exact .inl ⟨.pointer (some ⟨w.heap.size+1,2,none⟩),w',by go_simp,Below.refl _ _,rfl⟩
  ·intro a w' hb hf hd
   obtain ⟨f1,f3,f4⟩:=HF a hf
   obtain ⟨c4,c5,c6,c7,q0,q1,q2⟩:=HCELL w' hb
   simp [headR] at hd
   exact .inl ⟨.int .i64 l,w',by go_simp,Below.refl _ _,rfl⟩
  ·intro a w' hb hf hd
   obtain ⟨f1,f3,f4⟩:=HF a hf
   obtain ⟨c4,c5,c6,c7,q0,q1,q2⟩:=HCELL w' hb
   simp [headR] at hd
   exact .inl ⟨.int .u8 l,w',by go_simp,Below.refl _ _,rfl⟩
  ·intro a w' hb hf hd
   obtain ⟨f1,f3,f4⟩:=HF a hf
   obtain ⟨c4,c5,c6,c7,q0,q1,q2⟩:=HCELL w' hb
   simp [headR] at hd
   exact .inl ⟨.pointer (some ⟨w.heap.size,6,none⟩),w',by go_simp,Below.refl _ _,rfl⟩
  ·intro a w' hb hf hd
   obtain ⟨f1,f3,f4⟩:=HF a hf
   obtain ⟨c4,c5,c6,c7,q0,q1,q2⟩:=HCELL w' hb
   simp [headR] at hd
   exact .inl ⟨.int .i64 n,w',by go_simp,Below.refl _ _,rfl⟩
  ·intro a w' hb hf hd
   obtain ⟨f1,f3,f4⟩:=HF a hf
   obtain ⟨c4,c5,c6,c7,q0,q1,q2⟩:=HCELL w' hb
   simp [headR] at hd
   exact .inl ⟨.int .u8 n,w',by go_simp,Below.refl _ _,rfl⟩
  ·intro a w' hb hf hd
   obtain ⟨f1,f3,f4⟩:=HF a hf
   obtain ⟨c4,c5,c6,c7,q0,q1,q2⟩:=HCELL w' hb
   simp [headR] at hd
   exact .inl ⟨.pointer (some ⟨w.heap.size,7,none⟩),w',by go_simp,Below.refl _ _,rfl⟩
  ·intro a w' hb hf hd
   obtain ⟨f1,f3,f4⟩:=HF a hf
   obtain ⟨c4,c5,c6,c7,q0,q1,q2⟩:=HCELL w' hb
   simp [headR] at hd
   exact .inl ⟨.int .i64 s,w',by go_simp,Below.refl _ _,rfl⟩
  ·intro a w' hb hf hd
   obtain ⟨f1,f3,f4⟩:=HF a hf
   obtain ⟨c4,c5,c6,c7,q0,q1,q2⟩:=HCELL w' hb
   simp [headR] at hd
   exact .inl ⟨.int .u8 s,w',by go_simp,Below.refl _ _,rfl⟩
  ·intro a w' hb hf hd
   obtain ⟨f1,f3,f4⟩:=HF a hf
   obtain ⟨c4,c5,c6,c7,q0,q1,q2⟩:=HCELL w' hb
   simp [headR] at hd
   refine .inl ⟨.slice (some ⟨w'.heap.size,0,none⟩) 5 5,w'.alloc (.cells #[.int .u8 mode,.int .u8 t,.int .u8 l,.int .u8 n,.int .u8 s] 5),?_,?_,?_⟩
   ·go_simp
   ·exact (Below.refl _ _).alloc (Nat.le_refl _) _
   ·exact ⟨_,_,rfl,by rw [HX0];exact alloc_rd _ _ [_,_,_,_,_] (by simp),nofun⟩
  ·intro a w' hb hf hd
   obtain ⟨f1,f3,f4⟩:=HF a hf
   obtain ⟨c4,c5,c6,c7,q0,q1,q2⟩:=HCELL w' hb
   simp [headR] at hd
   exact .inl ⟨.pointer (some ⟨w.heap.size,0,none⟩),w',by go_simp,Below.refl _ _,rfl⟩
  ·intro a w' hb hf hd
   obtain ⟨f1,f3,f4⟩:=HF a hf
   obtain ⟨c4,c5,c6,c7,q0,q1,q2⟩:=HCELL w' hb
   simp [headR] at hd
   exact .inl ⟨.pointer (some ⟨w.heap.size,5,none⟩),w',by go_simp,Below.refl _ _,rfl⟩
  ·intro a w' hb hf hd
   obtain ⟨f1,f3,f4⟩:=HF a hf
   obtain ⟨c4,c5,c6,c7,q0,q1,q2⟩:=HCELL w' hb
   simp [headR] at hd
   exact .inl ⟨.int .i64 epoch,w',by go_simp,Below.refl _ _,rfl⟩
  ·intro a w' hb hf hd
   obtain ⟨f1,f3,f4⟩:=HF a hf
   obtain ⟨c4,c5,c6,c7,q0,q1,q2⟩:=HCELL w' hb
   simp [headR] at hd
   exact .inl ⟨.int .u64 epoch,w',by go_simp,Below.refl _ _,rfl⟩
  ·intro a w' hb hf hd
   obtain ⟨f1,f3,f4⟩:=HF a hf
   obtain ⟨c4,c5,c6,c7,q0,q1,q2⟩:=HCELL w' hb
   simp [headR] at hd
   refine .inr ⟨104,#[.int .u64 epoch,.int .i64 2],by go_simp,(highFirst_any epoch 2 w' (by decide)).mono ?_⟩
   rintro e w'' ⟨g,rfl,hown,hb2⟩
   exact ⟨_,rfl,hb2,_,_,by rw [HL1],owns_rd hown,nofun⟩
  ·intro a w' hb hf hd
   obtain ⟨f1,f3,f4⟩:=HF a hf
   obtain ⟨c4,c5,c6,c7,q0,q1,q2⟩:=HCELL w' hb
   simp [headR] at hd
   exact .inl ⟨.pointer (some ⟨w.heap.size,0,none⟩),w',by go_simp,Below.refl _ _,rfl⟩
  ·intro a w' hb hf hd
   obtain ⟨f1,f3,f4⟩:=HF a hf
   obtain ⟨c4,c5,c6,c7,q0,q1,q2⟩:=HCELL w' hb
   simp [headR] at hd
   exact .inl ⟨.pointer (some ⟨w.heap.size,4,none⟩),w',by go_simp,Below.refl _ _,rfl⟩
  ·intro a w' hb hf hd
   obtain ⟨f1,f3,f4⟩:=HF a hf
   obtain ⟨c4,c5,c6,c7,q0,q1,q2⟩:=HCELL w' hb
   simp [headR] at hd
   exact .inl ⟨.int .i64 size,w',by go_simp,Below.refl _ _,rfl⟩
  ·intro a w' hb hf hd
   obtain ⟨f1,f3,f4⟩:=HF a hf
   obtain ⟨c4,c5,c6,c7,q0,q1,q2⟩:=HCELL w' hb
   simp [headR] at hd
   exact .inl ⟨.int .u64 size,w',by go_simp,Below.refl _ _,rfl⟩
  ·intro a w' hb hf hd
   obtain ⟨f1,f3,f4⟩:=HF a hf
   obtain ⟨c4,c5,c6,c7,q0,q1,q2⟩:=HCELL w' hb
   simp [headR] at hd
   refine .inr ⟨104,#[.int .u64 size,.int .i64 2],by go_simp,(highFirst_any size 2 w' (by decide)).mono ?_⟩
   rintro e w'' ⟨g,rfl,hown,hb2⟩
   exact ⟨_,rfl,hb2,_,_,by rw [HL2],owns_rd hown,nofun⟩
  ·intro a w' hb hf hd
   obtain ⟨f1,f3,f4⟩:=HF a hf
   obtain ⟨c4,c5,c6,c7,q0,q1,q2⟩:=HCELL w' hb
   simp [headR] at hd
   exact .inl ⟨.string name,w',by go_simp,Below.refl _ _,rfl⟩
  ·intro a w' hb hf hd
   obtain ⟨f1,f3,f4⟩:=HF a hf
   obtain ⟨c4,c5,c6,c7,q0,q1,q2⟩:=HCELL w' hb
   simp [headR] at hd
   exact .inl ⟨.int .i64 name.size,w',by go_simp,Below.refl _ _,rfl⟩
  ·intro a w' hb hf hd
   obtain ⟨f1,f3,f4⟩:=HF a hf
   obtain ⟨c4,c5,c6,c7,q0,q1,q2⟩:=HCELL w' hb
   simp [headR] at hd
   exact .inl ⟨.int .u8 name.size,w',by go_simp,Below.refl _ _,rfl⟩
  ·intro a w' hb hf hd
   obtain ⟨f1,f3,f4⟩:=HF a hf
   obtain ⟨c4,c5,c6,c7,q0,q1,q2⟩:=HCELL w' hb
   simp [headR] at hd
   refine .inl ⟨.slice (some ⟨w'.heap.size,0,none⟩) 1 1,w'.alloc (.cells #[.int .u8 name.size] 5),?_,?_,?_⟩
   ·go_simp
   ·exact (Below.refl _ _).alloc (Nat.le_refl _) _
   ·exact ⟨_,_,rfl,by rw [HX3];exact alloc_rd _ _ [_] (by simp),nofun⟩
  ·intro a w' hb hf hd
   obtain ⟨f1,f3,f4⟩:=HF a hf
   obtain ⟨c4,c5,c6,c7,q0,q1,q2⟩:=HCELL w' hb
   simp [headR] at hd
   exact .inl ⟨.string name,w',by go_simp,Below.refl _ _,rfl⟩
  ·intro a w' hb hf hd
   obtain ⟨f1,f3,f4⟩:=HF a hf
   obtain ⟨c4,c5,c6,c7,q0,q1,q2⟩:=HCELL w' hb
   simp [headR] at hd
   obtain ⟨cap,w2,hrun,hfb,hb2,hz2⟩:=conv_own w' name
   refine .inl ⟨.slice (some ⟨w'.heap.size,0,none⟩) name.size cap,w2,?_,hb2,?_⟩
   ·go_simp
   ·exact ⟨_,_,by rw [HL4],hfb.rd (by omega),nofun⟩
  ·intro a w' hb hf hd
   obtain ⟨f1,f3,f4⟩:=HF a hf
   obtain ⟨c4,c5,c6,c7,q0,q1,q2⟩:=HCELL w' hb
   simp [headR] at hd
   obtain ⟨⟨a0,k0,g0,r0,z0⟩,⟨a1,k1,g1,r1,z1⟩,⟨a2,k2,g2,r2,z2⟩,⟨a3,k3,g3,r3,z3⟩,⟨a4,k4,g4,r4,z4⟩⟩:=hd
   have hba:=(Below.refl w'.heap.size w').alloc (Nat.le_refl _) (.cells #[.slice a0 (headX mode t l n s epoch size name 0).length k0,.slice a1 (headX mode t l n s epoch size name 1).length k1,.slice a2 (headX mode t l n s epoch size name 2).length k2,.slice a3 (headX mode t l n s epoch size name 3).length k3,.slice a4 (headX mode t l n s epoch size name 4).length k4] 44)
   refine .inl ⟨.slice (some ⟨w'.heap.size,0,none⟩) 5 5,_,?_,hba,?_⟩
   ·go_simp
   ·refine ⟨w'.heap.size,rfl,by simp,fun k hk=>?_⟩
    rcases show k=0∨k=1∨k=2∨k=3∨k=4 by omega with rfl | rfl | rfl | rfl | rfl
    ·exact ⟨_,by simp,a0,k0,rfl,r0.below hba (Nat.le_refl _),z0⟩
    ·exact ⟨_,by simp,a1,k1,rfl,r1.below hba (Nat.le_refl _),z1⟩
    ·exact ⟨_,by simp,a2,k2,rfl,r2.below hba (Nat.le_refl _),z2⟩
    ·exact ⟨_,by simp,a3,k3,rfl,r3.below hba (Nat.le_refl _),z3⟩
    ·exact ⟨_,by simp,a4,k4,rfl,r4.below hba (Nat.le_refl _),z4⟩
  ·intro a w' hb hf hd
   obtain ⟨f1,f3,f4⟩:=HF a hf
   obtain ⟨c4,c5,c6,c7,q0,q1,q2⟩:=HCELL w' hb
   simp [headR] at hd
   refine .inr ⟨74,#[a.tmps[43]?.getD undef],by go_simp,(concatV (headX mode t l n s epoch size name) 5 _ w' (by decide) hd.1 HXL).mono ?_⟩
   rintro e w'' ⟨v,rfl,hown,hb2⟩
   rw [HFL] at hown
   refine ⟨_,rfl,hb2,?_⟩
   have:=hown.mono (show w.heap.size≤w'.heap.size by have:=hb.size;simp at this;omega)
   rw [HLN] at this
   exact this
  ·intro a w' hb hf hd
   obtain ⟨f1,f3,f4⟩:=HF a hf
   obtain ⟨c4,c5,c6,c7,q0,q1,q2⟩:=HCELL w' hb
   simp [headR] at hd
   exact .inl ⟨a.tmps[44]?.getD undef,w',by go_simp,Below.refl _ _,hd.1⟩
 ·intro a w' hdf hsz hb hf hr
  have h34:=hr 34 (by decide)
  simp [headR] at h34
  go_wp2
  refine bodyPost_ret (v:=a.tmps[2]?.getD undef) ?_ hdf ⟨_,rfl,h34,hb01.drew.trans (hb.mono (show w.heap.size≤w1.heap.size by omega))⟩
  simp [results,Tryz.results73,go_sem,hsz]
end Go.Proofs.YtcegdgmbponapabGreatDoor